import PyProof.Rows.All
import Wide.All
import OpenK.AllK
import Wide.FinOn
import HandS.ForExc
import HandS.Defaults
import HandS.IsInst
import HandS.ExcInit
import HandS.ExcField
import KE.KExcIs
import HandS.DictComp
import HandS.Iter
import HandS.Walk
import HandS.HeadHook2
import HandS.Style
import HandS.Comp
import KE.KStateDown
import Lean
import HandS.Head0
import HandS.Head1
import HandS.Head2
import HandS.HeadEnd
import HandS.HeadHook1
import PySem.Challenge.RW_scopebind_k07_errors_by_hand
set_option Elab.async false
set_option linter.all false
set_option maxRecDepth 100000
set_option maxHeartbeats 4000000
/-! The state of the abstract heap in two parts: F, what never changes again (it only grows), and L, the objects that may still change, one by one. -/
namespace Sb
open PySem L2

/-- F grows -/
def Gr (F F' : Hp) : Prop := ∀ a o, F a = some o → F' a = some o
theorem Gr.refl (F : Hp) : Gr F F := fun _ _ h => h
theorem Gr.trans {A B C : Hp} (h : Gr A B) (g : Gr B C) : Gr A C := fun a o e => g a o (h a o e)
theorem Gr.new {F : Hp} {p : Addr} {o : HO} (h : F p = none) : Gr F (upd F p o) := fun a u e => by
  rw [upd_ne (ne_of_none e h)]
  exact e

structure Has (F : Hp) (p : Addr) (o : HO) : Prop where
  h : F p = some o
theorem Has.up {F F' : Hp} {p : Addr} {o : HO} (h : Has F p o) (g : Gr F F') : Has F' p o := ⟨g _ _ h.1⟩
structure Sta (F : Hp) (L : List (Addr × HO)) (H : Hp) : Prop where
  fr : Gr F H
  own : ∀ a o, (a, o) ∈ L → H a = some o ∧ F a = none
  nd : (L.map (·.1)).Nodup

section
variable {F : Hp} {L : List (Addr × HO)} {H : Hp} {a p : Addr} {o u : HO}
theorem Sta.f (s : Sta F L H) (h : F a = some o) : H a = some o := s.fr a o h
theorem Sta.l (s : Sta F L H) (h : (a, o) ∈ L) : H a = some o := (s.own a o h).1
theorem Sta.hd (s : Sta F ((a, o) :: L) H) : H a = some o := s.l (List.mem_cons_self ..)
theorem Sta.noF (s : Sta F L H) (h : H p = none) : F p = none := by
  cases e : F p with
  | none => rfl
  | some x => rw [s.fr p x e] at h; cases h
theorem Sta.noL (s : Sta F L H) (h : H p = none) : p ∉ L.map (·.1) := fun m => by
  obtain ⟨⟨b, x⟩, hm, e⟩ := List.mem_map.mp m
  have e' : b = p := e
  subst e'
  rw [s.l hm] at h
  cases h
/-- a new object, owned -/
theorem Sta.newL (s : Sta F L H) (h : H p = none) (o : HO) : Sta F ((p, o) :: L) (upd H p o) := by
  refine ⟨fun b x e => ?_, fun b x m => ?_, ?_⟩
  · rw [upd_ne (ne_of_none (s.fr b x e) h)]
    exact s.fr b x e
  · cases m with
    | head => exact ⟨upd_same, s.noF h⟩
    | tail _ m =>
      obtain ⟨e1, e2⟩ := s.own b x m
      exact ⟨by rw [upd_ne (ne_of_none e1 h)]; exact e1, e2⟩
  · show (p :: L.map (·.1)).Nodup
    exact List.nodup_cons.mpr ⟨s.noL h, s.nd⟩
/-- a new object that never changes -/
theorem Sta.newF (s : Sta F L H) (h : H p = none) (o : HO) : Sta (upd F p o) L (upd H p o) := by
  refine ⟨fun b x e => ?_, fun b x m => ?_, s.nd⟩
  · by_cases q : b = p
    · subst q
      rw [upd_same] at e ⊢
      exact e
    · rw [upd_ne q] at e ⊢
      exact s.fr b x e
  · obtain ⟨e1, e2⟩ := s.own b x m
    have q : b ≠ p := ne_of_none e1 h
    exact ⟨by rw [upd_ne q]; exact e1, by rw [upd_ne q]; exact e2⟩
/-- a new object, forgotten -/
theorem Sta.newX (s : Sta F L H) (h : H p = none) (o : HO) : Sta F L (upd H p o) := by
  refine ⟨fun b x e => ?_, fun b x m => ?_, s.nd⟩
  · rw [upd_ne (ne_of_none (s.fr b x e) h)]
    exact s.fr b x e
  · obtain ⟨e1, e2⟩ := s.own b x m
    exact ⟨by rw [upd_ne (ne_of_none e1 h)]; exact e1, e2⟩
/-- a new object that never changes, its state by a name -/
theorem Sta.mkF (s : Sta F L H) (h : H p = none) (o : HO) : ∃ F', Sta F' L (upd H p o) ∧ Gr F F' ∧ Has F' p o := ⟨_, s.newF h o, Gr.new (s.noF h), ⟨upd_same⟩⟩
theorem Sta.noHd (s : Sta F ((a, o) :: L) H) : a ∉ L.map (·.1) := (List.nodup_cons.mp (show (a :: L.map (·.1)).Nodup from s.nd)).1
theorem Sta.ndTl (s : Sta F ((a, o) :: L) H) : (L.map (·.1)).Nodup := (List.nodup_cons.mp (show (a :: L.map (·.1)).Nodup from s.nd)).2
/-- the first owned object changes -/
theorem Sta.set (s : Sta F ((a, o) :: L) H) (u : HO) : Sta F ((a, u) :: L) (upd H a u) := by
  have na := (s.own a o (List.mem_cons_self ..)).2
  refine ⟨fun b x e => ?_, fun b x m => ?_, s.nd⟩
  · rw [upd_ne (ne_of_none e na)]
    exact s.fr b x e
  · cases m with
    | head => exact ⟨upd_same, na⟩
    | tail _ m =>
      obtain ⟨e1, e2⟩ := s.own b x (List.mem_cons_of_mem _ m)
      have q : b ≠ a := fun z => s.noHd (List.mem_map.mpr ⟨(b, x), m, z⟩)
      exact ⟨by rw [upd_ne q]; exact e1, e2⟩
/-- the first owned object is let go: it never changes again | it is forgotten -/
theorem Sta.freeze (s : Sta F ((a, o) :: L) H) : Sta (upd F a o) L H := by
  refine ⟨fun b x e => ?_, fun b x m => ?_, s.ndTl⟩
  · by_cases q : b = a
    · subst q
      rw [upd_same] at e
      cases e
      exact s.hd
    · rw [upd_ne q] at e
      exact s.fr b x e
  · obtain ⟨e1, e2⟩ := s.own b x (List.mem_cons_of_mem _ m)
    have q : b ≠ a := fun z => s.noHd (List.mem_map.mpr ⟨(b, x), m, z⟩)
    exact ⟨e1, by rw [upd_ne q]; exact e2⟩
theorem Sta.hdF (s : Sta F ((a, o) :: L) H) : F a = none := (s.own a o (List.mem_cons_self ..)).2
theorem Sta.tl (s : Sta F ((a, o) :: L) H) : Sta F L H := ⟨s.fr, fun b x m => s.own b x (List.mem_cons_of_mem _ m), s.ndTl⟩
theorem Sta.perm {L' : List (Addr × HO)} (s : Sta F L H) (e : L'.Perm L) : Sta F L' H :=
  ⟨s.fr, fun b x m => s.own b x (e.mem_iff.mp m), (e.map _).nodup_iff.mpr s.nd⟩
theorem Sta.swap {x y : Addr × HO} (s : Sta F (x :: y :: L) H) : Sta F (y :: x :: L) H := s.perm (List.Perm.swap ..)
theorem Sta.sub {F' : Hp} (s : Sta F L H) (g : Gr F' F) : Sta F' L H := by
  refine ⟨g.trans s.fr, fun b x m => ?_, s.nd⟩
  obtain ⟨e1, e2⟩ := s.own b x m
  refine ⟨e1, ?_⟩
  cases q : F' b with
  | none => rfl
  | some z => rw [g b z q] at e2; cases e2
/-- an owned object changes, wherever it stands -/
theorem Sta.put {A B : List (Addr × HO)} (s : Sta F (A ++ (a, o) :: B) H) (u : HO) : Sta F (A ++ (a, u) :: B) (upd H a u) := by
  have e : ∀ x : Addr × HO, List.Perm (x :: (A ++ B)) (A ++ x :: B) := fun x => List.perm_middle.symm
  exact ((s.perm (e _)).set u).perm (e _).symm
theorem Sta.ne (s : Sta F ((a, o) :: L) H) (h : F p = some u) : p ≠ a := ne_of_none h s.hdF
end
/-- a list | a tuple, to be read -/
theorem sq {K : PySem.W.Frag} {H : Hp} {p : Addr} {xs : List V} (h : H p = some (.lst xs)) : SqL K H p xs := .inl (.inl h)
theorem st {K : PySem.W.Frag} {H : Hp} {p : Addr} {xs : List V} (h : H p = some (.tup xs)) : SqT K H p xs := .inl (.inl h)
theorem sz {n : Nat} (h : n ≤ 100000) : n ≤ sizeLine := Nat.le_trans h (by decide)
theorem szl {n : Nat} (h : n < 100000) : n < sizeLine := Nat.lt_of_lt_of_le h (by decide)
end Sb


set_option Elab.async false
set_option linter.all false
set_option maxRecDepth 100000
set_option maxHeartbeats 4000000
/-! Errors of own classes as plain values: made, their field read, asked by isinstance. -/
namespace Sb
open PySem L2 PySem.Spec PyProof.Rows

/-- what the top says of an own error class at C -/
def excB (K : PySem.W.Frag) (C : Addr) : Bool :=
  (match K.lookup C with
    | some ⟨.type t, _, .cls cd, sl⟩ => decide (t = "type") && (match cd.mro, sl.toList with
      | .ref C' :: bm, [k0, k1, k2, k3, some (.builtin n), k5] => decide (C' = C) && decide (n = "ValueError.__new__") && cd.hasDict && !cd.hasDel && PySem.HandSPX.refsVE bm
      | _, _ => false)
    | _ => false) &&
  (decide (PySem.W.findIn K (.ref C) "__setattr__" = some (some (.builtin "object.__setattr__"))) &&
  (decide (PySem.W.subIn K (.ref C) (.type "BaseException") = some true) &&
  (decide (PySem.W.typeIn K (.ref C) = some (.type "type")) &&
  (PySem.W.keepIn K (.ref C) &&
  (xfB K C &&
  (decide (PySem.W.findIn K (.ref C) "__class__" = some (some (.builtin "object.__class__"))) &&
  (decide (PySem.W.specialIn K (.builtin "object.__class__") "__get__" = some (some (.builtin "getset_descriptor.__get__"))) &&
  (decide (PySem.W.takesIn K (.builtin "object.__class__") = some true) &&
   decide (PySem.W.mroIn K C (.type "object") = some true)))))))))
structure ExcK (K : PySem.W.Frag) (C : Addr) : Prop where
  ox : OexC K C
  xf : XfC K C
  ha : PySem.W.findIn K (.ref C) "__class__" = some (some (.builtin "object.__class__"))
  hn : PySem.W.specialIn K (.builtin "object.__class__") "__get__" = some (some (.builtin "getset_descriptor.__get__"))
  ht : PySem.W.takesIn K (.builtin "object.__class__") = some true
  hm : PySem.W.mroIn K C (.type "object") = some true
theorem and2 {a b : Bool} (h : (a && b) = true) : a = true ∧ b = true := Bool.and_eq_true_iff.mp h
theorem excB_ok {K : PySem.W.Frag} {C : Addr} (h : excB K C = true) : ExcK K C := by
  obtain ⟨h0, h⟩ := and2 h
  obtain ⟨h1, h⟩ := and2 h
  obtain ⟨h2, h⟩ := and2 h
  obtain ⟨h3, h⟩ := and2 h
  obtain ⟨h4, h⟩ := and2 h
  obtain ⟨h5, h⟩ := and2 h
  obtain ⟨h6, h⟩ := and2 h
  obtain ⟨h7, h⟩ := and2 h
  obtain ⟨h8, h9⟩ := and2 h
  refine ⟨⟨?_, of_decide_eq_true h1, of_decide_eq_true h2, of_decide_eq_true h3, h4⟩, xfB_ok h5, of_decide_eq_true h6, of_decide_eq_true h7, of_decide_eq_true h8, of_decide_eq_true h9⟩
  split at h0
  · rename_i t dd cd sl hl
    obtain ⟨ht, h0⟩ := and2 h0
    split at h0
    · rename_i C' bm k0 k1 k2 k3 n k5 hm hs
      obtain ⟨h0, hv⟩ := and2 h0
      obtain ⟨h0, hd⟩ := and2 h0
      obtain ⟨h0, hx⟩ := and2 h0
      obtain ⟨hc, hn⟩ := and2 h0
      have e1 := of_decide_eq_true ht
      have e2 := of_decide_eq_true hc
      have e3 := of_decide_eq_true hn
      subst e1 e2 e3
      obtain ⟨nm, bs, mro, ns, q, hdct, sn, sub, ab, col, del⟩ := cd
      dsimp only at hm hx hd
      subst hm hx
      have e4 : del = false := by cases del with
        | true => cases hd
        | false => rfl
      subst e4
      have e5 : sl = #[k0, k1, k2, k3, some (.builtin "ValueError.__new__"), k5] := Array.toList_inj.mp hs
      subst e5
      exact ⟨_, _, _, _, _, _, _, _, _, _, _, _, _, _, _, hl, hv⟩
    · cases h0
  · cases h0

/-- the error of the class at C with the field f = v, as a value: at a, its dict at d -/
def Err (H : Hp) (a C d : Addr) (f : Str) (v : V) : Prop := H a = some (exo a C (some d)) ∧ H d = some (exd d [(f, v)])

section
variable {X : Cx} {o e : Expr} {es : List Expr} {to te : TE} {ta : TA} {f : Str} {p p' p1 p2 pos : Pos}
/-- C(e, ..) as a value, C's own __init__ keeping sp -/
def tMkV (C : Addr) (sp : Sp) (dvs : List V) (E : XK) (ta : TA) : TE := fun σ H Q => ta σ H fun vs H1 => vs.length ≤ 1000 ∧ ∀ a, H1 a = none → sp (.ref a :: (vs ++ dvs)) (upd H1 a (exo a C none)) (fun v H2 => v = .non ∧ Q (.ref a) H2) E
theorem pe_mkV {CX : CXT} {x : Str} {C fI : Addr} {k : Nat} {fd : FuncData} {ps : List Str} {sp : Sp} {ds : List Value} {dvs : List V} {E : XK} (T : OexC X.K C) (iC : PySem.W.findIn X.K (.ref C) "__init__" = some (some (.ref fI))) (tI : PySem.W.typeIn X.K (.ref fI) = some (.type "function"))
    (F1 : FnOk X.prog X.w X.K X.mg X.base CX k fI fd ps sp) (hr : Room (k + 1) X.A) (hb : Binds X.K fd ps ds) (hd : Vals dvs ds) (hx : Passes CX X E) (hg : Gl X x) (hm : X.mg x = some (.ref C)) (ha : PA X (e :: es) ta)
    (hdb : (x == ("__debug__" : Str)) = false := by decide) (he : starEach (e :: es) X.env = (false, eval e X.env) :: starEach es X.env := by rfl) (hpl : (backTo pos (starEach es X.env)).any (·.1) = false := by rfl) :
    PE X (.Call (.Name x p) (e :: es) [] pos) (tMkV C sp dvs E ta) := by
  refine ⟨fun pins s σ H Q I h => ?_⟩
  obtain ⟨nm, q, N, bs, bm, sn, sub, ab, col, dd, k0, k1, k2, k3, k5, hC, hbm⟩ := T.cls
  refine wpAny_Call_Name_kw (ld_glob I hg hm ?_ hdb)
  refine PySem.W.callWith_K (h₀ := X.base) I.ok.mod.kin T.kC (thn (ha.run pos pins s σ H _ I h) fun us s1 ⟨vs, H1, I1, r1, hz, q1⟩ => ⟨I1.kIn, ?_⟩) he hpl
  show wpAny _ _ (call (.ref C) us) _ _ _
  obtain ⟨hp, g, dr, tk, os⟩ := s1
  have hsz : hp.objs.size ≤ hp.objs.size + 1 := Nat.le_succ _
  have hn : H1 (hp.objs.size + 1) = none := I1.hok.fresh hsz
  have hq := q1 (hp.objs.size + 1) hn
  have kk : ∀ b o, hp.get? b = some o → ((hp.push (PySem.W.kdv_tup us)).push (PySem.HandSPX.excO C hp.objs.size)).get? b = some o := fun b o e => Heap.get?_push_of_some _ (Heap.get?_push_of_some _ e)
  have hget : ((hp.push (PySem.W.kdv_tup us)).push (PySem.HandSPX.excO C hp.objs.size)).get? (hp.objs.size + 1) = some (PySem.HandSPX.excO C hp.objs.size) := by heap_get
  have I2 : Inv X pins σ (upd H1 (hp.objs.size + 1) (exo (hp.objs.size + 1) C none)) ⟨(hp.push (PySem.W.kdv_tup us)).push (PySem.HandSPX.excO C hp.objs.size), g, dr, tk, os⟩ :=
    I1.laid (t' := tk) (a := hp.objs.size + 1) (o := exo (hp.objs.size + 1) C none) (h' := (hp.push (PySem.W.kdv_tup us)).push (PySem.HandSPX.excO C hp.objs.size)) kk hsz (exo_ok hget)
  have r2 : Vals (V.ref (hp.objs.size + 1) :: (vs ++ dvs)) (Value.ref (hp.objs.size + 1) :: (us ++ ds)) := .cons rfl (r1.append hd)
  have hl : (Value.ref (hp.objs.size + 1) :: us ++ ds).length = ps.length := by
    have e := r2.length
    rw [F1.len _ _ _ _ hq] at e
    exact e.symm
  have hus : us.length ≤ sizeLine := by
    rw [← Paired.length r1, sizeLine_eq]
    omega
  refine wpAny_call (PySem.HandSPX.call_own F.excBase_ValueError (fun Y => PySem.HandSPX.refsVE_contains Y bm hbm) (I1.kIn _ _ hC) (PySem.W.looks_findIn I1.kIn iC) (fun self => PySem.W.bind_fn I1.kIn self tI) hus
    (codeAny_mono (F1.run _ X.stack _ _ ⟨Value.ref (hp.objs.size + 1) :: us, []⟩ (Value.ref (hp.objs.size + 1) :: (us ++ ds)) _ _ E (hr.make C us []) (I2.env0.make C us []) (hb _ (Value.ref (hp.objs.size + 1) :: us) I2.kIn hl) r2 hq) fun r s' hq' => ?_))
  cases r with
  | error er => exact hx pins σ _ _ er s' I2 hq'
  | ok fl =>
    cases fl with
    | ret u =>
      obtain ⟨v, H2, J, rv, ev, q2⟩ := (I2.after hq' : EP X pins σ _ u s')
      subst ev
      obtain rfl : u = Value.none := rv
      exact ⟨rfl, .ref (hp.objs.size + 1), H2, J, rfl, q2⟩
    | next => exact False.elim hq'
    | brk => exact False.elim hq'
    | cont => exact False.elim hq'
/-- e.f, e an error that is a value -/
def tErF (K : PySem.W.Frag) (f : Str) (te : TE) : TE := fun σ H Q => te σ H fun x H1 => ∃ (a C d : Addr) (v : V), x = .ref a ∧ Err H1 a C d f v ∧ XfC K C ∧ PySem.W.findIn K (.ref C) f = some none ∧ Q v H1
theorem pe_erF (he : PE X e te) (hb : attributeBase e f X.env (eval e X.env) = eval e X.env := by rfl) : PE X (.Attribute e f pos) (tErF X.K f te) := by
  refine ⟨fun pins s σ H Q I h => ?_⟩
  refine attr_of hb (thn (he.run pins s σ H _ I h) fun u s1 hh => ?_)
  obtain ⟨x, H1, I1, rx, a, C, d, v, ex, ⟨ea, ed⟩, T, hno, q⟩ := hh
  subst ex
  obtain rfl : u = Value.ref a := rx
  obtain ⟨t1, ha⟩ := exo_at I1.hok ea
  obtain ⟨mA, hns, hr⟩ := exd_at I1.hok ed
  obtain ⟨od, ho, hl⟩ := lookIn_ns hns
  have l : List.lookup f [(f, v)] = some v := by simp [List.lookup]
  obtain ⟨u, hu, ru⟩ := RelO.some_of (v := v) (o := mA f) (by rw [← l]; exact hr f)
  have J : PySem.W.InstAt s1.heap a _ C (some od) := ⟨ha, rfl, rfl, ho⟩
  exact HandSPX.exc_get I1.kIn J T.ga T.gg T.exC (PySem.W.findObj_own T.hdC hno rfl (by rw [hl, hu])) (handed_of ru) ⟨v, H1, I1.tok _, ru, q⟩
/-- isinstance(e, c), e an error that is a value -/
def rIsV (K : PySem.W.Frag) : List V → Hp → VK → Prop := fun xs H Q => ∃ (a C d : Addr) (f : Str) (y c : V) (u : Value) (b : Bool), xs = [.ref a, c] ∧ ClsV c u ∧ Err H a C d f y ∧ ExcK K C ∧ PySem.W.kitOne K (.ref C) u = some b ∧ Q (.bl b) H
theorem call_isV : CallR X (.builtin "isinstance") (rIsV X.K) := by
  intro pins s σ H xs us Q I r h
  obtain ⟨a, C, d, f, y, c, u, b, rfl, k, ⟨ea, ed⟩, T, e, q⟩ := h
  obtain ⟨u1, u2, rfl, r1, r2⟩ := vals2 r
  have e2 := k.eq r2
  subst e2
  obtain rfl : u1 = Value.ref a := r1
  obtain ⟨t1, ha⟩ := exo_at I.hok ea
  obtain ⟨mA, hns, hr⟩ := exd_at I.hok ed
  obtain ⟨od, ho, hl⟩ := lookIn_ns hns
  have J : PySem.W.InstAt s.heap a _ C (some od) := ⟨ha, rfl, rfl, ho⟩
  have hc : (PySem.W.clsIn X.K C).isSome = true := by
    have h0 := T.xf.hdC
    unfold PySem.W.hasDictIn at h0
    cases q : PySem.W.clsIn X.K C with
    | none => rw [q] at h0; cases h0
    | some _ => rfl
  exact PySem.W.kia_one (PySem.W.kitx_exc (ox := { cls := .ref C, dict := some d, data := .fields #[.ref t1, .none, .none, .none, .bool false, .none] }) (od := some od) hc T.xf.ga T.xf.gg T.xf.exC T.ha T.hn T.ht T.hm) I.kIn J e (fun z => nomatch z) fun tk => ⟨.bl b, H, I.tok tk, rfl, q⟩
end
end Sb


set_option Elab.async false
set_option linter.all false
set_option maxRecDepth 100000
set_option maxHeartbeats 4000000
namespace Sb
open PySem L2
def top (i : Nat) : Stmt := PySem.Challenge.pw_scopebind_k07_errors_by_hand.main.body.getD i (.Pass ⟨0, 0, 0, 0⟩)
abbrev sWell : Stmt := top 15
abbrev sDraw : Stmt := top 16
abbrev sOne : Stmt := top 17
abbrev FnP (K : PySem.W.Frag) (x : Str) (st : Stmt) (f : Addr) (fd : FuncData) : Prop := FunD K x x (defArgs st) (defBody st) (defScope st) [] [] f fd

/-- a well: three whole numbers; drawn from at most n times -/
def Well (n : Nat) (o : HO) : Prop := ∃ a b c : Int, o = .lst [.int a, .int b, .int c] ∧ 0 ≤ b ∧ b < 2147483647 ∧ 0 ≤ c ∧ c ≤ n
theorem fmodP {x m : Int} (h : 0 < m) : 0 ≤ x.fmod m ∧ x.fmod m < m := ⟨Int.fmod_nonneg_of_pos x h, Int.fmod_lt_of_pos x h⟩

def spDraw : Sp := fun vs H Q _ => ∃ (F : Hp) (L : List (Addr × HO)) (w : Addr) (o : HO) (n : Nat) (m : Int), vs = [.ref w, .int m] ∧ Sta F ((w, o) :: L) H ∧ Well n o ∧ n < 1000000 ∧ 0 < m ∧ m < 1000000 ∧
  ∀ (o' : HO) (d : Int) (H' : Hp), Well (n + 1) o' → 0 ≤ d → d < m → Sta F ((w, o') :: L) H' → Q (.int d) H'

theorem scDraw : FnScope ["_law_well_here", "_law_many", "_law_digit", "_law_prime", "_law_number"] ["_law_well_here", "_law_many"] (defScope sDraw) := ⟨rfl, rfl, rfl, by decide +kernel, rfl, by decide +kernel, by decide +kernel⟩

section
variable {P : Program} {w : World} {K : PySem.W.Frag} {mg : Str → Option Value} {base : Heap}
theorem ok_draw {f : Addr} {fd : FuncData} (F : FnP K "_law_draw" sDraw f fd) : FnOk P w K mg base CX0 1 f fd ["_law_well_here", "_law_many"] spDraw := by
  refine F.ok scDraw (fun vs H Q E h => ?_) (fun cdv A outer s H vs Q E hr h => ?_)
  · obtain ⟨F, L, w, o, n, m, rfl, _⟩ := h
    rfl
  · obtain ⟨F, L, w, o, n, m, rfl, S, ⟨a, b, c, rfl, b0, b1, c0, c1⟩, hn, m0, m1, k⟩ := h
    refine ⟨_, PSs.nox (pss_cons (ps_if (pt_cmpR op_gt (pe_ix ix_list (pv 0) pe_int (fun _ _ => rfl)) pe_int (nomark _))
        (pss_cons (ps_set (i := 2) scDraw.nd rfl (Or.inl rfl) (pe_op op_modN (pe_ix ix_list (pv 0) pe_int (fun _ _ => rfl)) (pv 1)))
          (pss_cons (ps_asg (pe_op op_fdivN (pe_ix ix_list (pv 0) pe_int (fun _ _ => rfl)) (pv 1)) (pg_sub (pv 0) pe_int set_list))
          (pss_one (ps_ret (pv 2))))) pss_nil)
      (pss_cons (ps_asg (pe_op op_add (pe_ix ix_list (pv 0) pe_int (fun _ _ => rfl)) pe_int) (pg_sub (pv 0) pe_int set_list))
      (pss_cons (ps_set (i := 3) scDraw.nd rfl (Or.inl rfl) (pe_ix ix_list (pe_lst (pa_cons pe_int (pa_cons pe_int (pa_cons pe_int (pa_cons pe_int (pa_cons pe_int (pa_cons pe_int (pa_cons pe_int pa_nil))))))))
          (pe_op op_modN (pe_ix ix_list (pv 0) pe_int (fun _ _ => rfl)) pe_int) (fun _ _ => rfl)))
      (pss_cons (ps_set (i := 4) scDraw.nd rfl (Or.inl rfl) (pe_op op_modN (pe_op op_pow (pe_op op_add (pe_op op_add (pe_ix ix_list (pv 0) pe_int (fun _ _ => rfl)) (pe_op op_mul pe_int (pe_ix ix_list (pv 0) pe_int (fun _ _ => rfl)))) pe_int) pe_int) (pv 3)))
      (pss_cons (ps_set (i := 4) scDraw.nd rfl (Or.inl rfl) (pe_op op_modN (pe_op op_mul (pe_op op_add (pv 4) (pe_ix ix_list (pv 0) pe_int (fun _ _ => rfl))) (pe_op op_add (pe_op op_fdivN (pv 4) pe_int) pe_int)) (pv 3)))
      (pss_one (ps_ret (pe_op op_modN (pe_op op_fdivN (pv 4) pe_int) (pv 1))))))))), ?_⟩
    refine ⟨_, rfl, w, _, _, _, rfl, rfl, sq S.hd, rfl, _, _, rfl, rfl, _, rfl, ?_⟩
    refine ite2 (fun h0 => ?_) (fun h0 => ?_)
    · refine ⟨_, rfl, w, _, _, _, rfl, rfl, sq S.hd, rfl, _, rfl, _, _, rfl, rfl, (by omega), ?_⟩
      refine ⟨_, rfl, w, _, _, _, rfl, rfl, sq S.hd, rfl, _, rfl, _, _, rfl, rfl, (by constructor <;> omega), ?_⟩
      refine ⟨_, rfl, w, _, _, 0, rfl, rfl, S.hd, rfl, ?_⟩
      refine ⟨_, rfl, ?_⟩
      obtain ⟨d0, d1⟩ := fmodP (x := a) m0
      exact k _ _ _ ⟨_, b, c, rfl, b0, b1, c0, by omega⟩ d0 d1 (S.set _)
    · refine ⟨_, rfl, w, _, _, _, rfl, rfl, sq S.hd, rfl, _, _, rfl, rfl, ?_⟩
      refine ⟨_, rfl, w, _, _, 2, rfl, rfl, S.hd, rfl, ?_⟩
      have S1 := S.set (.lst [.int a, .int b, .int (c + 1)])
      obtain ⟨i0, i1⟩ := fmodP (x := c + 1) (m := 7) (by decide)
      refine ⟨(by show 7 ≤ sizeLine; decide), fun p hp => ?_⟩
      have S2 := S1.newX hp (.lst [.int 2147483647, .int 2147483629, .int 2147483587, .int 2147483579, .int 2147483563, .int 2147483549, .int 2147483543])
      have pr : ∃ q : Int, atI [V.int 2147483647, .int 2147483629, .int 2147483587, .int 2147483579, .int 2147483563, .int 2147483549, .int 2147483543] ((c + 1).fmod 7) = some (.int q) ∧ 0 < q ∧ q ≤ 2147483647 := by
        generalize (c + 1).fmod 7 = i at i0 i1
        obtain rfl | rfl | rfl | rfl | rfl | rfl | rfl : i = 0 ∨ i = 1 ∨ i = 2 ∨ i = 3 ∨ i = 4 ∨ i = 5 ∨ i = 6 := by omega
        all_goals exact ⟨_, rfl, by decide, by decide⟩
      obtain ⟨q, hq, q0, q1⟩ := pr
      refine ⟨_, rfl, w, _, _, _, rfl, rfl, sq S2.hd, rfl, _, _, rfl, rfl, (by show (7 : Int) ≠ 0; decide), ?_⟩
      refine ⟨p, _, _, _, rfl, rfl, sq upd_same, hq, ?_⟩
      refine ⟨_, rfl, w, _, _, _, rfl, rfl, sq S2.hd, rfl, _, rfl, w, _, _, _, rfl, rfl, sq S2.hd, rfl, _, _, rfl, rfl, (by left; decide), ?_⟩
      refine ⟨_, _, rfl, rfl, _, _, rfl, rfl, _, _, rfl, rfl, ⟨by decide, by decide, by show (b + 7919 * (c + 1) + 1).natAbs < 2 ^ 64; omega⟩, ?_⟩
      refine ⟨_, rfl, _, _, rfl, rfl, (by omega), ?_⟩
      generalize (b + 7919 * (c + 1) + 1) ^ (5 : Int).toNat = z
      obtain ⟨z0, z1⟩ := fmodP (x := z) q0
      refine ⟨_, rfl, _, rfl, w, _, _, _, rfl, rfl, sq S2.hd, rfl, _, _, rfl, rfl, ?_⟩
      refine ⟨_, rfl, _, _, rfl, rfl, (by constructor <;> decide), _, _, rfl, rfl, _, _, rfl, rfl, (by left; constructor <;> omega), ?_⟩
      refine ⟨_, rfl, _, _, rfl, rfl, (by omega), ?_⟩
      refine ⟨_, rfl, _, _, rfl, rfl, (by constructor <;> decide), _, rfl, _, _, rfl, rfl, (by omega), ?_⟩
      refine k _ _ _ ⟨a, b, c + 1, rfl, b0, b1, by omega, by omega⟩ (fmodP m0).1 (fmodP m0).2 S2
end
end Sb


set_option Elab.async false
set_option linter.all false
set_option maxRecDepth 100000
set_option maxHeartbeats 4000000
namespace Sb
open PySem L2
abbrev sErrors : Stmt := top 18
abbrev sKinds : Stmt := top 19
abbrev sLaw : Stmt := top 20
abbrev sI0 : Stmt := inClass (top 2) 0
abbrev sI1 : Stmt := inClass (top 3) 0
abbrev sI2 : Stmt := inClass (top 4) 0
abbrev sI3 : Stmt := inClass (top 5) 0
abbrev sI4 : Stmt := inClass (top 6) 0
abbrev sI5 : Stmt := inClass (top 7) 0
abbrev sI6 : Stmt := inClass (top 8) 0
abbrev sI7 : Stmt := inClass (top 9) 0
abbrev sI8 : Stmt := inClass (top 10) 0
abbrev sI9 : Stmt := inClass (top 11) 0
abbrev sI10 : Stmt := inClass (top 12) 0

/-- C.__init__(self, f): self.f = f -/
def spIni (K : PySem.W.Frag) (f : Str) : Sp := fun vs H Q _ => ∃ (a C : Addr) (y : V), vs = [.ref a, y] ∧ OexC K C ∧ PySem.W.findIn K (.ref C) f = some none ∧ H a = some (exo a C none) ∧
  ∀ dx, H dx = none → dx ≠ a → Q .non (upd (upd H dx (exd dx [(f, y)])) a (exo a C (some dx)))
theorem Err.up {F F' : Hp} {a C d : Addr} {f : Str} {v : V} (h : Err F a C d f v) (g : Gr F F') : Err F' a C d f v := ⟨g _ _ h.1, g _ _ h.2⟩
theorem Err.at {F : Hp} {L : List (Addr × HO)} {H : Hp} {a C d : Addr} {f : Str} {v : V} (h : Err F a C d f v) (S : Sta F L H) : Err H a C d f v := h.up S.fr
theorem mk_state {F : Hp} {L : List (Addr × HO)} {H : Hp} {a C d : Addr} {f : Str} {y : V} (S : Sta F L H) (ha : H a = none) (hd : upd H a (exo a C none) d = none) (ne : d ≠ a) :
    ∃ F', Gr F F' ∧ Err F' a C d f y ∧ Sta F' L (upd (upd (upd H a (exo a C none)) d (exd d [(f, y)])) a (exo a C (some d))) := by
  have S1 := S.newL ha (exo a C none)
  have S2 := S1.newF hd (exd d [(f, y)])
  have S3 := S2.set (exo a C (some d))
  exact ⟨_, (Gr.new (S1.noF hd)).trans (Gr.new S3.hdF), ⟨upd_same, by rw [upd_ne ne]; exact upd_same⟩, S3.freeze⟩
def ens : List (Str × Str) := [("NoLibrary", "part"), ("NoStore", "at"), ("NoName", "name"), ("Missing", "name"), ("NoSymbol", "symbol"), ("NoPreloads", "at"), ("NotLoaded", "name"), ("NotUsed", "symbol"), ("Unresolved", "use"), ("NoHandle", "handle"), ("NoWishes", "symbol")]
/-- what the top says of the eleven classes -/
structure Txt (K : PySem.W.Frag) (mg : Str → Option Value) : Prop where
  exc : ∀ x ∈ ens, ExcK K (He.ga K x.1)
  noat : ∀ x ∈ ens, PySem.W.findIn K (.ref (He.ga K x.1)) x.2 = some none
  gl : ∀ x ∈ ens, mg x.1 = some (.ref (He.ga K x.1))
  ini : ∀ x ∈ ens, Meth K (He.ga K x.1) "__init__" (He.ma K (He.ga K x.1) "__init__")
  kit : ∀ (i j : Nat) (x y : Str × Str), ens[i]? = some x → ens[j]? = some y → PySem.W.kitOne K (.ref (He.ga K x.1)) (.ref (He.ga K y.1)) = some (decide (i = j))
  kitL : ∀ x ∈ ens, PySem.W.kitOne K (.ref (He.ga K x.1)) (.ref (He.ga K "LoadError")) = some true
  kitV : ∀ x ∈ ens, PySem.W.kitOne K (.ref (He.ga K x.1)) (.type "ValueError") = some true
  glL : mg "LoadError" = some (.ref (He.ga K "LoadError"))
  isi : mg "isinstance" = none
  len : mg "len" = none
  int : mg "int" = none
  enum : mg "enumerate" = none
  range : mg "range" = none
  bool : mg "bool" = none
  list : mg "list" = none
  val : mg "ValueError" = none
theorem me {i : Nat} {x : Str × Str} (h : ens[i]? = some x := by rfl) : x ∈ ens := List.mem_of_getElem? h
section
variable {P : Program} {w : World} {K : PySem.W.Frag} {mg : Str → Option Value} {base : Heap}
theorem scI0 : FnScope ["self", "part"] ["self", "part"] (defScope sI0) := ⟨rfl, rfl, rfl, by decide +kernel, rfl, by decide +kernel, by decide +kernel⟩
theorem ok_i0 {f : Addr} {fd : FuncData} (F : FunD K "__init__" "NoLibrary.__init__" (defArgs sI0) (defBody sI0) (defScope sI0) [] [] f fd) : FnOk P w K mg base CX0 1 f fd ["self", "part"] (spIni K "part") := by
  refine F.ok scI0 (fun vs H Q E h => ?_) (fun cdv A outer s H vs Q E hr h => ?_)
  · obtain ⟨a, C, y, rfl, _⟩ := h
    rfl
  · obtain ⟨a, C, y, rfl, T, hn, ha, k⟩ := h
    exact ⟨_, PSs.nox (pss_one (ps_ost (pv 0) (pv 1))), _, rfl, _, rfl, a, C, rfl, T, hn, .inl ⟨ha, fun dx h1 h2 => k dx h1 h2⟩⟩
theorem scI1 : FnScope ["self", "at"] ["self", "at"] (defScope sI1) := ⟨rfl, rfl, rfl, by decide +kernel, rfl, by decide +kernel, by decide +kernel⟩
theorem ok_i1 {f : Addr} {fd : FuncData} (F : FunD K "__init__" "NoStore.__init__" (defArgs sI1) (defBody sI1) (defScope sI1) [] [] f fd) : FnOk P w K mg base CX0 1 f fd ["self", "at"] (spIni K "at") := by
  refine F.ok scI1 (fun vs H Q E h => ?_) (fun cdv A outer s H vs Q E hr h => ?_)
  · obtain ⟨a, C, y, rfl, _⟩ := h
    rfl
  · obtain ⟨a, C, y, rfl, T, hn, ha, k⟩ := h
    exact ⟨_, PSs.nox (pss_one (ps_ost (pv 0) (pv 1))), _, rfl, _, rfl, a, C, rfl, T, hn, .inl ⟨ha, fun dx h1 h2 => k dx h1 h2⟩⟩
theorem scI2 : FnScope ["self", "name"] ["self", "name"] (defScope sI2) := ⟨rfl, rfl, rfl, by decide +kernel, rfl, by decide +kernel, by decide +kernel⟩
theorem ok_i2 {f : Addr} {fd : FuncData} (F : FunD K "__init__" "NoName.__init__" (defArgs sI2) (defBody sI2) (defScope sI2) [] [] f fd) : FnOk P w K mg base CX0 1 f fd ["self", "name"] (spIni K "name") := by
  refine F.ok scI2 (fun vs H Q E h => ?_) (fun cdv A outer s H vs Q E hr h => ?_)
  · obtain ⟨a, C, y, rfl, _⟩ := h
    rfl
  · obtain ⟨a, C, y, rfl, T, hn, ha, k⟩ := h
    exact ⟨_, PSs.nox (pss_one (ps_ost (pv 0) (pv 1))), _, rfl, _, rfl, a, C, rfl, T, hn, .inl ⟨ha, fun dx h1 h2 => k dx h1 h2⟩⟩
theorem scI3 : FnScope ["self", "name"] ["self", "name"] (defScope sI3) := ⟨rfl, rfl, rfl, by decide +kernel, rfl, by decide +kernel, by decide +kernel⟩
theorem ok_i3 {f : Addr} {fd : FuncData} (F : FunD K "__init__" "Missing.__init__" (defArgs sI3) (defBody sI3) (defScope sI3) [] [] f fd) : FnOk P w K mg base CX0 1 f fd ["self", "name"] (spIni K "name") := by
  refine F.ok scI3 (fun vs H Q E h => ?_) (fun cdv A outer s H vs Q E hr h => ?_)
  · obtain ⟨a, C, y, rfl, _⟩ := h
    rfl
  · obtain ⟨a, C, y, rfl, T, hn, ha, k⟩ := h
    exact ⟨_, PSs.nox (pss_one (ps_ost (pv 0) (pv 1))), _, rfl, _, rfl, a, C, rfl, T, hn, .inl ⟨ha, fun dx h1 h2 => k dx h1 h2⟩⟩
theorem scI4 : FnScope ["self", "symbol"] ["self", "symbol"] (defScope sI4) := ⟨rfl, rfl, rfl, by decide +kernel, rfl, by decide +kernel, by decide +kernel⟩
theorem ok_i4 {f : Addr} {fd : FuncData} (F : FunD K "__init__" "NoSymbol.__init__" (defArgs sI4) (defBody sI4) (defScope sI4) [] [] f fd) : FnOk P w K mg base CX0 1 f fd ["self", "symbol"] (spIni K "symbol") := by
  refine F.ok scI4 (fun vs H Q E h => ?_) (fun cdv A outer s H vs Q E hr h => ?_)
  · obtain ⟨a, C, y, rfl, _⟩ := h
    rfl
  · obtain ⟨a, C, y, rfl, T, hn, ha, k⟩ := h
    exact ⟨_, PSs.nox (pss_one (ps_ost (pv 0) (pv 1))), _, rfl, _, rfl, a, C, rfl, T, hn, .inl ⟨ha, fun dx h1 h2 => k dx h1 h2⟩⟩
theorem scI5 : FnScope ["self", "at"] ["self", "at"] (defScope sI5) := ⟨rfl, rfl, rfl, by decide +kernel, rfl, by decide +kernel, by decide +kernel⟩
theorem ok_i5 {f : Addr} {fd : FuncData} (F : FunD K "__init__" "NoPreloads.__init__" (defArgs sI5) (defBody sI5) (defScope sI5) [] [] f fd) : FnOk P w K mg base CX0 1 f fd ["self", "at"] (spIni K "at") := by
  refine F.ok scI5 (fun vs H Q E h => ?_) (fun cdv A outer s H vs Q E hr h => ?_)
  · obtain ⟨a, C, y, rfl, _⟩ := h
    rfl
  · obtain ⟨a, C, y, rfl, T, hn, ha, k⟩ := h
    exact ⟨_, PSs.nox (pss_one (ps_ost (pv 0) (pv 1))), _, rfl, _, rfl, a, C, rfl, T, hn, .inl ⟨ha, fun dx h1 h2 => k dx h1 h2⟩⟩
theorem scI6 : FnScope ["self", "name"] ["self", "name"] (defScope sI6) := ⟨rfl, rfl, rfl, by decide +kernel, rfl, by decide +kernel, by decide +kernel⟩
theorem ok_i6 {f : Addr} {fd : FuncData} (F : FunD K "__init__" "NotLoaded.__init__" (defArgs sI6) (defBody sI6) (defScope sI6) [] [] f fd) : FnOk P w K mg base CX0 1 f fd ["self", "name"] (spIni K "name") := by
  refine F.ok scI6 (fun vs H Q E h => ?_) (fun cdv A outer s H vs Q E hr h => ?_)
  · obtain ⟨a, C, y, rfl, _⟩ := h
    rfl
  · obtain ⟨a, C, y, rfl, T, hn, ha, k⟩ := h
    exact ⟨_, PSs.nox (pss_one (ps_ost (pv 0) (pv 1))), _, rfl, _, rfl, a, C, rfl, T, hn, .inl ⟨ha, fun dx h1 h2 => k dx h1 h2⟩⟩
theorem scI7 : FnScope ["self", "symbol"] ["self", "symbol"] (defScope sI7) := ⟨rfl, rfl, rfl, by decide +kernel, rfl, by decide +kernel, by decide +kernel⟩
theorem ok_i7 {f : Addr} {fd : FuncData} (F : FunD K "__init__" "NotUsed.__init__" (defArgs sI7) (defBody sI7) (defScope sI7) [] [] f fd) : FnOk P w K mg base CX0 1 f fd ["self", "symbol"] (spIni K "symbol") := by
  refine F.ok scI7 (fun vs H Q E h => ?_) (fun cdv A outer s H vs Q E hr h => ?_)
  · obtain ⟨a, C, y, rfl, _⟩ := h
    rfl
  · obtain ⟨a, C, y, rfl, T, hn, ha, k⟩ := h
    exact ⟨_, PSs.nox (pss_one (ps_ost (pv 0) (pv 1))), _, rfl, _, rfl, a, C, rfl, T, hn, .inl ⟨ha, fun dx h1 h2 => k dx h1 h2⟩⟩
theorem scI8 : FnScope ["self", "use"] ["self", "use"] (defScope sI8) := ⟨rfl, rfl, rfl, by decide +kernel, rfl, by decide +kernel, by decide +kernel⟩
theorem ok_i8 {f : Addr} {fd : FuncData} (F : FunD K "__init__" "Unresolved.__init__" (defArgs sI8) (defBody sI8) (defScope sI8) [] [] f fd) : FnOk P w K mg base CX0 1 f fd ["self", "use"] (spIni K "use") := by
  refine F.ok scI8 (fun vs H Q E h => ?_) (fun cdv A outer s H vs Q E hr h => ?_)
  · obtain ⟨a, C, y, rfl, _⟩ := h
    rfl
  · obtain ⟨a, C, y, rfl, T, hn, ha, k⟩ := h
    exact ⟨_, PSs.nox (pss_one (ps_ost (pv 0) (pv 1))), _, rfl, _, rfl, a, C, rfl, T, hn, .inl ⟨ha, fun dx h1 h2 => k dx h1 h2⟩⟩
theorem scI9 : FnScope ["self", "handle"] ["self", "handle"] (defScope sI9) := ⟨rfl, rfl, rfl, by decide +kernel, rfl, by decide +kernel, by decide +kernel⟩
theorem ok_i9 {f : Addr} {fd : FuncData} (F : FunD K "__init__" "NoHandle.__init__" (defArgs sI9) (defBody sI9) (defScope sI9) [] [] f fd) : FnOk P w K mg base CX0 1 f fd ["self", "handle"] (spIni K "handle") := by
  refine F.ok scI9 (fun vs H Q E h => ?_) (fun cdv A outer s H vs Q E hr h => ?_)
  · obtain ⟨a, C, y, rfl, _⟩ := h
    rfl
  · obtain ⟨a, C, y, rfl, T, hn, ha, k⟩ := h
    exact ⟨_, PSs.nox (pss_one (ps_ost (pv 0) (pv 1))), _, rfl, _, rfl, a, C, rfl, T, hn, .inl ⟨ha, fun dx h1 h2 => k dx h1 h2⟩⟩
theorem scI10 : FnScope ["self", "symbol"] ["self", "symbol"] (defScope sI10) := ⟨rfl, rfl, rfl, by decide +kernel, rfl, by decide +kernel, by decide +kernel⟩
theorem ok_i10 {f : Addr} {fd : FuncData} (F : FunD K "__init__" "NoWishes.__init__" (defArgs sI10) (defBody sI10) (defScope sI10) [] [] f fd) : FnOk P w K mg base CX0 1 f fd ["self", "symbol"] (spIni K "symbol") := by
  refine F.ok scI10 (fun vs H Q E h => ?_) (fun cdv A outer s H vs Q E hr h => ?_)
  · obtain ⟨a, C, y, rfl, _⟩ := h
    rfl
  · obtain ⟨a, C, y, rfl, T, hn, ha, k⟩ := h
    exact ⟨_, PSs.nox (pss_one (ps_ost (pv 0) (pv 1))), _, rfl, _, rfl, a, C, rfl, T, hn, .inl ⟨ha, fun dx h1 h2 => k dx h1 h2⟩⟩
/-- what _law_kinds answers of an error of the j-th class -/
def kinds (j : Nat) : List V := (List.range 11).map fun i => V.bl (decide (j = i))
def spKinds (K : PySem.W.Frag) : Sp := fun vs H Q _ => ∃ (F : Hp) (L : List (Addr × HO)) (a d : Addr) (j : Nat) (x : Str × Str) (y : V), vs = [.ref a] ∧ Sta F L H ∧ ens[j]? = some x ∧ Err F a (He.ga K x.1) d x.2 y ∧
  ∀ (p : Addr) (F' H' : Hp), Gr F F' → F' p = some (.lst (kinds j)) → Sta F' L H' → Q (.ref p) H'
theorem scKinds : FnScope ["_law_error", "_law_first", "_law_second", "_law_third"] ["_law_error"] (defScope sKinds) := ⟨rfl, rfl, rfl, by decide +kernel, rfl, by decide +kernel, by decide +kernel⟩
theorem isV_step {F : Hp} {L : List (Addr × HO)} {H : Hp} {a d C : Addr} {f : Str} {y c : V} {u : Value} {b : Bool} {Q : VK} (S : Sta F L H) (he : Err F a C d f y) (X : ExcK K C) (hc : ClsV c u) (hk : PySem.W.kitOne K (.ref C) u = some b) (k : Q (.bl b) H) : rIsV K [.ref a, c] H Q :=
  ⟨a, C, d, f, y, c, u, b, rfl, hc, he.at S, X, hk, k⟩
theorem ok_kinds {f : Addr} {fd : FuncData} (F : FnP K "_law_kinds" sKinds f fd) (T : Txt K mg) : FnOk P w K mg base CX0 1 f fd ["_law_error"] (spKinds K) := by
  refine F.ok scKinds (fun vs H Q E h => ?_) (fun cdv A outer s H vs Q E hr h => ?_)
  · obtain ⟨F, L, a, d, j, x, y, rfl, _⟩ := h
    rfl
  · obtain ⟨F, L, a, d, j, x, y, rfl, S, hx, he, k⟩ := h
    refine ⟨_, PSs.nox (pss_cons (ps_set (i := 1) scKinds.nd rfl (Or.inl rfl) (pe_lst (pa_cons (pe_callB call_isV (by rfl) T.isi (by decide +kernel) (pa_cons (pv 0) (pa_cons (pe_glob (v := .ref (He.ga K "NoLibrary")) rfl (T.gl ("NoLibrary", "part") (me (i := 0))) rfl) pa_nil))) (pa_cons (pe_callB call_isV (by rfl) T.isi (by decide +kernel) (pa_cons (pv 0) (pa_cons (pe_glob (v := .ref (He.ga K "NoStore")) rfl (T.gl ("NoStore", "at") (me (i := 1))) rfl) pa_nil))) (pa_cons (pe_callB call_isV (by rfl) T.isi (by decide +kernel) (pa_cons (pv 0) (pa_cons (pe_glob (v := .ref (He.ga K "NoName")) rfl (T.gl ("NoName", "name") (me (i := 2))) rfl) pa_nil))) pa_nil)))))
      (pss_cons (ps_set (i := 2) scKinds.nd rfl (Or.inl rfl) (pe_lst (pa_cons (pe_callB call_isV (by rfl) T.isi (by decide +kernel) (pa_cons (pv 0) (pa_cons (pe_glob (v := .ref (He.ga K "Missing")) rfl (T.gl ("Missing", "name") (me (i := 3))) rfl) pa_nil))) (pa_cons (pe_callB call_isV (by rfl) T.isi (by decide +kernel) (pa_cons (pv 0) (pa_cons (pe_glob (v := .ref (He.ga K "NoSymbol")) rfl (T.gl ("NoSymbol", "symbol") (me (i := 4))) rfl) pa_nil))) (pa_cons (pe_callB call_isV (by rfl) T.isi (by decide +kernel) (pa_cons (pv 0) (pa_cons (pe_glob (v := .ref (He.ga K "NoPreloads")) rfl (T.gl ("NoPreloads", "at") (me (i := 5))) rfl) pa_nil))) pa_nil)))))
      (pss_cons (ps_set (i := 3) scKinds.nd rfl (Or.inl rfl) (pe_lst (pa_cons (pe_callB call_isV (by rfl) T.isi (by decide +kernel) (pa_cons (pv 0) (pa_cons (pe_glob (v := .ref (He.ga K "NotLoaded")) rfl (T.gl ("NotLoaded", "name") (me (i := 6))) rfl) pa_nil))) (pa_cons (pe_callB call_isV (by rfl) T.isi (by decide +kernel) (pa_cons (pv 0) (pa_cons (pe_glob (v := .ref (He.ga K "NotUsed")) rfl (T.gl ("NotUsed", "symbol") (me (i := 7))) rfl) pa_nil))) (pa_cons (pe_callB call_isV (by rfl) T.isi (by decide +kernel) (pa_cons (pv 0) (pa_cons (pe_glob (v := .ref (He.ga K "Unresolved")) rfl (T.gl ("Unresolved", "use") (me (i := 8))) rfl) pa_nil))) pa_nil)))))
      (pss_one (ps_ret (pe_op op_cat (pe_op op_cat (pe_op op_cat (pv 1) (pv 2)) (pv 3)) (pe_lst (pa_cons (pe_callB call_isV (by rfl) T.isi (by decide +kernel) (pa_cons (pv 0) (pa_cons (pe_glob (v := .ref (He.ga K "NoHandle")) rfl (T.gl ("NoHandle", "handle") (me (i := 9))) rfl) pa_nil))) (pa_cons (pe_callB call_isV (by rfl) T.isi (by decide +kernel) (pa_cons (pv 0) (pa_cons (pe_glob (v := .ref (He.ga K "NoWishes")) rfl (T.gl ("NoWishes", "symbol") (me (i := 10))) rfl) pa_nil))) pa_nil))))))))), ?_⟩
    have X := T.exc x (List.mem_of_getElem? hx)
    refine ⟨_, rfl, ?_⟩
    refine ⟨a, _, d, _, y, _, _, _, rfl, .own _, he.at S, X, T.kit j 0 x ("NoLibrary", "part") hx rfl, ?_⟩
    refine ⟨_, rfl, ?_⟩
    refine ⟨a, _, d, _, y, _, _, _, rfl, .own _, he.at S, X, T.kit j 1 x ("NoStore", "at") hx rfl, ?_⟩
    refine ⟨_, rfl, ?_⟩
    refine ⟨a, _, d, _, y, _, _, _, rfl, .own _, he.at S, X, T.kit j 2 x ("NoName", "name") hx rfl, ?_⟩
    refine ⟨by show 3 ≤ sizeLine; decide, fun p1 hp1 => ?_⟩
    have S1 := S.newF hp1 (.lst [.bl (decide (j = 0)), .bl (decide (j = 1)), .bl (decide (j = 2))])
    have g1 := Gr.new (o := .lst [.bl (decide (j = 0)), .bl (decide (j = 1)), .bl (decide (j = 2))]) (S.noF hp1)
    have he := he.up g1
    refine ⟨_, rfl, ?_⟩
    refine ⟨a, _, d, _, y, _, _, _, rfl, .own _, he.at S1, X, T.kit j 3 x ("Missing", "name") hx rfl, ?_⟩
    refine ⟨_, rfl, ?_⟩
    refine ⟨a, _, d, _, y, _, _, _, rfl, .own _, he.at S1, X, T.kit j 4 x ("NoSymbol", "symbol") hx rfl, ?_⟩
    refine ⟨_, rfl, ?_⟩
    refine ⟨a, _, d, _, y, _, _, _, rfl, .own _, he.at S1, X, T.kit j 5 x ("NoPreloads", "at") hx rfl, ?_⟩
    refine ⟨by show 3 ≤ sizeLine; decide, fun p2 hp2 => ?_⟩
    have S2 := S1.newF hp2 (.lst [.bl (decide (j = 3)), .bl (decide (j = 4)), .bl (decide (j = 5))])
    have g2 := Gr.new (o := .lst [.bl (decide (j = 3)), .bl (decide (j = 4)), .bl (decide (j = 5))]) (S1.noF hp2)
    have he := he.up g2
    refine ⟨_, rfl, ?_⟩
    refine ⟨a, _, d, _, y, _, _, _, rfl, .own _, he.at S2, X, T.kit j 6 x ("NotLoaded", "name") hx rfl, ?_⟩
    refine ⟨_, rfl, ?_⟩
    refine ⟨a, _, d, _, y, _, _, _, rfl, .own _, he.at S2, X, T.kit j 7 x ("NotUsed", "symbol") hx rfl, ?_⟩
    refine ⟨_, rfl, ?_⟩
    refine ⟨a, _, d, _, y, _, _, _, rfl, .own _, he.at S2, X, T.kit j 8 x ("Unresolved", "use") hx rfl, ?_⟩
    refine ⟨by show 3 ≤ sizeLine; decide, fun p3 hp3 => ?_⟩
    have S3 := S2.newF hp3 (.lst [.bl (decide (j = 6)), .bl (decide (j = 7)), .bl (decide (j = 8))])
    have g3 := Gr.new (o := .lst [.bl (decide (j = 6)), .bl (decide (j = 7)), .bl (decide (j = 8))]) (S2.noF hp3)
    have he := he.up g3
    refine ⟨_, rfl, _, rfl, p1, p2, _, _, rfl, rfl, S3.f (g3 _ _ (g2 _ _ upd_same)), S3.f (g3 _ _ upd_same), by show 3 + 3 ≤ sizeLine; decide, fun p4 hp4 => ?_⟩
    have S4 := S3.newF hp4 (.lst ([V.bl (decide (j = 0)), .bl (decide (j = 1)), .bl (decide (j = 2))] ++ [V.bl (decide (j = 3)), .bl (decide (j = 4)), .bl (decide (j = 5))]))
    have g4 := Gr.new (o := .lst ([V.bl (decide (j = 0)), .bl (decide (j = 1)), .bl (decide (j = 2))] ++ [V.bl (decide (j = 3)), .bl (decide (j = 4)), .bl (decide (j = 5))])) (S3.noF hp4)
    have he := he.up g4
    refine ⟨_, rfl, p4, p3, _, _, rfl, rfl, S4.f upd_same, S4.f (g4 _ _ upd_same), by show 6 + 3 ≤ sizeLine; decide, fun p5 hp5 => ?_⟩
    have S5 := S4.newF hp5 (.lst (([V.bl (decide (j = 0)), .bl (decide (j = 1)), .bl (decide (j = 2))] ++ [V.bl (decide (j = 3)), .bl (decide (j = 4)), .bl (decide (j = 5))]) ++ [V.bl (decide (j = 6)), .bl (decide (j = 7)), .bl (decide (j = 8))]))
    have g5 := Gr.new (o := .lst (([V.bl (decide (j = 0)), .bl (decide (j = 1)), .bl (decide (j = 2))] ++ [V.bl (decide (j = 3)), .bl (decide (j = 4)), .bl (decide (j = 5))]) ++ [V.bl (decide (j = 6)), .bl (decide (j = 7)), .bl (decide (j = 8))])) (S4.noF hp5)
    have he := he.up g5
    refine ⟨_, rfl, ?_⟩
    refine ⟨a, _, d, _, y, _, _, _, rfl, .own _, he.at S5, X, T.kit j 9 x ("NoHandle", "handle") hx rfl, ?_⟩
    refine ⟨_, rfl, ?_⟩
    refine ⟨a, _, d, _, y, _, _, _, rfl, .own _, he.at S5, X, T.kit j 10 x ("NoWishes", "symbol") hx rfl, ?_⟩
    refine ⟨by show 2 ≤ sizeLine; decide, fun p6 hp6 => ?_⟩
    have S6 := S5.newF hp6 (.lst [.bl (decide (j = 9)), .bl (decide (j = 10))])
    have g6 := Gr.new (o := .lst [.bl (decide (j = 9)), .bl (decide (j = 10))]) (S5.noF hp6)
    refine ⟨p5, p6, _, _, rfl, rfl, S6.f (g6 _ _ upd_same), S6.f upd_same, by show 9 + 2 ≤ sizeLine; decide, fun p7 hp7 => ?_⟩
    exact k p7 _ _ (g1.trans (g2.trans (g3.trans (g4.trans (g5.trans (g6.trans (Gr.new (S6.noF hp7)))))))) upd_same (S6.newF hp7 _)
end
end Sb


set_option Elab.async false
set_option linter.all false
set_option maxRecDepth 100000
set_option maxHeartbeats 8000000
namespace Sb
open PySem L2
/-- a pair (error, what it keeps) at q, the error of the class x -/
def Row (K : PySem.W.Frag) (F : Hp) (x : Str × Str) (t : V) (q : Addr) : Prop := ∃ a d : Addr, F q = some (.tup [.ref a, t]) ∧ Err F a (He.ga K x.1) d x.2 t
theorem Row.up {K : PySem.W.Frag} {F F' : Hp} {x : Str × Str} {t : V} {q : Addr} (h : Row K F x t q) (g : Gr F F') : Row K F' x t q := by
  obtain ⟨a, d, h1, h2⟩ := h
  exact ⟨a, d, g _ _ h1, h2.up g⟩
def spErrors (K : PySem.W.Frag) : Sp := fun vs H Q _ => ∃ (F : Hp) (L : List (Addr × HO)) (t : V), vs = [t] ∧ Sta F L H ∧
  ∀ (p : Addr) (qs : List Addr) (F' H' : Hp), Gr F F' → F' p = some (.lst (qs.map V.ref)) → qs.length = 11 → (∀ (i : Nat) (x : Str × Str) (q : Addr), ens[i]? = some x → qs[i]? = some q → Row K F' x t q) → Sta F' L H' → Q (.ref p) H'
theorem scErrors : FnScope ["_law_thing", "_law_one_here", "_law_two", "_law_three", "_law_four", "_law_first", "_law_five", "_law_six", "_law_seven", "_law_eight", "_law_second", "_law_nine", "_law_ten", "_law_last"] ["_law_thing"] (defScope sErrors) := ⟨rfl, rfl, rfl, by decide +kernel, rfl, by decide +kernel, by decide +kernel⟩
local macro_rules | `(tactic| walk_at "nrm") => `(tactic| try dsimp only [L2.start, List.map, List.length_cons, List.length_nil, List.cons_append, List.nil_append, List.replicate, Nat.reduceAdd, Nat.reduceSub, List.set_cons_zero, List.set_cons_succ])
theorem tyF {K : PySem.W.Frag} {v : Value} (h : PySem.W.isFn K v = true) : PySem.W.typeIn K v = some (.type "function") := by
  have e : (PySem.W.typeIn K v == some (.type "function")) = true := h
  exact eq_of_beq e
section
variable {P : Program} {w : World} {K : PySem.W.Frag} {mg : Str → Option Value} {base : Heap}
/-- the makers of the eleven classes -/
structure Ini (P : Program) (w : World) (K : PySem.W.Frag) (mg : Str → Option Value) (base : Heap) (x f : Str) : Prop where
  ex : ∃ fd, FnOk P w K mg base CX0 1 (He.ma K (He.ga K x) "__init__") fd ["self", f] (spIni K f) ∧ Binds K fd ["self", f] []
theorem ok_errors {f : Addr} {fd : FuncData} (F : FnP K "_law_errors" sErrors f fd) (T : Txt K mg) (I : ∀ x ∈ ens, Ini P w K mg base x.1 x.2) : FnOk P w K mg base CX0 3 f fd ["_law_thing"] (spErrors K) := by
  obtain ⟨fd0, G0, b0⟩ := (I ("NoLibrary", "part") (me (i := 0))).ex
  obtain ⟨fd1, G1, b1⟩ := (I ("NoStore", "at") (me (i := 1))).ex
  obtain ⟨fd2, G2, b2⟩ := (I ("NoName", "name") (me (i := 2))).ex
  obtain ⟨fd3, G3, b3⟩ := (I ("Missing", "name") (me (i := 3))).ex
  obtain ⟨fd4, G4, b4⟩ := (I ("NoSymbol", "symbol") (me (i := 4))).ex
  obtain ⟨fd5, G5, b5⟩ := (I ("NoPreloads", "at") (me (i := 5))).ex
  obtain ⟨fd6, G6, b6⟩ := (I ("NotLoaded", "name") (me (i := 6))).ex
  obtain ⟨fd7, G7, b7⟩ := (I ("NotUsed", "symbol") (me (i := 7))).ex
  obtain ⟨fd8, G8, b8⟩ := (I ("Unresolved", "use") (me (i := 8))).ex
  obtain ⟨fd9, G9, b9⟩ := (I ("NoHandle", "handle") (me (i := 9))).ex
  obtain ⟨fd10, G10, b10⟩ := (I ("NoWishes", "symbol") (me (i := 10))).ex
  refine F.ok scErrors (fun vs H Q E h => ?_) (fun cdv A outer s H vs Q E hr h => ?_)
  · obtain ⟨F, L, t, rfl, _⟩ := h
    rfl
  · obtain ⟨F, L, t, rfl, S, k⟩ := h
    have hr1 : Room 2 _ := hr
    refine ⟨_, PSs.nox (pss_cons (ps_asg (pe_tup (pa_cons (pe_mkV (T.exc ("NoLibrary", "part") (me (i := 0))).ox (T.ini ("NoLibrary", "part") (me (i := 0))).at_ (tyF (T.ini ("NoLibrary", "part") (me (i := 0))).fn) G0 hr b0 .nil pass0 rfl (T.gl ("NoLibrary", "part") (me (i := 0))) (pa_cons (pv 0) pa_nil)) (pa_cons (pe_mkV (T.exc ("NoStore", "at") (me (i := 1))).ox (T.ini ("NoStore", "at") (me (i := 1))).at_ (tyF (T.ini ("NoStore", "at") (me (i := 1))).fn) G1 hr b1 .nil pass0 rfl (T.gl ("NoStore", "at") (me (i := 1))) (pa_cons (pv 0) pa_nil)) (pa_cons (pe_mkV (T.exc ("NoName", "name") (me (i := 2))).ox (T.ini ("NoName", "name") (me (i := 2))).at_ (tyF (T.ini ("NoName", "name") (me (i := 2))).fn) G2 hr b2 .nil pass0 rfl (T.gl ("NoName", "name") (me (i := 2))) (pa_cons (pv 0) pa_nil)) (pa_cons (pe_mkV (T.exc ("Missing", "name") (me (i := 3))).ox (T.ini ("Missing", "name") (me (i := 3))).at_ (tyF (T.ini ("Missing", "name") (me (i := 3))).fn) G3 hr b3 .nil pass0 rfl (T.gl ("Missing", "name") (me (i := 3))) (pa_cons (pv 0) pa_nil)) pa_nil))))) (pg_tup rfl (pgs_cons (pg_name (i := 1) scErrors.nd rfl (Or.inl rfl)) (pgs_cons (pg_name (i := 2) scErrors.nd rfl (Or.inl rfl)) (pgs_cons (pg_name (i := 3) scErrors.nd rfl (Or.inl rfl)) (pgs_cons (pg_name (i := 4) scErrors.nd rfl (Or.inl rfl)) pgs_nil))))))
      (pss_cons (ps_set (i := 5) scErrors.nd rfl (Or.inl rfl) (pe_lst (pa_cons (pe_tup (pa_cons (pv 1) (pa_cons (pe_erF (pv 1)) pa_nil))) (pa_cons (pe_tup (pa_cons (pv 2) (pa_cons (pe_erF (pv 2)) pa_nil))) (pa_cons (pe_tup (pa_cons (pv 3) (pa_cons (pe_erF (pv 3)) pa_nil))) (pa_cons (pe_tup (pa_cons (pv 4) (pa_cons (pe_erF (pv 4)) pa_nil))) pa_nil))))))
      (pss_cons (ps_asg (pe_tup (pa_cons (pe_mkV (T.exc ("NoSymbol", "symbol") (me (i := 4))).ox (T.ini ("NoSymbol", "symbol") (me (i := 4))).at_ (tyF (T.ini ("NoSymbol", "symbol") (me (i := 4))).fn) G4 hr b4 .nil pass0 rfl (T.gl ("NoSymbol", "symbol") (me (i := 4))) (pa_cons (pv 0) pa_nil)) (pa_cons (pe_mkV (T.exc ("NoPreloads", "at") (me (i := 5))).ox (T.ini ("NoPreloads", "at") (me (i := 5))).at_ (tyF (T.ini ("NoPreloads", "at") (me (i := 5))).fn) G5 hr b5 .nil pass0 rfl (T.gl ("NoPreloads", "at") (me (i := 5))) (pa_cons (pv 0) pa_nil)) (pa_cons (pe_mkV (T.exc ("NotLoaded", "name") (me (i := 6))).ox (T.ini ("NotLoaded", "name") (me (i := 6))).at_ (tyF (T.ini ("NotLoaded", "name") (me (i := 6))).fn) G6 hr b6 .nil pass0 rfl (T.gl ("NotLoaded", "name") (me (i := 6))) (pa_cons (pv 0) pa_nil)) (pa_cons (pe_mkV (T.exc ("NotUsed", "symbol") (me (i := 7))).ox (T.ini ("NotUsed", "symbol") (me (i := 7))).at_ (tyF (T.ini ("NotUsed", "symbol") (me (i := 7))).fn) G7 hr b7 .nil pass0 rfl (T.gl ("NotUsed", "symbol") (me (i := 7))) (pa_cons (pv 0) pa_nil)) pa_nil))))) (pg_tup rfl (pgs_cons (pg_name (i := 6) scErrors.nd rfl (Or.inl rfl)) (pgs_cons (pg_name (i := 7) scErrors.nd rfl (Or.inl rfl)) (pgs_cons (pg_name (i := 8) scErrors.nd rfl (Or.inl rfl)) (pgs_cons (pg_name (i := 9) scErrors.nd rfl (Or.inl rfl)) pgs_nil))))))
      (pss_cons (ps_set (i := 10) scErrors.nd rfl (Or.inl rfl) (pe_lst (pa_cons (pe_tup (pa_cons (pv 6) (pa_cons (pe_erF (pv 6)) pa_nil))) (pa_cons (pe_tup (pa_cons (pv 7) (pa_cons (pe_erF (pv 7)) pa_nil))) (pa_cons (pe_tup (pa_cons (pv 8) (pa_cons (pe_erF (pv 8)) pa_nil))) (pa_cons (pe_tup (pa_cons (pv 9) (pa_cons (pe_erF (pv 9)) pa_nil))) pa_nil))))))
      (pss_cons (ps_par3 (i := 11) (j := 12) (l := 13) rfl scErrors.nd rfl rfl rfl (by decide) (by decide) (by decide) rfl rfl rfl (pa_cons (pe_mkV (T.exc ("Unresolved", "use") (me (i := 8))).ox (T.ini ("Unresolved", "use") (me (i := 8))).at_ (tyF (T.ini ("Unresolved", "use") (me (i := 8))).fn) G8 hr b8 .nil pass0 rfl (T.gl ("Unresolved", "use") (me (i := 8))) (pa_cons (pv 0) pa_nil)) (pa_cons (pe_mkV (T.exc ("NoHandle", "handle") (me (i := 9))).ox (T.ini ("NoHandle", "handle") (me (i := 9))).at_ (tyF (T.ini ("NoHandle", "handle") (me (i := 9))).fn) G9 hr b9 .nil pass0 rfl (T.gl ("NoHandle", "handle") (me (i := 9))) (pa_cons (pv 0) pa_nil)) (pa_cons (pe_mkV (T.exc ("NoWishes", "symbol") (me (i := 10))).ox (T.ini ("NoWishes", "symbol") (me (i := 10))).at_ (tyF (T.ini ("NoWishes", "symbol") (me (i := 10))).fn) G10 hr b10 .nil pass0 rfl (T.gl ("NoWishes", "symbol") (me (i := 10))) (pa_cons (pv 0) pa_nil)) pa_nil))) (by rfl))
      (pss_one (ps_ret (pe_op op_cat (pe_op op_cat (pv 5) (pv 10)) (pe_lst (pa_cons (pe_tup (pa_cons (pv 11) (pa_cons (pe_erF (pv 11)) pa_nil))) (pa_cons (pe_tup (pa_cons (pv 12) (pa_cons (pe_erF (pv 12)) pa_nil))) (pa_cons (pe_tup (pa_cons (pv 13) (pa_cons (pe_erF (pv 13)) pa_nil))) pa_nil)))))))))))), ?_⟩
    walk_at "nrm"
    refine ⟨t, rfl, by show 1 ≤ 1000; decide, fun a0 ha0 => ⟨a0, _, t, rfl, (T.exc ("NoLibrary", "part") (me (i := 0))).ox, T.noat ("NoLibrary", "part") (me (i := 0)), upd_same, fun d0 hd0 ne0 => ⟨rfl, ?_⟩⟩⟩
    obtain ⟨F0, g0, e0, SM0⟩ := mk_state (C := He.ga K "NoLibrary") (f := "part") (y := t) S ha0 hd0 ne0
    generalize upd _ a0 (exo a0 _ (some _)) = H0 at SM0 ⊢
    refine ⟨t, rfl, by show 1 ≤ 1000; decide, fun a1 ha1 => ⟨a1, _, t, rfl, (T.exc ("NoStore", "at") (me (i := 1))).ox, T.noat ("NoStore", "at") (me (i := 1)), upd_same, fun d1 hd1 ne1 => ⟨rfl, ?_⟩⟩⟩
    obtain ⟨F1, g1, e1, SM1⟩ := mk_state (C := He.ga K "NoStore") (f := "at") (y := t) SM0 ha1 hd1 ne1
    generalize upd _ a1 (exo a1 _ (some _)) = H1 at SM1 ⊢
    have e0 := e0.up g1
    refine ⟨t, rfl, by show 1 ≤ 1000; decide, fun a2 ha2 => ⟨a2, _, t, rfl, (T.exc ("NoName", "name") (me (i := 2))).ox, T.noat ("NoName", "name") (me (i := 2)), upd_same, fun d2 hd2 ne2 => ⟨rfl, ?_⟩⟩⟩
    obtain ⟨F2, g2, e2, SM2⟩ := mk_state (C := He.ga K "NoName") (f := "name") (y := t) SM1 ha2 hd2 ne2
    generalize upd _ a2 (exo a2 _ (some _)) = H2 at SM2 ⊢
    have e0 := e0.up g2
    have e1 := e1.up g2
    refine ⟨t, rfl, by show 1 ≤ 1000; decide, fun a3 ha3 => ⟨a3, _, t, rfl, (T.exc ("Missing", "name") (me (i := 3))).ox, T.noat ("Missing", "name") (me (i := 3)), upd_same, fun d3 hd3 ne3 => ⟨rfl, ?_⟩⟩⟩
    obtain ⟨F3, g3, e3, SM3⟩ := mk_state (C := He.ga K "Missing") (f := "name") (y := t) SM2 ha3 hd3 ne3
    generalize upd _ a3 (exo a3 _ (some _)) = H3 at SM3 ⊢
    have e0 := e0.up g3
    have e1 := e1.up g3
    have e2 := e2.up g3
    refine ⟨by show 4 ≤ sizeLine; decide, fun pA hA => ?_⟩
    have SA := SM3.newX hA (.tup [.ref a0, .ref a1, .ref a2, .ref a3])
    refine ⟨pA, _, rfl, st upd_same, rfl, ?_⟩
    generalize upd _ pA _ = HA at SA ⊢
    refine ⟨_, _, rfl, _, _, rfl, _, _, rfl, _, _, rfl, rfl, ?_⟩
    walk_at "nrm"
    refine ⟨_, rfl, _, rfl, a0, _, d0, _, rfl, e0.at SA, (T.exc ("NoLibrary", "part") (me (i := 0))).xf, T.noat ("NoLibrary", "part") (me (i := 0)), by show 2 ≤ sizeLine; decide, fun pB0 hB0 => ?_⟩
    obtain ⟨FB0, SB0, gB0, lB0⟩ := SA.mkF hB0 (HO.tup [.ref a0, t])
    generalize upd _ pB0 _ = HB0 at SB0 ⊢
    have e0 := e0.up gB0
    have e1 := e1.up gB0
    have e2 := e2.up gB0
    have e3 := e3.up gB0
    have r0 : Row K FB0 ("NoLibrary", "part") t pB0 := ⟨a0, d0, lB0.1, e0⟩
    refine ⟨_, rfl, _, rfl, a1, _, d1, _, rfl, e1.at SB0, (T.exc ("NoStore", "at") (me (i := 1))).xf, T.noat ("NoStore", "at") (me (i := 1)), by show 2 ≤ sizeLine; decide, fun pB1 hB1 => ?_⟩
    obtain ⟨FB1, SB1, gB1, lB1⟩ := SB0.mkF hB1 (HO.tup [.ref a1, t])
    generalize upd _ pB1 _ = HB1 at SB1 ⊢
    have e0 := e0.up gB1
    have e1 := e1.up gB1
    have e2 := e2.up gB1
    have e3 := e3.up gB1
    have r0 := r0.up gB1
    have r1 : Row K FB1 ("NoStore", "at") t pB1 := ⟨a1, d1, lB1.1, e1⟩
    refine ⟨_, rfl, _, rfl, a2, _, d2, _, rfl, e2.at SB1, (T.exc ("NoName", "name") (me (i := 2))).xf, T.noat ("NoName", "name") (me (i := 2)), by show 2 ≤ sizeLine; decide, fun pB2 hB2 => ?_⟩
    obtain ⟨FB2, SB2, gB2, lB2⟩ := SB1.mkF hB2 (HO.tup [.ref a2, t])
    generalize upd _ pB2 _ = HB2 at SB2 ⊢
    have e0 := e0.up gB2
    have e1 := e1.up gB2
    have e2 := e2.up gB2
    have e3 := e3.up gB2
    have r0 := r0.up gB2
    have r1 := r1.up gB2
    have r2 : Row K FB2 ("NoName", "name") t pB2 := ⟨a2, d2, lB2.1, e2⟩
    refine ⟨_, rfl, _, rfl, a3, _, d3, _, rfl, e3.at SB2, (T.exc ("Missing", "name") (me (i := 3))).xf, T.noat ("Missing", "name") (me (i := 3)), by show 2 ≤ sizeLine; decide, fun pB3 hB3 => ?_⟩
    obtain ⟨FB3, SB3, gB3, lB3⟩ := SB2.mkF hB3 (HO.tup [.ref a3, t])
    generalize upd _ pB3 _ = HB3 at SB3 ⊢
    have e0 := e0.up gB3
    have e1 := e1.up gB3
    have e2 := e2.up gB3
    have e3 := e3.up gB3
    have r0 := r0.up gB3
    have r1 := r1.up gB3
    have r2 := r2.up gB3
    have r3 : Row K FB3 ("Missing", "name") t pB3 := ⟨a3, d3, lB3.1, e3⟩
    refine ⟨by show 4 ≤ sizeLine; decide, fun pB hB => ?_⟩
    obtain ⟨FB, SB, gB, lB⟩ := SB3.mkF hB (HO.lst [.ref pB0, .ref pB1, .ref pB2, .ref pB3])
    generalize upd _ pB _ = HB at SB ⊢
    have e0 := e0.up gB
    have e1 := e1.up gB
    have e2 := e2.up gB
    have e3 := e3.up gB
    have r0 := r0.up gB
    have r1 := r1.up gB
    have r2 := r2.up gB
    have r3 := r3.up gB
    walk_at "nrm"
    refine ⟨t, rfl, by show 1 ≤ 1000; decide, fun a4 ha4 => ⟨a4, _, t, rfl, (T.exc ("NoSymbol", "symbol") (me (i := 4))).ox, T.noat ("NoSymbol", "symbol") (me (i := 4)), upd_same, fun d4 hd4 ne4 => ⟨rfl, ?_⟩⟩⟩
    obtain ⟨F4, g4, e4, SM4⟩ := mk_state (C := He.ga K "NoSymbol") (f := "symbol") (y := t) SB ha4 hd4 ne4
    generalize upd _ a4 (exo a4 _ (some _)) = H4 at SM4 ⊢
    have e0 := e0.up g4
    have e1 := e1.up g4
    have e2 := e2.up g4
    have e3 := e3.up g4
    have r0 := r0.up g4
    have r1 := r1.up g4
    have r2 := r2.up g4
    have r3 := r3.up g4
    have lB := lB.up g4
    refine ⟨t, rfl, by show 1 ≤ 1000; decide, fun a5 ha5 => ⟨a5, _, t, rfl, (T.exc ("NoPreloads", "at") (me (i := 5))).ox, T.noat ("NoPreloads", "at") (me (i := 5)), upd_same, fun d5 hd5 ne5 => ⟨rfl, ?_⟩⟩⟩
    obtain ⟨F5, g5, e5, SM5⟩ := mk_state (C := He.ga K "NoPreloads") (f := "at") (y := t) SM4 ha5 hd5 ne5
    generalize upd _ a5 (exo a5 _ (some _)) = H5 at SM5 ⊢
    have e0 := e0.up g5
    have e1 := e1.up g5
    have e2 := e2.up g5
    have e3 := e3.up g5
    have r0 := r0.up g5
    have r1 := r1.up g5
    have r2 := r2.up g5
    have r3 := r3.up g5
    have lB := lB.up g5
    have e4 := e4.up g5
    refine ⟨t, rfl, by show 1 ≤ 1000; decide, fun a6 ha6 => ⟨a6, _, t, rfl, (T.exc ("NotLoaded", "name") (me (i := 6))).ox, T.noat ("NotLoaded", "name") (me (i := 6)), upd_same, fun d6 hd6 ne6 => ⟨rfl, ?_⟩⟩⟩
    obtain ⟨F6, g6, e6, SM6⟩ := mk_state (C := He.ga K "NotLoaded") (f := "name") (y := t) SM5 ha6 hd6 ne6
    generalize upd _ a6 (exo a6 _ (some _)) = H6 at SM6 ⊢
    have e0 := e0.up g6
    have e1 := e1.up g6
    have e2 := e2.up g6
    have e3 := e3.up g6
    have r0 := r0.up g6
    have r1 := r1.up g6
    have r2 := r2.up g6
    have r3 := r3.up g6
    have lB := lB.up g6
    have e4 := e4.up g6
    have e5 := e5.up g6
    refine ⟨t, rfl, by show 1 ≤ 1000; decide, fun a7 ha7 => ⟨a7, _, t, rfl, (T.exc ("NotUsed", "symbol") (me (i := 7))).ox, T.noat ("NotUsed", "symbol") (me (i := 7)), upd_same, fun d7 hd7 ne7 => ⟨rfl, ?_⟩⟩⟩
    obtain ⟨F7, g7, e7, SM7⟩ := mk_state (C := He.ga K "NotUsed") (f := "symbol") (y := t) SM6 ha7 hd7 ne7
    generalize upd _ a7 (exo a7 _ (some _)) = H7 at SM7 ⊢
    have e0 := e0.up g7
    have e1 := e1.up g7
    have e2 := e2.up g7
    have e3 := e3.up g7
    have r0 := r0.up g7
    have r1 := r1.up g7
    have r2 := r2.up g7
    have r3 := r3.up g7
    have lB := lB.up g7
    have e4 := e4.up g7
    have e5 := e5.up g7
    have e6 := e6.up g7
    refine ⟨by show 4 ≤ sizeLine; decide, fun pC hC => ?_⟩
    have SC := SM7.newX hC (.tup [.ref a4, .ref a5, .ref a6, .ref a7])
    refine ⟨pC, _, rfl, st upd_same, rfl, ?_⟩
    generalize upd _ pC _ = HC at SC ⊢
    refine ⟨_, _, rfl, _, _, rfl, _, _, rfl, _, _, rfl, rfl, ?_⟩
    walk_at "nrm"
    refine ⟨_, rfl, _, rfl, a4, _, d4, _, rfl, e4.at SC, (T.exc ("NoSymbol", "symbol") (me (i := 4))).xf, T.noat ("NoSymbol", "symbol") (me (i := 4)), by show 2 ≤ sizeLine; decide, fun pD4 hD4 => ?_⟩
    obtain ⟨FD4, SD4, gD4, lD4⟩ := SC.mkF hD4 (HO.tup [.ref a4, t])
    generalize upd _ pD4 _ = HD4 at SD4 ⊢
    have e0 := e0.up gD4
    have e1 := e1.up gD4
    have e2 := e2.up gD4
    have e3 := e3.up gD4
    have r0 := r0.up gD4
    have r1 := r1.up gD4
    have r2 := r2.up gD4
    have r3 := r3.up gD4
    have lB := lB.up gD4
    have e4 := e4.up gD4
    have e5 := e5.up gD4
    have e6 := e6.up gD4
    have e7 := e7.up gD4
    have r4 : Row K FD4 ("NoSymbol", "symbol") t pD4 := ⟨a4, d4, lD4.1, e4⟩
    refine ⟨_, rfl, _, rfl, a5, _, d5, _, rfl, e5.at SD4, (T.exc ("NoPreloads", "at") (me (i := 5))).xf, T.noat ("NoPreloads", "at") (me (i := 5)), by show 2 ≤ sizeLine; decide, fun pD5 hD5 => ?_⟩
    obtain ⟨FD5, SD5, gD5, lD5⟩ := SD4.mkF hD5 (HO.tup [.ref a5, t])
    generalize upd _ pD5 _ = HD5 at SD5 ⊢
    have e0 := e0.up gD5
    have e1 := e1.up gD5
    have e2 := e2.up gD5
    have e3 := e3.up gD5
    have r0 := r0.up gD5
    have r1 := r1.up gD5
    have r2 := r2.up gD5
    have r3 := r3.up gD5
    have lB := lB.up gD5
    have e4 := e4.up gD5
    have e5 := e5.up gD5
    have e6 := e6.up gD5
    have e7 := e7.up gD5
    have r4 := r4.up gD5
    have r5 : Row K FD5 ("NoPreloads", "at") t pD5 := ⟨a5, d5, lD5.1, e5⟩
    refine ⟨_, rfl, _, rfl, a6, _, d6, _, rfl, e6.at SD5, (T.exc ("NotLoaded", "name") (me (i := 6))).xf, T.noat ("NotLoaded", "name") (me (i := 6)), by show 2 ≤ sizeLine; decide, fun pD6 hD6 => ?_⟩
    obtain ⟨FD6, SD6, gD6, lD6⟩ := SD5.mkF hD6 (HO.tup [.ref a6, t])
    generalize upd _ pD6 _ = HD6 at SD6 ⊢
    have e0 := e0.up gD6
    have e1 := e1.up gD6
    have e2 := e2.up gD6
    have e3 := e3.up gD6
    have r0 := r0.up gD6
    have r1 := r1.up gD6
    have r2 := r2.up gD6
    have r3 := r3.up gD6
    have lB := lB.up gD6
    have e4 := e4.up gD6
    have e5 := e5.up gD6
    have e6 := e6.up gD6
    have e7 := e7.up gD6
    have r4 := r4.up gD6
    have r5 := r5.up gD6
    have r6 : Row K FD6 ("NotLoaded", "name") t pD6 := ⟨a6, d6, lD6.1, e6⟩
    refine ⟨_, rfl, _, rfl, a7, _, d7, _, rfl, e7.at SD6, (T.exc ("NotUsed", "symbol") (me (i := 7))).xf, T.noat ("NotUsed", "symbol") (me (i := 7)), by show 2 ≤ sizeLine; decide, fun pD7 hD7 => ?_⟩
    obtain ⟨FD7, SD7, gD7, lD7⟩ := SD6.mkF hD7 (HO.tup [.ref a7, t])
    generalize upd _ pD7 _ = HD7 at SD7 ⊢
    have e0 := e0.up gD7
    have e1 := e1.up gD7
    have e2 := e2.up gD7
    have e3 := e3.up gD7
    have r0 := r0.up gD7
    have r1 := r1.up gD7
    have r2 := r2.up gD7
    have r3 := r3.up gD7
    have lB := lB.up gD7
    have e4 := e4.up gD7
    have e5 := e5.up gD7
    have e6 := e6.up gD7
    have e7 := e7.up gD7
    have r4 := r4.up gD7
    have r5 := r5.up gD7
    have r6 := r6.up gD7
    have r7 : Row K FD7 ("NotUsed", "symbol") t pD7 := ⟨a7, d7, lD7.1, e7⟩
    refine ⟨by show 4 ≤ sizeLine; decide, fun pD hD => ?_⟩
    obtain ⟨FD, SD, gD, lD⟩ := SD7.mkF hD (HO.lst [.ref pD4, .ref pD5, .ref pD6, .ref pD7])
    generalize upd _ pD _ = HD at SD ⊢
    have e0 := e0.up gD
    have e1 := e1.up gD
    have e2 := e2.up gD
    have e3 := e3.up gD
    have r0 := r0.up gD
    have r1 := r1.up gD
    have r2 := r2.up gD
    have r3 := r3.up gD
    have lB := lB.up gD
    have e4 := e4.up gD
    have e5 := e5.up gD
    have e6 := e6.up gD
    have e7 := e7.up gD
    have r4 := r4.up gD
    have r5 := r5.up gD
    have r6 := r6.up gD
    have r7 := r7.up gD
    walk_at "nrm"
    refine ⟨t, rfl, by show 1 ≤ 1000; decide, fun a8 ha8 => ⟨a8, _, t, rfl, (T.exc ("Unresolved", "use") (me (i := 8))).ox, T.noat ("Unresolved", "use") (me (i := 8)), upd_same, fun d8 hd8 ne8 => ⟨rfl, ?_⟩⟩⟩
    obtain ⟨F8, g8, e8, SM8⟩ := mk_state (C := He.ga K "Unresolved") (f := "use") (y := t) SD ha8 hd8 ne8
    generalize upd _ a8 (exo a8 _ (some _)) = H8 at SM8 ⊢
    have e0 := e0.up g8
    have e1 := e1.up g8
    have e2 := e2.up g8
    have e3 := e3.up g8
    have r0 := r0.up g8
    have r1 := r1.up g8
    have r2 := r2.up g8
    have r3 := r3.up g8
    have lB := lB.up g8
    have e4 := e4.up g8
    have e5 := e5.up g8
    have e6 := e6.up g8
    have e7 := e7.up g8
    have r4 := r4.up g8
    have r5 := r5.up g8
    have r6 := r6.up g8
    have r7 := r7.up g8
    have lD := lD.up g8
    refine ⟨t, rfl, by show 1 ≤ 1000; decide, fun a9 ha9 => ⟨a9, _, t, rfl, (T.exc ("NoHandle", "handle") (me (i := 9))).ox, T.noat ("NoHandle", "handle") (me (i := 9)), upd_same, fun d9 hd9 ne9 => ⟨rfl, ?_⟩⟩⟩
    obtain ⟨F9, g9, e9, SM9⟩ := mk_state (C := He.ga K "NoHandle") (f := "handle") (y := t) SM8 ha9 hd9 ne9
    generalize upd _ a9 (exo a9 _ (some _)) = H9 at SM9 ⊢
    have e0 := e0.up g9
    have e1 := e1.up g9
    have e2 := e2.up g9
    have e3 := e3.up g9
    have r0 := r0.up g9
    have r1 := r1.up g9
    have r2 := r2.up g9
    have r3 := r3.up g9
    have lB := lB.up g9
    have e4 := e4.up g9
    have e5 := e5.up g9
    have e6 := e6.up g9
    have e7 := e7.up g9
    have r4 := r4.up g9
    have r5 := r5.up g9
    have r6 := r6.up g9
    have r7 := r7.up g9
    have lD := lD.up g9
    have e8 := e8.up g9
    refine ⟨t, rfl, by show 1 ≤ 1000; decide, fun a10 ha10 => ⟨a10, _, t, rfl, (T.exc ("NoWishes", "symbol") (me (i := 10))).ox, T.noat ("NoWishes", "symbol") (me (i := 10)), upd_same, fun d10 hd10 ne10 => ⟨rfl, ?_⟩⟩⟩
    obtain ⟨F10, g10, e10, SM10⟩ := mk_state (C := He.ga K "NoWishes") (f := "symbol") (y := t) SM9 ha10 hd10 ne10
    generalize upd _ a10 (exo a10 _ (some _)) = H10 at SM10 ⊢
    have e0 := e0.up g10
    have e1 := e1.up g10
    have e2 := e2.up g10
    have e3 := e3.up g10
    have r0 := r0.up g10
    have r1 := r1.up g10
    have r2 := r2.up g10
    have r3 := r3.up g10
    have lB := lB.up g10
    have e4 := e4.up g10
    have e5 := e5.up g10
    have e6 := e6.up g10
    have e7 := e7.up g10
    have r4 := r4.up g10
    have r5 := r5.up g10
    have r6 := r6.up g10
    have r7 := r7.up g10
    have lD := lD.up g10
    have e8 := e8.up g10
    have e9 := e9.up g10
    refine ⟨_, _, _, rfl, ?_⟩
    walk_at "nrm"
    refine ⟨_, rfl, _, rfl, pB, pD, _, _, rfl, rfl, SM10.f lB.1, SM10.f lD.1, by show 4 + 4 ≤ sizeLine; decide, fun pG hG => ?_⟩
    obtain ⟨FG, SG, gG, lG⟩ := SM10.mkF hG (HO.lst ([V.ref pB0, V.ref pB1, V.ref pB2, V.ref pB3] ++ [.ref pD4, .ref pD5, .ref pD6, .ref pD7]))
    generalize upd _ pG _ = HG at SG ⊢
    have e0 := e0.up gG
    have e1 := e1.up gG
    have e2 := e2.up gG
    have e3 := e3.up gG
    have r0 := r0.up gG
    have r1 := r1.up gG
    have r2 := r2.up gG
    have r3 := r3.up gG
    have lB := lB.up gG
    have e4 := e4.up gG
    have e5 := e5.up gG
    have e6 := e6.up gG
    have e7 := e7.up gG
    have r4 := r4.up gG
    have r5 := r5.up gG
    have r6 := r6.up gG
    have r7 := r7.up gG
    have lD := lD.up gG
    have e8 := e8.up gG
    have e9 := e9.up gG
    have e10 := e10.up gG
    walk_at "nrm"
    refine ⟨_, rfl, _, rfl, a8, _, d8, _, rfl, e8.at SG, (T.exc ("Unresolved", "use") (me (i := 8))).xf, T.noat ("Unresolved", "use") (me (i := 8)), by show 2 ≤ sizeLine; decide, fun pI8 hI8 => ?_⟩
    obtain ⟨FI8, SI8, gI8, lI8⟩ := SG.mkF hI8 (HO.tup [.ref a8, t])
    generalize upd _ pI8 _ = HI8 at SI8 ⊢
    have e0 := e0.up gI8
    have e1 := e1.up gI8
    have e2 := e2.up gI8
    have e3 := e3.up gI8
    have r0 := r0.up gI8
    have r1 := r1.up gI8
    have r2 := r2.up gI8
    have r3 := r3.up gI8
    have lB := lB.up gI8
    have e4 := e4.up gI8
    have e5 := e5.up gI8
    have e6 := e6.up gI8
    have e7 := e7.up gI8
    have r4 := r4.up gI8
    have r5 := r5.up gI8
    have r6 := r6.up gI8
    have r7 := r7.up gI8
    have lD := lD.up gI8
    have e8 := e8.up gI8
    have e9 := e9.up gI8
    have e10 := e10.up gI8
    have lG := lG.up gI8
    have r8 : Row K FI8 ("Unresolved", "use") t pI8 := ⟨a8, d8, lI8.1, e8⟩
    refine ⟨_, rfl, _, rfl, a9, _, d9, _, rfl, e9.at SI8, (T.exc ("NoHandle", "handle") (me (i := 9))).xf, T.noat ("NoHandle", "handle") (me (i := 9)), by show 2 ≤ sizeLine; decide, fun pI9 hI9 => ?_⟩
    obtain ⟨FI9, SI9, gI9, lI9⟩ := SI8.mkF hI9 (HO.tup [.ref a9, t])
    generalize upd _ pI9 _ = HI9 at SI9 ⊢
    have e0 := e0.up gI9
    have e1 := e1.up gI9
    have e2 := e2.up gI9
    have e3 := e3.up gI9
    have r0 := r0.up gI9
    have r1 := r1.up gI9
    have r2 := r2.up gI9
    have r3 := r3.up gI9
    have lB := lB.up gI9
    have e4 := e4.up gI9
    have e5 := e5.up gI9
    have e6 := e6.up gI9
    have e7 := e7.up gI9
    have r4 := r4.up gI9
    have r5 := r5.up gI9
    have r6 := r6.up gI9
    have r7 := r7.up gI9
    have lD := lD.up gI9
    have e8 := e8.up gI9
    have e9 := e9.up gI9
    have e10 := e10.up gI9
    have lG := lG.up gI9
    have r8 := r8.up gI9
    have r9 : Row K FI9 ("NoHandle", "handle") t pI9 := ⟨a9, d9, lI9.1, e9⟩
    refine ⟨_, rfl, _, rfl, a10, _, d10, _, rfl, e10.at SI9, (T.exc ("NoWishes", "symbol") (me (i := 10))).xf, T.noat ("NoWishes", "symbol") (me (i := 10)), by show 2 ≤ sizeLine; decide, fun pI10 hI10 => ?_⟩
    obtain ⟨FI10, SI10, gI10, lI10⟩ := SI9.mkF hI10 (HO.tup [.ref a10, t])
    generalize upd _ pI10 _ = HI10 at SI10 ⊢
    have e0 := e0.up gI10
    have e1 := e1.up gI10
    have e2 := e2.up gI10
    have e3 := e3.up gI10
    have r0 := r0.up gI10
    have r1 := r1.up gI10
    have r2 := r2.up gI10
    have r3 := r3.up gI10
    have lB := lB.up gI10
    have e4 := e4.up gI10
    have e5 := e5.up gI10
    have e6 := e6.up gI10
    have e7 := e7.up gI10
    have r4 := r4.up gI10
    have r5 := r5.up gI10
    have r6 := r6.up gI10
    have r7 := r7.up gI10
    have lD := lD.up gI10
    have e8 := e8.up gI10
    have e9 := e9.up gI10
    have e10 := e10.up gI10
    have lG := lG.up gI10
    have r8 := r8.up gI10
    have r9 := r9.up gI10
    have r10 : Row K FI10 ("NoWishes", "symbol") t pI10 := ⟨a10, d10, lI10.1, e10⟩
    refine ⟨by show 3 ≤ sizeLine; decide, fun pI hI => ?_⟩
    obtain ⟨FI, SI, gI, lI⟩ := SI10.mkF hI (HO.lst [.ref pI8, .ref pI9, .ref pI10])
    generalize upd _ pI _ = HI at SI ⊢
    have e0 := e0.up gI
    have e1 := e1.up gI
    have e2 := e2.up gI
    have e3 := e3.up gI
    have r0 := r0.up gI
    have r1 := r1.up gI
    have r2 := r2.up gI
    have r3 := r3.up gI
    have lB := lB.up gI
    have e4 := e4.up gI
    have e5 := e5.up gI
    have e6 := e6.up gI
    have e7 := e7.up gI
    have r4 := r4.up gI
    have r5 := r5.up gI
    have r6 := r6.up gI
    have r7 := r7.up gI
    have lD := lD.up gI
    have e8 := e8.up gI
    have e9 := e9.up gI
    have e10 := e10.up gI
    have lG := lG.up gI
    have r8 := r8.up gI
    have r9 := r9.up gI
    have r10 := r10.up gI
    refine ⟨pG, pI, _, _, rfl, rfl, SI.f lG.1, SI.f lI.1, by show 8 + 3 ≤ sizeLine; decide, fun pJ hJ => ?_⟩
    obtain ⟨FJ, SJ, gJ, lJ⟩ := SI.mkF hJ (HO.lst (([V.ref pB0, V.ref pB1, V.ref pB2, V.ref pB3] ++ [.ref pD4, .ref pD5, .ref pD6, .ref pD7]) ++ [.ref pI8, .ref pI9, .ref pI10]))
    have e0 := e0.up gJ
    have e1 := e1.up gJ
    have e2 := e2.up gJ
    have e3 := e3.up gJ
    have r0 := r0.up gJ
    have r1 := r1.up gJ
    have r2 := r2.up gJ
    have r3 := r3.up gJ
    have lB := lB.up gJ
    have e4 := e4.up gJ
    have e5 := e5.up gJ
    have e6 := e6.up gJ
    have e7 := e7.up gJ
    have r4 := r4.up gJ
    have r5 := r5.up gJ
    have r6 := r6.up gJ
    have r7 := r7.up gJ
    have lD := lD.up gJ
    have e8 := e8.up gJ
    have e9 := e9.up gJ
    have e10 := e10.up gJ
    have lG := lG.up gJ
    have r8 := r8.up gJ
    have r9 := r9.up gJ
    have r10 := r10.up gJ
    have lI := lI.up gJ
    refine k pJ [pB0, pB1, pB2, pB3, pD4, pD5, pD6, pD7, pI8, pI9, pI10] _ _ (g0.trans (g1.trans (g2.trans (g3.trans (gB0.trans (gB1.trans (gB2.trans (gB3.trans (gB.trans (g4.trans (g5.trans (g6.trans (g7.trans (gD4.trans (gD5.trans (gD6.trans (gD7.trans (gD.trans (g8.trans (g9.trans (g10.trans (gG.trans (gI8.trans (gI9.trans (gI10.trans (gI.trans gJ)))))))))))))))))))))))))) lJ.1 rfl (fun i x q hx hq => ?_) SJ
    match i, hx, hq with
    | 0, hx, hq => cases hx; cases hq; exact r0
    | 1, hx, hq => cases hx; cases hq; exact r1
    | 2, hx, hq => cases hx; cases hq; exact r2
    | 3, hx, hq => cases hx; cases hq; exact r3
    | 4, hx, hq => cases hx; cases hq; exact r4
    | 5, hx, hq => cases hx; cases hq; exact r5
    | 6, hx, hq => cases hx; cases hq; exact r6
    | 7, hx, hq => cases hx; cases hq; exact r7
    | 8, hx, hq => cases hx; cases hq; exact r8
    | 9, hx, hq => cases hx; cases hq; exact r9
    | 10, hx, hq => cases hx; cases hq; exact r10
    | _ + 11, hx, _ => cases hx
end
end Sb


set_option Elab.async false
set_option linter.all false
set_option maxRecDepth 100000
set_option maxHeartbeats 8000000
namespace Sb
open PySem L2
local macro_rules | `(tactic| walk_at "nrm") => `(tactic| try dsimp only [L2.start, List.map, List.length_cons, List.length_nil, List.cons_append, List.nil_append, List.replicate, Nat.reduceAdd, Nat.reduceSub, List.set_cons_zero, List.set_cons_succ])
/-- either of two rules for an operator -/
theorem op_or {X : Cx} {f : Value → Value → Sem Value} {r1 r2 : R2} (h1 : OpR X f r1) (h2 : OpR X f r2) : OpR X f (fun x y H Q => r1 x y H Q ∨ r2 x y H Q) := by
  intro pins s σ H x y v u Q I rx ry h
  rcases h with h | h
  · exact h1 pins s σ H x y v u Q I rx ry h
  · exact h2 pins s σ H x y v u Q I rx ry h
def spWell : Sp := fun vs H Q _ => ∃ (F : Hp) (L : List (Addr × HO)) (x : Int), vs = [.int x] ∧ Sta F L H ∧
  ∀ (p : Addr) (o : HO) (H' : Hp), Well 0 o → Sta F ((p, o) :: L) H' → Q (.ref p) H'
theorem scWell : FnScope ["_law_cell"] ["_law_cell"] (defScope sWell) := ⟨rfl, rfl, rfl, by decide +kernel, rfl, by decide +kernel, by decide +kernel⟩
def spOne : Sp := fun vs H Q _ => ∃ (F : Hp) (L : List (Addr × HO)) (w p : Addr) (o : HO) (n : Nat) (xs : List V), vs = [.ref w, .ref p] ∧ Sta F ((w, o) :: L) H ∧ Well n o ∧ n < 999999 ∧ F p = some (.lst xs) ∧ 0 < xs.length ∧ xs.length < 1000 ∧
  ∀ (x : V) (o' : HO) (H' : Hp), x ∈ xs → Well (n + 1) o' → Sta F ((w, o') :: L) H' → Q x H'
theorem scOne : FnScope ["_law_well_here", "_law_some"] ["_law_well_here", "_law_some"] (defScope sOne) := ⟨rfl, rfl, rfl, by decide +kernel, rfl, by decide +kernel, by decide +kernel⟩
section
variable {P : Program} {w : World} {K : PySem.W.Frag} {mg : Str → Option Value} {base : Heap}
theorem ok_well {f : Addr} {fd : FuncData} (F : FnP K "_law_well" sWell f fd) (gi : mg "int" = none) : FnOk P w K mg base CX0 1 f fd ["_law_cell"] spWell := by
  refine F.ok scWell (fun vs H Q E h => ?_) (fun cdv A outer s H vs Q E hr h => ?_)
  · obtain ⟨F, L, x, rfl, _⟩ := h
    rfl
  · obtain ⟨F, L, x, rfl, S, k⟩ := h
    refine ⟨_, PSs.nox (pss_one (ps_ret (pe_lst (pa_cons (pe_op op_mul (pv 0) (pe_callTy call_int1 (by rfl) gi PyProof.Rows.boot_int (pa_cons (pe_cmpR op_ge (pv 0) (pe_op op_pow pe_int pe_int) (nomark _)) pa_nil)))
      (pa_cons (pe_op op_modN (pv 0) pe_int) (pa_cons pe_int pa_nil)))))), ?_⟩
    refine ⟨_, rfl, _, rfl, _, _, rfl, rfl, ⟨by decide, by decide, by decide⟩, _, _, rfl, rfl, .inr ⟨_, rfl, ?_⟩⟩
    refine ⟨_, _, rfl, rfl, .inr (by split <;> decide), ?_⟩
    refine ⟨_, rfl, _, _, rfl, rfl, (by show (2147483647 : Int) ≠ 0; decide), ?_⟩
    refine ⟨by show 3 ≤ sizeLine; decide, fun p hp => ?_⟩
    obtain ⟨h0, h1⟩ := fmodP (x := x) (m := 2147483647) (by decide)
    exact k p _ _ ⟨_, _, _, rfl, h0, h1, by decide, by decide⟩ (S.newL hp _)
theorem atI_in {xs : List V} {d : Int} (h0 : 0 ≤ d) (h1 : d < xs.length) : ∃ x, x ∈ xs ∧ atI xs d = some x := by
  have hlt : d.toNat < xs.length := by omega
  have e : ((d.toNat : Nat) : Int) = d := by omega
  refine ⟨xs[d.toNat], List.getElem_mem _, ?_⟩
  have q : atI xs ((d.toNat : Nat) : Int) = some xs[d.toNat] := atI_nat (by simp [hlt])
  rw [e] at q
  exact q
theorem ok_one {f fD : Addr} {fd fdD : FuncData} (F : FnP K "_law_one" sOne f fd) (FD : FnP K "_law_draw" sDraw fD fdD) (gD : mg "_law_draw" = some (.ref fD)) (gl : mg "len" = none) :
    FnOk P w K mg base CX0 2 f fd ["_law_well_here", "_law_some"] spOne := by
  have GD : FnOk P w K mg base CX0 1 fD fdD ["_law_well_here", "_law_many"] spDraw := ok_draw FD
  have bD : Binds K fdD ["_law_well_here", "_law_many"] [] := FD.bindsN fun _ _ _ _ _ _ us hl => match us, hl with | [_, _], _ => rfl
  refine F.ok scOne (fun vs H Q E h => ?_) (fun cdv A outer s H vs Q E hr h => ?_)
  · obtain ⟨F, L, w, p, o, n, xs, rfl, _⟩ := h
    rfl
  · obtain ⟨F, L, w, p, o, n, xs, rfl, S, W, hn, hp, x0, x1, k⟩ := h
    refine ⟨_, PSs.nox (pss_one (ps_ret (pe_ix ix_list (pv 1) (pe_call GD hr rfl gD FD.kp bD .nil pass0 (pa_cons (pv 0) (pa_cons (pe_callB call_len (by rfl) gl PySem.boot_len (pa_cons (pv 1) pa_nil)) pa_nil))) (fun _ _ => rfl)))), ?_⟩
    refine ⟨_, rfl, _, rfl, _, rfl, _, xs.length, rfl, .inl ⟨_, sq (S.f hp), rfl⟩, ?_⟩
    refine ⟨F, L, w, o, n, _, rfl, S, W, by omega, by omega, by omega, fun o' d H' W' d0 d1 S' => ?_⟩
    obtain ⟨x, hx, ha⟩ := atI_in (xs := xs) d0 d1
    exact ⟨p, xs, d, x, rfl, rfl, sq (S'.f hp), ha, k x o' H' hx W' S'⟩
end
end Sb


set_option Elab.async false
set_option linter.all false
set_option maxRecDepth 100000
set_option maxHeartbeats 8000000
namespace Sb
open PySem L2
local macro_rules | `(tactic| walk_at "nrm") => `(tactic| try dsimp only [L2.start, List.map, List.length_cons, List.length_nil, List.cons_append, List.nil_append, List.replicate, Nat.reduceAdd, Nat.reduceSub, List.set_cons_zero, List.set_cons_succ, wipe])
theorem scLaw : FnScope ["_law_script", "_law_cell", "_law_well_here", "_law_thing", "_law_k", "_law_row", "_law_error", "_law_kept", "_law_at"] ["_law_script"] (defScope sLaw) := ⟨rfl, rfl, rfl, by decide +kernel, rfl, by decide +kernel, by decide +kernel⟩
def spLaw (K : PySem.W.Frag) : Sp := fun vs H Q _ => ∃ (a : Addr) (ns : List Int), vs = [.ref a] ∧ SqL K H a (ns.map V.int) ∧ ns.length ≤ 63 ∧ ∀ H', Q (.bl true) H'
theorem sta0 (H : Hp) : Sta (fun _ => none) [] H := ⟨(fun _ _ h => by cases h), (fun _ _ h => by cases h), List.nodup_nil⟩
theorem cut_le (xs : List V) (lo hi : Option Int) : (cutV xs lo hi).length ≤ xs.length := by
  unfold cutV
  rw [List.length_take, List.length_drop]
  omega
theorem cut_mem {xs : List V} {lo hi : Option Int} {x : V} (h : x ∈ cutV xs lo hi) : x ∈ xs := List.mem_of_mem_drop (List.mem_of_mem_take h)
/-- a list whose items are None and texts -/
def Flat (ys : List V) : Prop := ∀ y ∈ ys, y = .non ∨ y = .str "more"
def dat : V → PyData
  | .str x => .str x
  | _ => .none
theorem Flat.dp {K : PySem.W.Frag} {H : Hp} : ∀ {ys : List V}, Flat ys → DpAll K H ys (ys.map dat)
  | [], _ => .nil
  | y :: ys, h => by
    refine .cons ?_ (Flat.dp fun z hz => h z (List.mem_cons_of_mem _ hz))
    rcases h y (List.mem_cons_self ..) with rfl | rfl
    · exact .non
    · exact .str _
theorem lay_list : ∀ {ds : List PyData}, (∀ d ∈ ds, PyData.canLay0 d = true ∧ PyData.depth d = 0) → PyData.canLayAll0 ds = true ∧ PyData.depthAll ds = 0
  | [], _ => ⟨by simp [PyData.canLayAll0], by simp [PyData.depthAll]⟩
  | d :: ds, h => by
    obtain ⟨h1, h2⟩ := h d (List.mem_cons_self ..)
    obtain ⟨h3, h4⟩ := lay_list fun z hz => h z (List.mem_cons_of_mem _ hz)
    exact ⟨by simp [PyData.canLayAll0, h1, h3], by simp [PyData.depthAll, h2, h4]⟩
theorem shaped_list {ds : List PyData} (h : ∀ d ∈ ds, PyData.canLay0 d = true ∧ PyData.depth d = 0) : SeqAt.shaped (.list ds) = true := by
  obtain ⟨h1, h2⟩ := lay_list h
  unfold SeqAt.shaped
  simp [PyData.canLay0, PyData.depth, h1, h2]
theorem ok_more : PyData.strOk (Str.ofString "more") = true := by decide +kernel
theorem Flat.lay {ys : List V} (h : Flat ys) : ∀ d ∈ ys.map dat, PyData.canLay0 d = true ∧ PyData.depth d = 0 := by
  intro d hd
  obtain ⟨y, hy, rfl⟩ := List.mem_map.mp hd
  rcases h y hy with rfl | rfl
  · exact ⟨rfl, rfl⟩
  · exact ⟨by show PyData.canLay0 (.str (Str.ofString "more")) = true; unfold PyData.canLay0; exact ok_more, rfl⟩
theorem Flat.put {ys : List V} (h : Flat ys) : Flat (ys ++ [.str "more"]) := fun y hy => by
  rcases List.mem_append.mp hy with hy | hy
  · exact h y hy
  · rw [List.mem_singleton] at hy
    exact .inr hy
/-- x != x is False, whatever is drawn -/
def SameV (K : PySem.W.Frag) (H : Hp) (x : V) : Prop := ∃ d, Dp K H x d ∧ SeqAt.shaped d = true
def OwnD (H : Hp) (x : V) : Prop := ∃ a, x = .ref a ∧ H a = some (.dK [])
theorem same_ne {K : PySem.W.Frag} {H : Hp} {x : V} {Q : VK} (h : SameV K H x) (k : Q (.bl false) H) : rNeD K x x H Q := by
  obtain ⟨d, h1, h2⟩ := h
  refine ⟨d, d, h1, h1, h2, h2, ?_⟩
  have e : PyData.eqv d d = true := SeqAt.eqv_refl d (SeqAt.canLay_of_shaped h2)
  rw [e]
  exact k
theorem dict_ne {H : Hp} {x : V} {Q : VK} (h : OwnD H x) (k : Q (.bl false) H) : rNeDA x x H Q := by
  obtain ⟨a, rfl, h⟩ := h
  exact ⟨a, a, [], [], rfl, rfl, h, h, rfl, (fun p hp => by cases hp), k⟩
/-- bools, one by one -/
theorem dp_bools {K : PySem.W.Frag} {H : Hp} : ∀ (bs : List Bool), DpAll K H (bs.map V.bl) (bs.map PyData.bool)
  | [] => .nil
  | b :: bs => .cons (.bl b) (dp_bools bs)
theorem lay_bools (bs : List Bool) : ∀ d ∈ bs.map PyData.bool, PyData.canLay0 d = true ∧ PyData.depth d = 0 := by
  intro d hd
  obtain ⟨y, hy, rfl⟩ := List.mem_map.mp hd
  exact ⟨rfl, rfl⟩

structure Txt2 (mg : Str → Option Value) (fW fO fE fK : Addr) : Prop where
  gW : mg "_law_well" = some (.ref fW)
  gO : mg "_law_one" = some (.ref fO)
  gE : mg "_law_errors" = some (.ref fE)
  gK : mg "_law_kinds" = some (.ref fK)
/-- a thing of the law's: what it is, in the heap as it stands -/
def Thing (K : PySem.W.Frag) (H : Hp) (x : V) (l1 l2 : Addr) : Prop := (SameV K H x ∨ OwnD H x) ∧ ∃ (t : String) (b c : Bool), TyX K H x (.type t) ∧ PySem.W.kitOne K (.type t) (.type "bool") = some b ∧ PySem.W.kitOne K (.type t) (.type "list") = some c ∧ (c = true → x = .ref l1 ∨ x = .ref l2)
section
variable {P : Program} {w : World} {K : PySem.W.Frag} {mg : Str → Option Value} {base : Heap}
theorem ok_law {f fD fW fO fE fK : Addr} {fd fdD fdW fdO fdE fdK : FuncData} (F : FnP K "law" sLaw f fd) (T : Txt K mg) (I : ∀ x ∈ ens, Ini P w K mg base x.1 x.2) (T2 : Txt2 mg fW fO fE fK)
    (FD : FnP K "_law_draw" sDraw fD fdD) (gD : mg "_law_draw" = some (.ref fD)) (FW : FnP K "_law_well" sWell fW fdW) (FO : FnP K "_law_one" sOne fO fdO) (FE : FnP K "_law_errors" sErrors fE fdE) (FK : FnP K "_law_kinds" sKinds fK fdK) :
    FnOk P w K mg base CX0 4 f fd ["_law_script"] (spLaw K) := by
  have GW : FnOk P w K mg base CX0 1 fW fdW ["_law_cell"] spWell := ok_well FW T.int
  have GO : FnOk P w K mg base CX0 2 fO fdO ["_law_well_here", "_law_some"] spOne := ok_one FO FD gD T.len
  have GE : FnOk P w K mg base CX0 3 fE fdE ["_law_thing"] (spErrors K) := ok_errors FE T I
  have GK : FnOk P w K mg base CX0 1 fK fdK ["_law_error"] (spKinds K) := ok_kinds FK T
  have bW : Binds K fdW ["_law_cell"] [] := FW.bindsN fun _ _ _ _ _ _ us hl => match us, hl with | [_], _ => rfl
  have bO : Binds K fdO ["_law_well_here", "_law_some"] [] := FO.bindsN fun _ _ _ _ _ _ us hl => match us, hl with | [_, _], _ => rfl
  have bE : Binds K fdE ["_law_thing"] [] := FE.bindsN fun _ _ _ _ _ _ us hl => match us, hl with | [_], _ => rfl
  have bK : Binds K fdK ["_law_error"] [] := FK.bindsN fun _ _ _ _ _ _ us hl => match us, hl with | [_], _ => rfl
  refine F.ok scLaw (fun vs H Q E h => ?_) (fun cdv A outer s H vs Q E hr h => ?_)
  · obtain ⟨a, ns, rfl, _⟩ := h
    rfl
  · obtain ⟨a, ns, rfl, hS, hlen, k⟩ := h
    refine ⟨_, PSs.nox (pss_cons (ps_for PassesOwn.never rfl (pi_list (pe_op op_cat (pe_slice sl_list (pv 0) po_none (po_some pe_int)) (pe_lst (pa_cons pe_int pa_nil)))) (pg_name (i := 1) scLaw.nd rfl (Or.inl rfl))
        (pss_cons (ps_set (i := 2) scLaw.nd rfl (Or.inl rfl) (pe_call GW (hr.mono (by decide)) rfl T2.gW FW.kp bW .nil pass0 (pa_cons (pv 1) pa_nil)))
        (pss_cons (ps_set (i := 3) scLaw.nd rfl (Or.inl rfl) (pe_call GO (hr.mono (by decide)) rfl T2.gO FO.kp bO .nil pass0 (pa_cons (pv 2) (pa_cons (pe_lst (pa_cons pe_non (pa_cons pe_int (pa_cons (pe_un un_neg pe_int) (pa_cons pe_str (pa_cons pe_str (pa_cons (pe_tup (pa_cons pe_str (pa_cons pe_str pa_nil))) (pa_cons (pe_cmpR op_eq pe_int pe_int (nomark _)) (pa_cons (pe_lst pa_nil) (pa_cons pe_dnewK (pa_cons (pe_lst (pa_cons pe_non pa_nil)) (pa_cons (pe_op op_pow pe_int pe_int) pa_nil)))))))))))) pa_nil))))
        (pss_one (ps_for PassesOwn.never rfl (pi_enum (by rfl) T.enum (pa_cons (pe_call GE (hr.mono (by decide)) rfl T2.gE FE.kp bE .nil pass0 (pa_cons (pv 3) pa_nil)) pa_nil)) (pg_tup rfl (pgs_cons (pg_name (i := 4) scLaw.nd rfl (Or.inr rfl)) (pgs_cons (pg_name (i := 5) scLaw.nd rfl (Or.inl rfl)) pgs_nil)))
          (pss_cons (ps_asg (pv 5) (pg_tup rfl (pgs_cons (pg_name (i := 6) scLaw.nd rfl (Or.inl rfl)) (pgs_cons (pg_name (i := 7) scLaw.nd rfl (Or.inl rfl)) pgs_nil))))
          (pss_cons (ps_if (PW.pt (pw_or (pt_not (pt_val (pe_callB call_isV (by rfl) T.isi (by decide +kernel) (pa_cons (pv 6) (pa_cons (pe_glob (v := .ref (He.ga K "LoadError")) rfl T.glL rfl) pa_nil))))) (pw_or1 (pt_not (pt_val (pe_callB call_isV (by rfl) T.isi (by decide +kernel) (pa_cons (pv 6) (pa_cons (pe_bltn (v := .ty "ValueError") (by rfl) T.val (by decide +kernel) rfl) pa_nil)))))))) (pss_one (ps_ret pe_bl)) pss_nil)
          (pss_cons (ps_if (pt_cmpR (op_neD hr.units) (pe_call GK (hr.mono (by decide)) rfl T2.gK FK.kp bK .nil pass0 (pa_cons (pv 6) pa_nil)) (pe_lc (own := [("_law_at", 8)]) (g := gName 8) rfl scLaw.nd (pi_range1 rfl T.range (pa_cons pe_int pa_nil)) (blkOk_by (N := ["_law_script", "_law_cell", "_law_well_here", "_law_thing", "_law_k", "_law_row", "_law_error", "_law_kept", "_law_at"]) (sc := defScope sLaw) (by decide +kernel)) (fun _ _ _ _ _ => pg_name (i := 8) scLaw.nd rfl (Or.inl rfl)) (fun _ _ _ _ _ => pts_nil) (fun _ _ _ _ _ => pe_cmpR op_eq (pv 4) (pv 8) (nomark _))) (nomark _)) (pss_one (ps_ret pe_bl)) pss_nil)
          (pss_cons (ps_if (PW.pt (pw_or (pt_cmpR (op_or (op_neD hr.units) (op_ne_dictA (Nat.lt_of_le_of_lt (Nat.le_add_right _ 64) hr.units))) (pv 7) (pv 3) (nomark _)) (pw_or1 (pt_cmpR op_ne (pe_callB call_isi (by rfl) T.isi (by decide +kernel) (pa_cons (pv 7) (pa_cons (pe_bltn (v := .ty "bool") (by rfl) T.bool (by decide +kernel) rfl) pa_nil))) (pe_callB call_isi (by rfl) T.isi (by decide +kernel) (pa_cons (pv 3) (pa_cons (pe_bltn (v := .ty "bool") (by rfl) T.bool (by decide +kernel) rfl) pa_nil))) (nomark _))))) (pss_one (ps_ret pe_bl)) pss_nil)
          (pss_one (ps_if (pt_val (pe_callB call_isi (by rfl) T.isi (by decide +kernel) (pa_cons (pv 3) (pa_cons (pe_bltn (v := .ty "list") (by rfl) T.list (by decide +kernel) rfl) pa_nil)))) (pss_cons (ps_expr (pe_bm PySem.F.plainAttrs_list PySem.F.slot_list_append PySem.F.type_list_append mt_append (pv 3) (pa_cons pe_str pa_nil)))
            (pss_one (ps_if (pt_cmpR (op_neD hr.units) (pv 7) (pv 3) (nomark _)) (pss_one (ps_ret pe_bl)) pss_nil))) pss_nil)))))))))))
      (pss_one (ps_ret pe_bl))), ?_⟩
    walk_at "nrm"
    refine ⟨_, rfl, _, rfl, a, _, rfl, hS, fun p1 hp1 => ?_⟩
    have S0 := sta0 H
    obtain ⟨F1, S1, g1, l1⟩ := S0.mkF hp1 (.lst (cutV (ns.map V.int) none (some 6)))
    generalize upd _ p1 _ = H1 at S1 ⊢
    refine ⟨by show 1 ≤ sizeLine; decide, fun p2 hp2 => ?_⟩
    obtain ⟨F2, S2, g2, l2⟩ := S1.mkF hp2 (.lst [.int 0])
    generalize upd _ p2 _ = H2 at S2 ⊢
    have l1 := l1.up g2
    refine ⟨p1, p2, _, _, rfl, rfl, S2.f l1.1, S2.f l2.1, ?_, fun p3 hp3 => ?_⟩
    · have z := cut_le (ns.map V.int) none (some 6)
      rw [List.length_map] at z
      exact sz (by show (cutV (ns.map V.int) none (some 6)).length + 1 ≤ 100000; omega)
    obtain ⟨F3, S3, g3, l3⟩ := S2.mkF hp3 (.lst (cutV (ns.map V.int) none (some 6) ++ [.int 0]))
    generalize upd _ p3 _ = H3 at S3 ⊢
    have hints : ∀ x ∈ cutV (ns.map V.int) none (some 6) ++ [V.int 0], ∃ i : Int, x = .int i := by
      intro x hx
      rcases List.mem_append.mp hx with hx | hx
      · obtain ⟨i, _, rfl⟩ := List.mem_map.mp (cut_mem hx)
        exact ⟨i, rfl⟩
      · rw [List.mem_singleton] at hx
        exact ⟨0, hx⟩
    generalize cutV (ns.map V.int) none (some 6) ++ [V.int 0] = cells at l3 hints ⊢
    clear S0 S1 S2 l1 l2 g1 g2 g3
    refine ⟨p3, rfl, ⟨cells, sq (S3.f l3.1)⟩, for_list (K := K) (a := p3) (xs := cells) (fun i σ H' => ∃ v1 v2 v3 v4 v5 v6 v7 v8 : Option V, σ = [some (.ref a), v1, v2, v3, v4, v5, v6, v7, v8] ∧ Sta F3 [] H')
      ⟨none, none, none, none, none, none, none, none, rfl, S3⟩ (fun i σ H' _ ⟨_, _, _, _, _, _, _, _, _, S⟩ => sq (S.f l3.1)) ?_ (fun σ H' ⟨_, _, _, _, _, _, _, _, _, _⟩ => k H')⟩
    rintro i y σ H4 hy ⟨v1, v2, v3, v4, v5, v6, v7, v8, rfl, S4⟩
    obtain ⟨c, rfl⟩ := hints y (List.mem_of_getElem? hy)
    show tSeq _ _ _ [some (.ref a), some (.int c), v2, v3, v4, v5, v6, v7, v8] H4
    refine ⟨_, rfl, F3, [], c, rfl, S4, fun w0 o0 H5 W5 S5 => ?_⟩
    walk_at "nrm"
    -- the things
    refine ⟨_, rfl, _, rfl, ?_⟩
    refine ⟨by show 2 ≤ sizeLine; decide, fun q1 hq1 => ?_⟩
    obtain ⟨F6, S6, g6, l6⟩ := S5.mkF hq1 (.tup [.str "a", .str "b"])
    generalize upd _ q1 _ = H6 at S6 ⊢
    refine ⟨rfl, ?_⟩
    refine ⟨by show 0 ≤ sizeLine; decide, fun q2 hq2 => ?_⟩
    have S7 := S6.newL hq2 (.lst [])
    generalize upd _ q2 _ = H7 at S7 ⊢
    intro q3 hq3
    have S8 := S7.newL hq3 (.dK [])
    generalize upd _ q3 _ = H8 at S8 ⊢
    refine ⟨by show 1 ≤ sizeLine; decide, fun q4 hq4 => ?_⟩
    have S9 := S8.newL hq4 (.lst [.non])
    generalize upd _ q4 _ = H9 at S9 ⊢
    refine ⟨_, _, rfl, rfl, ⟨by decide, by decide, by decide⟩, ?_⟩
    refine ⟨by show 11 ≤ sizeLine; decide, fun q5 hq5 => ?_⟩
    obtain ⟨F10, S10, g10, l10⟩ := S9.mkF hq5 (.lst [.non, .int 0, .int (-1), .str "", .str "core", .ref q1, .bl (decide (V.int 1 = V.int 1)), .ref q2, .ref q3, .ref q4, .int (10 ^ (12 : Int).toNat)])
    generalize upd _ q5 _ = H10 at S10 ⊢
    have l6 := l6.up g10
    have S11 : Sta F10 [(w0, o0), (q2, .lst []), (q3, .dK []), (q4, .lst [.non])] H10 := S10.perm (by
      have e1 : List.Perm [(q4, HO.lst [.non]), (q3, .dK []), (q2, .lst []), (w0, o0)] [(w0, o0), (q2, .lst []), (q3, .dK []), (q4, .lst [.non])] := by
        have := List.reverse_perm [(q4, HO.lst [.non]), (q3, .dK []), (q2, .lst []), (w0, o0)]
        exact this.symm
      exact e1.symm)
    refine ⟨F10, _, w0, q5, o0, 0, _, rfl, S11, W5, by decide, l10.1, by show 0 < 11; decide, by show 11 < 1000; decide, fun x o1 H12 hx W12 S12 => ?_⟩
    walk_at "nrm"
    have gAll : Gr F3 F10 := g6.trans g10
    clear S5 S6 S7 S8 S9 S10 S11
    -- what a thing is
    have thing : ∀ (F' : Hp) (ys zs : List V) (H' : Hp), Gr F10 F' → Flat ys → Flat zs → Sta F' [(w0, o1), (q2, .lst ys), (q3, .dK []), (q4, .lst zs)] H' → Thing K H' x q2 q4 := by
      intro F' ys zs H' g hys hzs S
      have hT : H' q1 = some (.tup [.str "a", .str "b"]) := S.f (g _ _ l6.1)
      have hL2 : H' q2 = some (.lst ys) := S.l (by simp)
      have hL3 : H' q3 = some (.dK []) := S.l (by simp)
      have hL4 : H' q4 = some (.lst zs) := S.l (by simp)
      simp only [List.mem_cons, List.mem_nil_iff, or_false] at hx
      rcases hx with rfl | rfl | rfl | rfl | rfl | rfl | rfl | rfl | rfl | rfl | rfl
      · exact ⟨.inl ⟨_, .non, rfl⟩, "NoneType", false, false, .base .non, kit_ty (by decide +kernel), kit_ty (by decide +kernel), fun z => by cases z⟩
      · exact ⟨.inl ⟨_, .int _, rfl⟩, "int", false, false, .base (.int _), kit_ty (by decide +kernel), kit_ty (by decide +kernel), fun z => by cases z⟩
      · exact ⟨.inl ⟨_, .int _, rfl⟩, "int", false, false, .base (.int _), kit_ty (by decide +kernel), kit_ty (by decide +kernel), fun z => by cases z⟩
      · exact ⟨.inl ⟨_, .str _, by decide +kernel⟩, "str", false, false, .base (.str _), kit_ty (by decide +kernel), kit_ty (by decide +kernel), fun z => by cases z⟩
      · exact ⟨.inl ⟨_, .str _, by decide +kernel⟩, "str", false, false, .base (.str _), kit_ty (by decide +kernel), kit_ty (by decide +kernel), fun z => by cases z⟩
      · exact ⟨.inl ⟨_, .tup (st hT) (.cons (.str _) (.cons (.str _) .nil)), by decide +kernel⟩, "tuple", false, false, .base (.tup hT), kit_ty (by decide +kernel), kit_ty (by decide +kernel), fun z => by cases z⟩
      · exact ⟨.inl ⟨_, .bl _, rfl⟩, "bool", true, false, .base (.bl _), kit_ty (by decide +kernel), kit_ty (by decide +kernel), fun z => by cases z⟩
      · exact ⟨.inl ⟨_, .lst (sq hL2) hys.dp, shaped_list hys.lay⟩, "list", false, true, .base (.lst hL2), kit_ty (by decide +kernel), kit_ty (by decide +kernel), fun _ => .inl rfl⟩
      · exact ⟨.inr ⟨q3, rfl, hL3⟩, "dict", false, false, .base (.dK hL3), kit_ty (by decide +kernel), kit_ty (by decide +kernel), fun z => by cases z⟩
      · exact ⟨.inl ⟨_, .lst (sq hL4) hzs.dp, shaped_list hzs.lay⟩, "list", false, true, .base (.lst hL4), kit_ty (by decide +kernel), kit_ty (by decide +kernel), fun _ => .inr rfl⟩
      · exact ⟨.inl ⟨_, .int _, rfl⟩, "int", false, false, .base (.int _), kit_ty (by decide +kernel), kit_ty (by decide +kernel), fun z => by cases z⟩
    refine ⟨_, rfl, F10, _, x, rfl, S12, fun p qs F13 H13 g13 hp hl hrow S13 => ?_⟩
    refine ⟨p, _, rfl, sq (S13.f hp), for_it walk_enum (fun j σ H' => ∃ (ys zs : List V) (v4 v5 v6 v7 v8 : Option V), σ = [some (.ref a), some (.int c), some (.ref w0), some x, v4, v5, v6, v7, v8] ∧ Flat ys ∧ Flat zs ∧ ys.length ≤ j + 1 ∧ zs.length ≤ j + 1 ∧
        Sta F13 [(w0, o1), (q2, .lst ys), (q3, .dK []), (q4, .lst zs)] H')
      ⟨[], [.non], _, _, _, _, _, rfl, (fun y hy => by cases hy), (fun y hy => by rw [List.mem_singleton] at hy; exact .inl hy), Nat.zero_le _, Nat.le_refl _, S13⟩
      (fun j σ H' _ ⟨_, _, _, _, _, _, _, _, _, _, _, _, S⟩ => sq (S.f hp)) ?_ ?_⟩
    · rintro j v σ H14 H15 hj ⟨ys, zs, v4, v5, v6, v7, v8, rfl, hys, hzs, ly, lz, S14⟩ ⟨T0, t1, t2, rfl, hT0, rfl, e1, e2⟩
      cases e1
      have hj11 : j < qs.length := by rw [List.length_map] at hj; exact hj
      obtain ⟨q, hq⟩ : ∃ q, qs[j]? = some q := ⟨qs[j], by simp [hj11]⟩
      obtain rfl : t2 = V.ref q := by
        have e3 : (qs.map V.ref)[j]? = some t2 := e2
        rw [List.getElem?_map, hq] at e3
        exact (Option.some.inj e3).symm
      obtain ⟨xe, hxe⟩ : ∃ xe, ens[j]? = some xe := ⟨ens[j]'(by rw [hl] at hj11; exact hj11), List.getElem?_eq_getElem _⟩
      obtain ⟨ae, de, ht, he⟩ := hrow j xe q hxe hq
      have X := T.exc xe (List.mem_of_getElem? hxe)
      have S15 := S14.newX hT0 (.tup [.int (j : Nat), .ref q])
      refine ⟨T0, _, rfl, st upd_same, rfl, _, _, rfl, _, _, rfl, rfl, ?_⟩
      generalize upd _ T0 _ = H15 at S15 ⊢
      walk_at "nrm"
      refine ⟨_, rfl, q, _, rfl, st (S15.f ht), rfl, _, _, rfl, _, _, rfl, rfl, ?_⟩
      walk_at "nrm"
      refine ⟨_, rfl, ae, _, de, _, x, _, _, _, rfl, .own _, he.at S15, X, T.kitL xe (List.mem_of_getElem? hxe), _, rfl, ?_⟩
      refine iteF ⟨_, rfl, ae, _, de, _, x, _, _, _, rfl, .ty _, he.at S15, X, T.kitV xe (List.mem_of_getElem? hxe), _, rfl, ?_⟩
      refine iteF ?_
      -- the kinds
      refine ⟨_, rfl, F13, _, ae, de, j, xe, x, rfl, S15, hxe, he, fun pk F16 H16 g16 hpk S16 => ?_⟩
      refine ⟨11, rfl, by decide, by decide, fun D hD => ?_⟩
      have S17 := S16.newL hD (.lst [])
      refine lc_range (lo := 0) (n := 11) (fun m H' => Sta F16 ((D, .lst ((List.range m).map fun b => V.bl (decide (V.int (j : Nat) = V.int (0 + (b : Nat)))))) :: [(w0, o1), (q2, .lst ys), (q3, .dK []), (q4, .lst zs)]) H') S17 ?_ ?_
      · intro m H' hm S
        refine ⟨rfl, ?_⟩
        walk_at "nrm"
        refine ⟨_, rfl, _, rfl, rfl, _, S.hd, ?_, ?_⟩
        · rw [List.length_map, List.length_range]
          exact szl (by omega)
        · have e : (List.range (m + 1)).map (fun b => V.bl (decide (V.int (j : Nat) = V.int (0 + (b : Nat))))) = (List.range m).map (fun b => V.bl (decide (V.int (j : Nat) = V.int (0 + (b : Nat))))) ++ [V.bl (decide (V.int (j : Nat) = V.int (0 + (m : Nat))))] := by
            rw [List.range_succ, List.map_append, List.map_singleton]
          rw [e]
          exact S.set _
      · intro H18 S18
        have ek : kinds j = ((List.range 11).map fun b => decide (j = b)).map V.bl := by
          unfold kinds
          rw [List.map_map]
          rfl
        have eb : ((List.range 11).map fun b => V.bl (decide (V.int (j : Nat) = V.int (0 + (b : Nat))))) = ((List.range 11).map fun b => decide (j = b)).map V.bl := by
          rw [List.map_map]
          refine List.map_congr_left fun b _ => ?_
          show V.bl (decide (V.int (j : Nat) = V.int (0 + (b : Nat)))) = V.bl (decide (j = b))
          have e : (V.int (j : Nat) = V.int (0 + (b : Nat))) = (j = b) := by
            rw [V.int.injEq]
            exact propext ⟨fun z => by omega, fun z => by omega⟩
          simp only [e]
        rw [eb] at S18
        have hsh := shaped_list (lay_bools ((List.range 11).map fun b => decide (j = b)))
        refine ⟨_, _, .lst (sq (S18.f hpk)) (by rw [ek]; exact dp_bools _), .lst (sq S18.hd) (dp_bools _), hsh, hsh, ?_⟩
        have ev := SeqAt.eqv_refl _ (SeqAt.canLay_of_shaped hsh)
        rw [ev]
        refine ⟨_, rfl, ?_⟩
        refine iteF ?_
        walk_at "nrm"
        have S19 := S18.tl
        obtain ⟨hsame, ty, b, cc, hty, hkb, hkl, hcl⟩ := thing F16 ys zs H18 (g13.trans g16) hys hzs S19
        refine ⟨_, rfl, _, rfl, ?_⟩
        have step : ∀ Q' : VK, Q' (.bl false) H18 → (rNeD K x x H18 Q' ∨ rNeDA x x H18 Q') := fun Q' q => by
          rcases hsame with h | h
          · exact .inl (same_ne h q)
          · exact .inr (dict_ne h q)
        refine step _ ?_
        refine ⟨_, rfl, ?_⟩
        refine iteF ?_
        refine ⟨_, rfl, x, _, _, _, b, rfl, .ty _, hty, hkb, ?_⟩
        refine ⟨_, rfl, x, _, _, _, b, rfl, .ty _, hty, hkb, ?_⟩
        refine ⟨rfl, ?_⟩
        have en : (!decide (V.bl b = V.bl b)) = false := by simp
        refine ⟨_, rfl, ?_⟩
        rw [en]
        refine iteF ?_
        refine ⟨_, rfl, x, _, _, _, cc, rfl, .ty _, hty, hkl, ?_⟩
        refine ⟨_, rfl, ?_⟩
        cases cc with
        | false =>
          refine iteF ?_
          exact ⟨ys, zs, _, _, _, _, _, rfl, hys, hzs, by omega, by omega, S19.sub g16⟩
        | true =>
          refine iteT ?_
          rcases hcl rfl with rfl | rfl
          · have hL : H18 q2 = some (.lst ys) := S19.l (by simp)
            refine ⟨_, rfl, .inl ⟨rfl, _, sq hL⟩, q2, _, _, rfl, rfl, hL, szl (by omega), ?_⟩
            have S20 : Sta F16 [(w0, o1), (q2, .lst (ys ++ [.str "more"])), (q3, .dK []), (q4, .lst zs)] (upd H18 q2 (.lst (ys ++ [.str "more"]))) := Sta.put (A := [(w0, o1)]) S19 _
            have hL2 : upd H18 q2 (.lst (ys ++ [.str "more"])) q2 = some (.lst (ys ++ [.str "more"])) := upd_same
            refine ⟨_, rfl, _, rfl, ?_⟩
            refine same_ne ⟨_, .lst (sq hL2) hys.put.dp, shaped_list hys.put.lay⟩ ?_
            refine ⟨_, rfl, ?_⟩
            refine iteF ?_
            exact ⟨_, zs, _, _, _, _, _, rfl, hys.put, hzs, by rw [List.length_append, List.length_singleton]; omega, by omega, S20.sub g16⟩
          · have hL : H18 q4 = some (.lst zs) := S19.l (by simp)
            refine ⟨_, rfl, .inl ⟨rfl, _, sq hL⟩, q4, _, _, rfl, rfl, hL, szl (by omega), ?_⟩
            have S20 : Sta F16 [(w0, o1), (q2, .lst ys), (q3, .dK []), (q4, .lst (zs ++ [.str "more"]))] (upd H18 q4 (.lst (zs ++ [.str "more"]))) := Sta.put (A := [(w0, o1), (q2, .lst ys), (q3, .dK [])]) S19 _
            have hL2 : upd H18 q4 (.lst (zs ++ [.str "more"])) q4 = some (.lst (zs ++ [.str "more"])) := upd_same
            refine ⟨_, rfl, _, rfl, ?_⟩
            refine same_ne ⟨_, .lst (sq hL2) hzs.put.dp, shaped_list hzs.put.lay⟩ ?_
            refine ⟨_, rfl, ?_⟩
            refine iteF ?_
            exact ⟨ys, _, _, _, _, _, _, rfl, hys, hzs.put, by omega, by rw [List.length_append, List.length_singleton]; omega, S20.sub g16⟩
    · rintro σ H14 ⟨ys, zs, v4, v5, v6, v7, v8, rfl, hys, hzs, ly, lz, S14⟩
      exact ⟨_, _, _, _, _, _, _, _, rfl, (S14.tl.tl.tl.tl).sub (gAll.trans g13)⟩
end
end Sb


set_option Elab.async false
set_option linter.all false
set_option maxRecDepth 100000
set_option maxHeartbeats 0
namespace Sb
open PySem L2 PySem.Spec PyProof.Rows
/-! the head: facts by names, and one more Bool -/
def hookB (n : Nat) (fa : List He.Fa) (fn : List He.DefD) (ex : PySem.W.Frag → Bool) : PySem.W.Hook where
  α := He.AlD × Bool
  obs := fun s => (He.obsDG n fa fn s.heap.get?, ex (He.frG s.heap.get? (He.asD s.heap.get? n)))
  val := fun _ => (He.valD fn, true)
  says := fun _ h => ∃ K : PySem.W.Frag, K.In h ∧ He.SaysD fa fn K ∧ ex K = true
  of := fun _ _ e => ⟨_, He.frG_in, congrArg Prod.fst e, congrArg Prod.snd e⟩
  keeps := fun _ _ _ ⟨K, hK, c⟩ k => ⟨K, PySem.W.Frag.In.keeps hK k, c⟩
def dsWell : He.DefD := ⟨("_law_well", none), "_law_well", "_law_well", defArgs sWell, defBody sWell, defScope sWell, [], []⟩
def dsDraw : He.DefD := ⟨("_law_draw", none), "_law_draw", "_law_draw", defArgs sDraw, defBody sDraw, defScope sDraw, [], []⟩
def dsOne : He.DefD := ⟨("_law_one", none), "_law_one", "_law_one", defArgs sOne, defBody sOne, defScope sOne, [], []⟩
def dsErrors : He.DefD := ⟨("_law_errors", none), "_law_errors", "_law_errors", defArgs sErrors, defBody sErrors, defScope sErrors, [], []⟩
def dsKinds : He.DefD := ⟨("_law_kinds", none), "_law_kinds", "_law_kinds", defArgs sKinds, defBody sKinds, defScope sKinds, [], []⟩
def dsLaw : He.DefD := ⟨("law", none), "law", "law", defArgs sLaw, defBody sLaw, defScope sLaw, [], []⟩
def dI0 : He.DefD := ⟨("NoLibrary", some "__init__"), "__init__", "NoLibrary.__init__", defArgs sI0, defBody sI0, defScope sI0, [], []⟩
def dI1 : He.DefD := ⟨("NoStore", some "__init__"), "__init__", "NoStore.__init__", defArgs sI1, defBody sI1, defScope sI1, [], []⟩
def dI2 : He.DefD := ⟨("NoName", some "__init__"), "__init__", "NoName.__init__", defArgs sI2, defBody sI2, defScope sI2, [], []⟩
def dI3 : He.DefD := ⟨("Missing", some "__init__"), "__init__", "Missing.__init__", defArgs sI3, defBody sI3, defScope sI3, [], []⟩
def dI4 : He.DefD := ⟨("NoSymbol", some "__init__"), "__init__", "NoSymbol.__init__", defArgs sI4, defBody sI4, defScope sI4, [], []⟩
def dI5 : He.DefD := ⟨("NoPreloads", some "__init__"), "__init__", "NoPreloads.__init__", defArgs sI5, defBody sI5, defScope sI5, [], []⟩
def dI6 : He.DefD := ⟨("NotLoaded", some "__init__"), "__init__", "NotLoaded.__init__", defArgs sI6, defBody sI6, defScope sI6, [], []⟩
def dI7 : He.DefD := ⟨("NotUsed", some "__init__"), "__init__", "NotUsed.__init__", defArgs sI7, defBody sI7, defScope sI7, [], []⟩
def dI8 : He.DefD := ⟨("Unresolved", some "__init__"), "__init__", "Unresolved.__init__", defArgs sI8, defBody sI8, defScope sI8, [], []⟩
def dI9 : He.DefD := ⟨("NoHandle", some "__init__"), "__init__", "NoHandle.__init__", defArgs sI9, defBody sI9, defScope sI9, [], []⟩
def dI10 : He.DefD := ⟨("NoWishes", some "__init__"), "__init__", "NoWishes.__init__", defArgs sI10, defBody sI10, defScope sI10, [], []⟩
def fn : List He.DefD := [dsWell, dsDraw, dsOne, dsErrors, dsKinds, dsLaw, dI0, dI1, dI2, dI3, dI4, dI5, dI6, dI7, dI8, dI9, dI10]
def fa : List He.Fa := [.glo "_law_well", .glo "_law_draw", .glo "_law_one", .glo "_law_errors", .glo "_law_kinds", .glo "law", .glo "NoLibrary", .glo "NoStore", .glo "NoName", .glo "Missing", .glo "NoSymbol", .glo "NoPreloads", .glo "NotLoaded", .glo "NotUsed", .glo "Unresolved", .glo "NoHandle", .glo "NoWishes", .glo "LoadError", .free "isinstance", .free "len", .free "int", .free "enumerate", .free "range", .free "bool", .free "list", .free "ValueError", .meth "NoLibrary" "__init__", .meth "NoStore" "__init__", .meth "NoName" "__init__", .meth "Missing" "__init__", .meth "NoSymbol" "__init__", .meth "NoPreloads" "__init__", .meth "NotLoaded" "__init__", .meth "NotUsed" "__init__", .meth "Unresolved" "__init__", .meth "NoHandle" "__init__", .meth "NoWishes" "__init__"]
def exB (K : PySem.W.Frag) : Bool :=
  (ens.all fun x => excB K (He.ga K x.1)) && ((ens.all fun x => decide (PySem.W.findIn K (.ref (He.ga K x.1)) x.2 = some none)) &&
  ((ens.zipIdx.all fun x => ens.zipIdx.all fun y => decide (PySem.W.kitOne K (.ref (He.ga K x.1.1)) (.ref (He.ga K y.1.1)) = some (decide (x.2 = y.2)))) &&
  ((ens.all fun x => decide (PySem.W.kitOne K (.ref (He.ga K x.1)) (.ref (He.ga K "LoadError")) = some true)) &&
   (ens.all fun x => decide (PySem.W.kitOne K (.ref (He.ga K x.1)) (.type "ValueError") = some true)))))
abbrev R : PySem.W.OpenRow := PySem.W.OpenLaw.row PySem.Challenge.rw_scopebind_k07_errors_by_hand
abbrev hk : PySem.W.Hook := hookB 5 fa fn exB
def ob (s : PySem.W.SharedT) : He.AlD × Bool := (He.obsDG 5 fa fn (HandSHeadRun.getT s), exB (He.frG (HandSHeadRun.getT s) (He.asD (HandSHeadRun.getT s) 5)))
theorem ob_eq (s : PySem.W.SharedT) : ob s = hk.obs s.abs := by
  have e : HandSHeadRun.getT s = s.abs.heap.get? := funext fun a => HandSHeadRun.getT_eq s a
  unfold ob
  rw [e]
  rfl
theorem run (w : World) : HandSHeadRun.RunEq R (PySem.W.view R.prog [20]) hk ob 4000 ["LoadError", "NoLibrary", "NoStore", "NoName", "Missing", "NoSymbol", "NoPreloads", "NotLoaded", "NotUsed", "Unresolved", "NoHandle", "NoWishes", "_law_cell_at", "_law_well", "_law_draw", "_law_one", "_law_errors", "_law_kinds"] w := by
  intro os
  kernel_rfl
end Sb


set_option Elab.async false
set_option linter.all false
set_option maxRecDepth 100000
set_option maxHeartbeats 0
namespace Sb
open PySem L2 PySem.Spec PyProof.Rows
theorem facts {P : Program} {w : World} {K : PySem.W.Frag} {h : Heap} {mg : Str → Option Value} {f : Addr} (X : K.In h) (G : h.Ns mainGlobals mg) (hfa : mg ("law" : Str) = some (.ref f)) (c : He.SaysD fa fn K) (ex : exB K = true) :
    ∃ fd : FuncData, (∀ (s : Shared) (v : Value), BindsTo s fd ⟨[v], []⟩ [("_law_script", v)]) ∧ ∀ base : Heap, K.In base → base.Ns mainGlobals mg → FnOk P w K mg base CX0 4 f fd ["_law_script"] (spLaw K) := by
  obtain ⟨fd0, E0⟩ := c.def_ 0 (d := dsWell) rfl
  obtain ⟨fd1, E1⟩ := c.def_ 1 (d := dsDraw) rfl
  obtain ⟨fd2, E2⟩ := c.def_ 2 (d := dsOne) rfl
  obtain ⟨fd3, E3⟩ := c.def_ 3 (d := dsErrors) rfl
  obtain ⟨fd4, E4⟩ := c.def_ 4 (d := dsKinds) rfl
  obtain ⟨fd5, E5⟩ := c.def_ 5 (d := dsLaw) rfl
  obtain ⟨fd6, E6⟩ := c.def_ 6 (d := dI0) rfl
  obtain ⟨fd7, E7⟩ := c.def_ 7 (d := dI1) rfl
  obtain ⟨fd8, E8⟩ := c.def_ 8 (d := dI2) rfl
  obtain ⟨fd9, E9⟩ := c.def_ 9 (d := dI3) rfl
  obtain ⟨fd10, E10⟩ := c.def_ 10 (d := dI4) rfl
  obtain ⟨fd11, E11⟩ := c.def_ 11 (d := dI5) rfl
  obtain ⟨fd12, E12⟩ := c.def_ 12 (d := dI6) rfl
  obtain ⟨fd13, E13⟩ := c.def_ 13 (d := dI7) rfl
  obtain ⟨fd14, E14⟩ := c.def_ 14 (d := dI8) rfl
  obtain ⟨fd15, E15⟩ := c.def_ 15 (d := dI9) rfl
  obtain ⟨fd16, E16⟩ := c.def_ 16 (d := dI10) rfl
  have e := hfa.symm.trans (He.glo_ok X G (c.fact 5 (f := .glo "law") rfl))
  cases e
  obtain ⟨x1, ex⟩ := and2 ex
  obtain ⟨x2, ex⟩ := and2 ex
  obtain ⟨x3, ex⟩ := and2 ex
  obtain ⟨x4, x5⟩ := and2 ex
  have T : Txt K mg := {
    exc := fun x hx => excB_ok (List.all_eq_true.mp x1 x hx)
    noat := fun x hx => of_decide_eq_true (List.all_eq_true.mp x2 x hx)
    gl := fun x hx => by
      simp only [ens, List.mem_cons, List.mem_nil_iff, or_false] at hx
      rcases hx with rfl | rfl | rfl | rfl | rfl | rfl | rfl | rfl | rfl | rfl | rfl
      · exact He.glo_ok X G (c.fact 6 (f := .glo "NoLibrary") rfl)
      · exact He.glo_ok X G (c.fact 7 (f := .glo "NoStore") rfl)
      · exact He.glo_ok X G (c.fact 8 (f := .glo "NoName") rfl)
      · exact He.glo_ok X G (c.fact 9 (f := .glo "Missing") rfl)
      · exact He.glo_ok X G (c.fact 10 (f := .glo "NoSymbol") rfl)
      · exact He.glo_ok X G (c.fact 11 (f := .glo "NoPreloads") rfl)
      · exact He.glo_ok X G (c.fact 12 (f := .glo "NotLoaded") rfl)
      · exact He.glo_ok X G (c.fact 13 (f := .glo "NotUsed") rfl)
      · exact He.glo_ok X G (c.fact 14 (f := .glo "Unresolved") rfl)
      · exact He.glo_ok X G (c.fact 15 (f := .glo "NoHandle") rfl)
      · exact He.glo_ok X G (c.fact 16 (f := .glo "NoWishes") rfl)
    ini := fun x hx => by
      simp only [ens, List.mem_cons, List.mem_nil_iff, or_false] at hx
      rcases hx with rfl | rfl | rfl | rfl | rfl | rfl | rfl | rfl | rfl | rfl | rfl
      · exact He.meth_ok (c.fact 26 (f := .meth "NoLibrary" "__init__") rfl)
      · exact He.meth_ok (c.fact 27 (f := .meth "NoStore" "__init__") rfl)
      · exact He.meth_ok (c.fact 28 (f := .meth "NoName" "__init__") rfl)
      · exact He.meth_ok (c.fact 29 (f := .meth "Missing" "__init__") rfl)
      · exact He.meth_ok (c.fact 30 (f := .meth "NoSymbol" "__init__") rfl)
      · exact He.meth_ok (c.fact 31 (f := .meth "NoPreloads" "__init__") rfl)
      · exact He.meth_ok (c.fact 32 (f := .meth "NotLoaded" "__init__") rfl)
      · exact He.meth_ok (c.fact 33 (f := .meth "NotUsed" "__init__") rfl)
      · exact He.meth_ok (c.fact 34 (f := .meth "Unresolved" "__init__") rfl)
      · exact He.meth_ok (c.fact 35 (f := .meth "NoHandle" "__init__") rfl)
      · exact He.meth_ok (c.fact 36 (f := .meth "NoWishes" "__init__") rfl)
    kit := fun i j x y hx hy => by
      have h1 : (x, i) ∈ ens.zipIdx := List.mem_zipIdx_iff_getElem?.mpr hx
      have h2 : (y, j) ∈ ens.zipIdx := List.mem_zipIdx_iff_getElem?.mpr hy
      exact of_decide_eq_true (List.all_eq_true.mp (List.all_eq_true.mp x3 _ h1) _ h2)
    kitL := fun x hx => of_decide_eq_true (List.all_eq_true.mp x4 x hx)
    kitV := fun x hx => of_decide_eq_true (List.all_eq_true.mp x5 x hx)
    glL := He.glo_ok X G (c.fact 17 (f := .glo "LoadError") rfl)
    isi := He.free_ok X G (c.fact 18 (f := .free "isinstance") rfl)
    len := He.free_ok X G (c.fact 19 (f := .free "len") rfl)
    int := He.free_ok X G (c.fact 20 (f := .free "int") rfl)
    enum := He.free_ok X G (c.fact 21 (f := .free "enumerate") rfl)
    range := He.free_ok X G (c.fact 22 (f := .free "range") rfl)
    bool := He.free_ok X G (c.fact 23 (f := .free "bool") rfl)
    list := He.free_ok X G (c.fact 24 (f := .free "list") rfl)
    val := He.free_ok X G (c.fact 25 (f := .free "ValueError") rfl)
  }
  have T2 : Txt2 mg _ _ _ _ := ⟨He.glo_ok X G (c.fact 0 (f := .glo "_law_well") rfl), He.glo_ok X G (c.fact 2 (f := .glo "_law_one") rfl), He.glo_ok X G (c.fact 3 (f := .glo "_law_errors") rfl), He.glo_ok X G (c.fact 4 (f := .glo "_law_kinds") rfl)⟩
  have b := FunD.bindsA (ps := ["_law_script"]) E5 fun _ _ _ _ _ _ us hl => match us, hl with | [_], _ => rfl
  refine ⟨fd5, fun s v => b s [v] rfl, fun base _ _ => ok_law E5 T (fun x hx => ?_) T2 E1 (He.glo_ok X G (c.fact 1 (f := .glo "_law_draw") rfl)) E0 E2 E3 E4⟩
  simp only [ens, List.mem_cons, List.mem_nil_iff, or_false] at hx
  rcases hx with rfl | rfl | rfl | rfl | rfl | rfl | rfl | rfl | rfl | rfl | rfl
  · exact ⟨_, ok_i0 E6, E6.bindsN fun _ _ _ _ _ _ us hl => match us, hl with | [_, _], _ => rfl⟩
  · exact ⟨_, ok_i1 E7, E7.bindsN fun _ _ _ _ _ _ us hl => match us, hl with | [_, _], _ => rfl⟩
  · exact ⟨_, ok_i2 E8, E8.bindsN fun _ _ _ _ _ _ us hl => match us, hl with | [_, _], _ => rfl⟩
  · exact ⟨_, ok_i3 E9, E9.bindsN fun _ _ _ _ _ _ us hl => match us, hl with | [_, _], _ => rfl⟩
  · exact ⟨_, ok_i4 E10, E10.bindsN fun _ _ _ _ _ _ us hl => match us, hl with | [_, _], _ => rfl⟩
  · exact ⟨_, ok_i5 E11, E11.bindsN fun _ _ _ _ _ _ us hl => match us, hl with | [_, _], _ => rfl⟩
  · exact ⟨_, ok_i6 E12, E12.bindsN fun _ _ _ _ _ _ us hl => match us, hl with | [_, _], _ => rfl⟩
  · exact ⟨_, ok_i7 E13, E13.bindsN fun _ _ _ _ _ _ us hl => match us, hl with | [_, _], _ => rfl⟩
  · exact ⟨_, ok_i8 E14, E14.bindsN fun _ _ _ _ _ _ us hl => match us, hl with | [_, _], _ => rfl⟩
  · exact ⟨_, ok_i9 E15, E15.bindsN fun _ _ _ _ _ _ us hl => match us, hl with | [_, _], _ => rfl⟩
  · exact ⟨_, ok_i10 E16, E16.bindsN fun _ _ _ _ _ _ us hl => match us, hl with | [_, _], _ => rfl⟩
end Sb
open PySem PySem.W PySem.Calls PyProof.Rows
theorem PySem.Challenge.cw_scopebind_k07_errors_by_hand_holds : PySem.Challenge.rw_scopebind_k07_errors_by_hand.Holds := by
  w_on; o_law
  refine HandSHeadRun.head_any (r := OpenLaw.row PySem.Challenge.rw_scopebind_k07_errors_by_hand) (q := view (OpenLaw.row PySem.Challenge.rw_scopebind_k07_errors_by_hand).prog [20]) (H := Sb.hk) (ob := Sb.ob) (M := 4000) (loose := ["LoadError", "NoLibrary", "NoStore", "NoName", "Missing", "NoSymbol", "NoPreloads", "NotLoaded", "NotUsed", "Unresolved", "NoHandle", "NoWishes", "_law_cell_at", "_law_well", "_law_draw", "_law_one", "_law_errors", "_law_kinds"]) (d := HandSHeadRun.topDef (OpenLaw.row PySem.Challenge.rw_scopebind_k07_errors_by_hand).prog 20) (kwd := []) Sb.ob_eq
    (by kernel_rfl) (fun s => by kernel_rfl) Sb.run (by kernel_rfl) (by kernel_rfl) (by kernel_rfl) (by rfl) (by first | assumption | decide +kernel) (by decide +kernel) ⟨rfl, rfl, rfl, rfl, rfl, by decide +kernel⟩ ?hw ?hc
  case hw => w_witness2
  case hc =>
    refine L2.walk_ofE (l := PySem.Challenge.rw_scopebind_k07_errors_by_hand) (n := 63) (k := 4) (x := "_law_script") (CX := L2.CX0) rfl (by decide) (by kernel_rfl) ⟨rfl, by decide, by decide⟩ ?F (fun _ _ _ _ z => z)
    intro w mg fa h Y G hmg0
    obtain ⟨K, KX, c, ex⟩ := Y
    have hmg : mg ("law" : PySem.Str) = some (.ref fa) := by
      have e : (HandSHeadRun.topDef (OpenLaw.row PySem.Challenge.rw_scopebind_k07_errors_by_hand).prog 20).name = ("law" : PySem.Str) := by kernel_rfl
      rw [← e]
      exact hmg0
    obtain ⟨fd, hb, hF⟩ := Sb.facts (P := (PySem.Challenge.rw_scopebind_k07_errors_by_hand).prog) (w := w) KX G hmg c ex
    exact ⟨K, fd, Sb.spLaw K, KX, hb, fun H a ns hl _ hS => ⟨a, ns, rfl, hS, hl, fun _ => rfl⟩, hF⟩

