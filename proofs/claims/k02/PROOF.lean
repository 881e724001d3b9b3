import PyProof.Rows.All
import Wide.All
import OpenK.AllK
import Wide.FinOn
import HandS.ForMost
import HandS.ForExc
import HandS.Defaults
import HandS.IsInst
import HandS.ExcInit
import HandS.ExcField
import HandS.DictComp
import HandS.Walk
import HandS.Style
import HandS.MakeKwOnly
import HandS.TryMany
import KE.KExcIs
import HandS.HeadHook2
import KE.DataFind
import KE.KRevSl
import HandS.OwnEq
import HandS.TupAny
import HandS.Exc
import HandS.ExcOwn
import HandS.CallSlots
import PyProof.StrBlock2
import PyProof.Rows.StrMul
import HandS.Evl
import KE.KStateDown
import Lean
import HandS.Head0
import HandS.Head1
import HandS.Head2
import HandS.HeadEnd
import HandS.HeadHook1
import PySem.Challenge.RW_scopebind_k02_invalid_libraries
set_option Elab.async false
set_option linter.all false
set_option maxRecDepth 100000
set_option maxHeartbeats 4000000
namespace Sb
open PySem L2
open PySem L2



/-- F grows -/
def Gr (F F' : Hp) : Prop := ∀ a o, F a = some o → F' a = some o
theorem Gr.refl (F : Hp) : Gr F F := fun _ _ h => h
theorem Gr.trans {A B C : Hp} (h : Gr A B) (g : Gr B C) : Gr A C := fun a o e => g a o (h a o e)
theorem Gr.new {F : Hp} {p : Addr} {o : HO} (h : F p = none) : Gr F (upd F p o) := fun a u e => by
  rw [upd_ne (ne_of_none e h)]
  exact e

structure Has (F : Hp) (p : Addr) (o : HO) : Prop where
  h : F p = some o
theorem Has.up {F F' : Hp} {p : Addr} {o : HO} (h : Has F p o) (g : Gr F F') : Has F' p o := ⟨g _ _ h.1⟩
structure Sta (F : Hp) (L : List (Addr × HO)) (H : Hp) : Prop where
  fr : Gr F H
  own : ∀ a o, (a, o) ∈ L → H a = some o ∧ F a = none
  nd : (L.map (·.1)).Nodup

section
variable {F : Hp} {L : List (Addr × HO)} {H : Hp} {a p : Addr} {o u : HO}
theorem Sta.f (s : Sta F L H) (h : F a = some o) : H a = some o := s.fr a o h
theorem Sta.l (s : Sta F L H) (h : (a, o) ∈ L) : H a = some o := (s.own a o h).1
theorem Sta.hd (s : Sta F ((a, o) :: L) H) : H a = some o := s.l (List.mem_cons_self ..)
theorem Sta.noF (s : Sta F L H) (h : H p = none) : F p = none := by
  cases e : F p with
  | none => rfl
  | some x => rw [s.fr p x e] at h; cases h
theorem Sta.noL (s : Sta F L H) (h : H p = none) : p ∉ L.map (·.1) := fun m => by
  obtain ⟨⟨b, x⟩, hm, e⟩ := List.mem_map.mp m
  have e' : b = p := e
  subst e'
  rw [s.l hm] at h
  cases h
/-- a new object, owned -/
theorem Sta.newL (s : Sta F L H) (h : H p = none) (o : HO) : Sta F ((p, o) :: L) (upd H p o) := by
  refine ⟨fun b x e => ?_, fun b x m => ?_, ?_⟩
  · rw [upd_ne (ne_of_none (s.fr b x e) h)]
    exact s.fr b x e
  · cases m with
    | head => exact ⟨upd_same, s.noF h⟩
    | tail _ m =>
      obtain ⟨e1, e2⟩ := s.own b x m
      exact ⟨by rw [upd_ne (ne_of_none e1 h)]; exact e1, e2⟩
  · show (p :: L.map (·.1)).Nodup
    exact List.nodup_cons.mpr ⟨s.noL h, s.nd⟩
/-- a new object that never changes -/
theorem Sta.newF (s : Sta F L H) (h : H p = none) (o : HO) : Sta (upd F p o) L (upd H p o) := by
  refine ⟨fun b x e => ?_, fun b x m => ?_, s.nd⟩
  · by_cases q : b = p
    · subst q
      rw [upd_same] at e ⊢
      exact e
    · rw [upd_ne q] at e ⊢
      exact s.fr b x e
  · obtain ⟨e1, e2⟩ := s.own b x m
    have q : b ≠ p := ne_of_none e1 h
    exact ⟨by rw [upd_ne q]; exact e1, by rw [upd_ne q]; exact e2⟩
/-- a new object, forgotten -/
theorem Sta.newX (s : Sta F L H) (h : H p = none) (o : HO) : Sta F L (upd H p o) := by
  refine ⟨fun b x e => ?_, fun b x m => ?_, s.nd⟩
  · rw [upd_ne (ne_of_none (s.fr b x e) h)]
    exact s.fr b x e
  · obtain ⟨e1, e2⟩ := s.own b x m
    exact ⟨by rw [upd_ne (ne_of_none e1 h)]; exact e1, e2⟩
/-- a new object that never changes, its state by a name -/
theorem Sta.mkF (s : Sta F L H) (h : H p = none) (o : HO) : ∃ F', Sta F' L (upd H p o) ∧ Gr F F' ∧ Has F' p o := ⟨_, s.newF h o, Gr.new (s.noF h), ⟨upd_same⟩⟩
theorem Sta.noHd (s : Sta F ((a, o) :: L) H) : a ∉ L.map (·.1) := (List.nodup_cons.mp (show (a :: L.map (·.1)).Nodup from s.nd)).1
theorem Sta.ndTl (s : Sta F ((a, o) :: L) H) : (L.map (·.1)).Nodup := (List.nodup_cons.mp (show (a :: L.map (·.1)).Nodup from s.nd)).2
/-- the first owned object changes -/
theorem Sta.set (s : Sta F ((a, o) :: L) H) (u : HO) : Sta F ((a, u) :: L) (upd H a u) := by
  have na := (s.own a o (List.mem_cons_self ..)).2
  refine ⟨fun b x e => ?_, fun b x m => ?_, s.nd⟩
  · rw [upd_ne (ne_of_none e na)]
    exact s.fr b x e
  · cases m with
    | head => exact ⟨upd_same, na⟩
    | tail _ m =>
      obtain ⟨e1, e2⟩ := s.own b x (List.mem_cons_of_mem _ m)
      have q : b ≠ a := fun z => s.noHd (List.mem_map.mpr ⟨(b, x), m, z⟩)
      exact ⟨by rw [upd_ne q]; exact e1, e2⟩
/-- the first owned object is let go: it never changes again | it is forgotten -/
theorem Sta.freeze (s : Sta F ((a, o) :: L) H) : Sta (upd F a o) L H := by
  refine ⟨fun b x e => ?_, fun b x m => ?_, s.ndTl⟩
  · by_cases q : b = a
    · subst q
      rw [upd_same] at e
      cases e
      exact s.hd
    · rw [upd_ne q] at e
      exact s.fr b x e
  · obtain ⟨e1, e2⟩ := s.own b x (List.mem_cons_of_mem _ m)
    have q : b ≠ a := fun z => s.noHd (List.mem_map.mpr ⟨(b, x), m, z⟩)
    exact ⟨e1, by rw [upd_ne q]; exact e2⟩
theorem Sta.hdF (s : Sta F ((a, o) :: L) H) : F a = none := (s.own a o (List.mem_cons_self ..)).2
theorem Sta.tl (s : Sta F ((a, o) :: L) H) : Sta F L H := ⟨s.fr, fun b x m => s.own b x (List.mem_cons_of_mem _ m), s.ndTl⟩
theorem Sta.perm {L' : List (Addr × HO)} (s : Sta F L H) (e : L'.Perm L) : Sta F L' H :=
  ⟨s.fr, fun b x m => s.own b x (e.mem_iff.mp m), (e.map _).nodup_iff.mpr s.nd⟩
theorem Sta.swap {x y : Addr × HO} (s : Sta F (x :: y :: L) H) : Sta F (y :: x :: L) H := s.perm (List.Perm.swap ..)
theorem Sta.sub {F' : Hp} (s : Sta F L H) (g : Gr F' F) : Sta F' L H := by
  refine ⟨g.trans s.fr, fun b x m => ?_, s.nd⟩
  obtain ⟨e1, e2⟩ := s.own b x m
  refine ⟨e1, ?_⟩
  cases q : F' b with
  | none => rfl
  | some z => rw [g b z q] at e2; cases e2
/-- an owned object changes, wherever it stands -/
theorem Sta.put {A B : List (Addr × HO)} (s : Sta F (A ++ (a, o) :: B) H) (u : HO) : Sta F (A ++ (a, u) :: B) (upd H a u) := by
  have e : ∀ x : Addr × HO, List.Perm (x :: (A ++ B)) (A ++ x :: B) := fun x => List.perm_middle.symm
  exact ((s.perm (e _)).set u).perm (e _).symm
theorem Sta.ne (s : Sta F ((a, o) :: L) H) (h : F p = some u) : p ≠ a := ne_of_none h s.hdF
end
/-- a list | a tuple, to be read -/
theorem sq {K : PySem.W.Frag} {H : Hp} {p : Addr} {xs : List V} (h : H p = some (.lst xs)) : SqL K H p xs := .inl (.inl h)
theorem st {K : PySem.W.Frag} {H : Hp} {p : Addr} {xs : List V} (h : H p = some (.tup xs)) : SqT K H p xs := .inl (.inl h)
theorem sz {n : Nat} (h : n ≤ 100000) : n ≤ sizeLine := Nat.le_trans h (by decide)
theorem szl {n : Nat} (h : n < 100000) : n < sizeLine := Nat.lt_of_lt_of_le h (by decide)

end Sb
namespace Sb
open PySem L2

open PySem L2 PySem.Spec PyProof.Rows

/-- what the top says of an own error class at C -/
def excB (K : PySem.W.Frag) (C : Addr) : Bool :=
  (match K.lookup C with
    | some ⟨.type t, _, .cls cd, sl⟩ => decide (t = "type") && (match cd.mro, sl.toList with
      | .ref C' :: bm, [k0, k1, k2, k3, some (.builtin n), k5] => decide (C' = C) && decide (n = "ValueError.__new__") && cd.hasDict && !cd.hasDel && PySem.HandSPX.refsVE bm
      | _, _ => false)
    | _ => false) &&
  (decide (PySem.W.findIn K (.ref C) "__setattr__" = some (some (.builtin "object.__setattr__"))) &&
  (decide (PySem.W.subIn K (.ref C) (.type "BaseException") = some true) &&
  (decide (PySem.W.typeIn K (.ref C) = some (.type "type")) &&
  (PySem.W.keepIn K (.ref C) &&
  (xfB K C &&
  (decide (PySem.W.findIn K (.ref C) "__class__" = some (some (.builtin "object.__class__"))) &&
  (decide (PySem.W.specialIn K (.builtin "object.__class__") "__get__" = some (some (.builtin "getset_descriptor.__get__"))) &&
  (decide (PySem.W.takesIn K (.builtin "object.__class__") = some true) &&
   decide (PySem.W.mroIn K C (.type "object") = some true)))))))))
structure ExcK (K : PySem.W.Frag) (C : Addr) : Prop where
  ox : OexC K C
  xf : XfC K C
  ha : PySem.W.findIn K (.ref C) "__class__" = some (some (.builtin "object.__class__"))
  hn : PySem.W.specialIn K (.builtin "object.__class__") "__get__" = some (some (.builtin "getset_descriptor.__get__"))
  ht : PySem.W.takesIn K (.builtin "object.__class__") = some true
  hm : PySem.W.mroIn K C (.type "object") = some true
theorem and2 {a b : Bool} (h : (a && b) = true) : a = true ∧ b = true := Bool.and_eq_true_iff.mp h
theorem excB_ok {K : PySem.W.Frag} {C : Addr} (h : excB K C = true) : ExcK K C := by
  obtain ⟨h0, h⟩ := and2 h
  obtain ⟨h1, h⟩ := and2 h
  obtain ⟨h2, h⟩ := and2 h
  obtain ⟨h3, h⟩ := and2 h
  obtain ⟨h4, h⟩ := and2 h
  obtain ⟨h5, h⟩ := and2 h
  obtain ⟨h6, h⟩ := and2 h
  obtain ⟨h7, h⟩ := and2 h
  obtain ⟨h8, h9⟩ := and2 h
  refine ⟨⟨?_, of_decide_eq_true h1, of_decide_eq_true h2, of_decide_eq_true h3, h4⟩, xfB_ok h5, of_decide_eq_true h6, of_decide_eq_true h7, of_decide_eq_true h8, of_decide_eq_true h9⟩
  split at h0
  · rename_i t dd cd sl hl
    obtain ⟨ht, h0⟩ := and2 h0
    split at h0
    · rename_i C' bm k0 k1 k2 k3 n k5 hm hs
      obtain ⟨h0, hv⟩ := and2 h0
      obtain ⟨h0, hd⟩ := and2 h0
      obtain ⟨h0, hx⟩ := and2 h0
      obtain ⟨hc, hn⟩ := and2 h0
      have e1 := of_decide_eq_true ht
      have e2 := of_decide_eq_true hc
      have e3 := of_decide_eq_true hn
      subst e1 e2 e3
      obtain ⟨nm, bs, mro, ns, q, hdct, sn, sub, ab, col, del⟩ := cd
      dsimp only at hm hx hd
      subst hm hx
      have e4 : del = false := by cases del with
        | true => cases hd
        | false => rfl
      subst e4
      have e5 : sl = #[k0, k1, k2, k3, some (.builtin "ValueError.__new__"), k5] := Array.toList_inj.mp hs
      subst e5
      exact ⟨_, _, _, _, _, _, _, _, _, _, _, _, _, _, _, hl, hv⟩
    · cases h0
  · cases h0

/-- the error of the class at C with the field f = v, as a value: at a, its dict at d -/
def Err (H : Hp) (a C d : Addr) (f : Str) (v : V) : Prop := H a = some (exo a C (some d)) ∧ H d = some (exd d [(f, v)])

section
variable {X : Cx} {o e : Expr} {es : List Expr} {to te : TE} {ta : TA} {f : Str} {p p' p1 p2 pos : Pos}
/-- C(e, ..) as a value, C's own __init__ keeping sp -/
def tMkV (C : Addr) (sp : Sp) (dvs : List V) (E : XK) (ta : TA) : TE := fun σ H Q => ta σ H fun vs H1 => vs.length ≤ 1000 ∧ ∀ a, H1 a = none → sp (.ref a :: (vs ++ dvs)) (upd H1 a (exo a C none)) (fun v H2 => v = .non ∧ Q (.ref a) H2) E
theorem pe_mkV {CX : CXT} {x : Str} {C fI : Addr} {k : Nat} {fd : FuncData} {ps : List Str} {sp : Sp} {ds : List Value} {dvs : List V} {E : XK} (T : OexC X.K C) (iC : PySem.W.findIn X.K (.ref C) "__init__" = some (some (.ref fI))) (tI : PySem.W.typeIn X.K (.ref fI) = some (.type "function"))
    (F1 : FnOk X.prog X.w X.K X.mg X.base CX k fI fd ps sp) (hr : Room (k + 1) X.A) (hb : Binds X.K fd ps ds) (hd : Vals dvs ds) (hx : Passes CX X E) (hg : Gl X x) (hm : X.mg x = some (.ref C)) (ha : PA X (e :: es) ta)
    (hdb : (x == ("__debug__" : Str)) = false := by decide) (he : starEach (e :: es) X.env = (false, eval e X.env) :: starEach es X.env := by rfl) (hpl : (backTo pos (starEach es X.env)).any (·.1) = false := by rfl) :
    PE X (.Call (.Name x p) (e :: es) [] pos) (tMkV C sp dvs E ta) := by
  refine ⟨fun pins s σ H Q I h => ?_⟩
  obtain ⟨nm, q, N, bs, bm, sn, sub, ab, col, dd, k0, k1, k2, k3, k5, hC, hbm⟩ := T.cls
  refine wpAny_Call_Name_kw (ld_glob I hg hm ?_ hdb)
  refine PySem.W.callWith_K (h₀ := X.base) I.ok.mod.kin T.kC (thn (ha.run pos pins s σ H _ I h) fun us s1 ⟨vs, H1, I1, r1, hz, q1⟩ => ⟨I1.kIn, ?_⟩) he hpl
  show wpAny _ _ (call (.ref C) us) _ _ _
  obtain ⟨hp, g, dr, tk, os⟩ := s1
  have hsz : hp.objs.size ≤ hp.objs.size + 1 := Nat.le_succ _
  have hn : H1 (hp.objs.size + 1) = none := I1.hok.fresh hsz
  have hq := q1 (hp.objs.size + 1) hn
  have kk : ∀ b o, hp.get? b = some o → ((hp.push (PySem.W.kdv_tup us)).push (PySem.HandSPX.excO C hp.objs.size)).get? b = some o := fun b o e => Heap.get?_push_of_some _ (Heap.get?_push_of_some _ e)
  have hget : ((hp.push (PySem.W.kdv_tup us)).push (PySem.HandSPX.excO C hp.objs.size)).get? (hp.objs.size + 1) = some (PySem.HandSPX.excO C hp.objs.size) := by heap_get
  have I2 : Inv X pins σ (upd H1 (hp.objs.size + 1) (exo (hp.objs.size + 1) C none)) ⟨(hp.push (PySem.W.kdv_tup us)).push (PySem.HandSPX.excO C hp.objs.size), g, dr, tk, os⟩ :=
    I1.laid (t' := tk) (a := hp.objs.size + 1) (o := exo (hp.objs.size + 1) C none) (h' := (hp.push (PySem.W.kdv_tup us)).push (PySem.HandSPX.excO C hp.objs.size)) kk hsz (exo_ok hget)
  have r2 : Vals (V.ref (hp.objs.size + 1) :: (vs ++ dvs)) (Value.ref (hp.objs.size + 1) :: (us ++ ds)) := .cons rfl (r1.append hd)
  have hl : (Value.ref (hp.objs.size + 1) :: us ++ ds).length = ps.length := by
    have e := r2.length
    rw [F1.len _ _ _ _ hq] at e
    exact e.symm
  have hus : us.length ≤ sizeLine := by
    rw [← Paired.length r1, sizeLine_eq]
    omega
  refine wpAny_call (PySem.HandSPX.call_own F.excBase_ValueError (fun Y => PySem.HandSPX.refsVE_contains Y bm hbm) (I1.kIn _ _ hC) (PySem.W.looks_findIn I1.kIn iC) (fun self => PySem.W.bind_fn I1.kIn self tI) hus
    (codeAny_mono (F1.run _ X.stack _ _ ⟨Value.ref (hp.objs.size + 1) :: us, []⟩ (Value.ref (hp.objs.size + 1) :: (us ++ ds)) _ _ E (hr.make C us []) (I2.env0.make C us []) (hb _ (Value.ref (hp.objs.size + 1) :: us) I2.kIn hl) r2 hq) fun r s' hq' => ?_))
  cases r with
  | error er => exact hx pins σ _ _ er s' I2 hq'
  | ok fl =>
    cases fl with
    | ret u =>
      obtain ⟨v, H2, J, rv, ev, q2⟩ := (I2.after hq' : EP X pins σ _ u s')
      subst ev
      obtain rfl : u = Value.none := rv
      exact ⟨rfl, .ref (hp.objs.size + 1), H2, J, rfl, q2⟩
    | next => exact False.elim hq'
    | brk => exact False.elim hq'
    | cont => exact False.elim hq'
/-- e.f, e an error that is a value -/
def tErF (K : PySem.W.Frag) (f : Str) (te : TE) : TE := fun σ H Q => te σ H fun x H1 => ∃ (a C d : Addr) (v : V), x = .ref a ∧ Err H1 a C d f v ∧ XfC K C ∧ PySem.W.findIn K (.ref C) f = some none ∧ Q v H1
theorem pe_erF (he : PE X e te) (hb : attributeBase e f X.env (eval e X.env) = eval e X.env := by rfl) : PE X (.Attribute e f pos) (tErF X.K f te) := by
  refine ⟨fun pins s σ H Q I h => ?_⟩
  refine attr_of hb (thn (he.run pins s σ H _ I h) fun u s1 hh => ?_)
  obtain ⟨x, H1, I1, rx, a, C, d, v, ex, ⟨ea, ed⟩, T, hno, q⟩ := hh
  subst ex
  obtain rfl : u = Value.ref a := rx
  obtain ⟨t1, ha⟩ := exo_at I1.hok ea
  obtain ⟨mA, hns, hr⟩ := exd_at I1.hok ed
  obtain ⟨od, ho, hl⟩ := lookIn_ns hns
  have l : List.lookup f [(f, v)] = some v := by simp [List.lookup]
  obtain ⟨u, hu, ru⟩ := RelO.some_of (v := v) (o := mA f) (by rw [← l]; exact hr f)
  have J : PySem.W.InstAt s1.heap a _ C (some od) := ⟨ha, rfl, rfl, ho⟩
  exact HandSPX.exc_get I1.kIn J T.ga T.gg T.exC (PySem.W.findObj_own T.hdC hno rfl (by rw [hl, hu])) (handed_of ru) ⟨v, H1, I1.tok _, ru, q⟩
/-- isinstance(e, c), e an error that is a value -/
def rIsV (K : PySem.W.Frag) : List V → Hp → VK → Prop := fun xs H Q => ∃ (a C d : Addr) (f : Str) (y c : V) (u : Value) (b : Bool), xs = [.ref a, c] ∧ ClsV c u ∧ Err H a C d f y ∧ ExcK K C ∧ PySem.W.kitOne K (.ref C) u = some b ∧ Q (.bl b) H
theorem call_isV : CallR X (.builtin "isinstance") (rIsV X.K) := by
  intro pins s σ H xs us Q I r h
  obtain ⟨a, C, d, f, y, c, u, b, rfl, k, ⟨ea, ed⟩, T, e, q⟩ := h
  obtain ⟨u1, u2, rfl, r1, r2⟩ := vals2 r
  have e2 := k.eq r2
  subst e2
  obtain rfl : u1 = Value.ref a := r1
  obtain ⟨t1, ha⟩ := exo_at I.hok ea
  obtain ⟨mA, hns, hr⟩ := exd_at I.hok ed
  obtain ⟨od, ho, hl⟩ := lookIn_ns hns
  have J : PySem.W.InstAt s.heap a _ C (some od) := ⟨ha, rfl, rfl, ho⟩
  have hc : (PySem.W.clsIn X.K C).isSome = true := by
    have h0 := T.xf.hdC
    unfold PySem.W.hasDictIn at h0
    cases q : PySem.W.clsIn X.K C with
    | none => rw [q] at h0; cases h0
    | some _ => rfl
  exact PySem.W.kia_one (PySem.W.kitx_exc (ox := { cls := .ref C, dict := some d, data := .fields #[.ref t1, .none, .none, .none, .bool false, .none] }) (od := some od) hc T.xf.ga T.xf.gg T.xf.exC T.ha T.hn T.ht T.hm) I.kIn J e (fun z => nomatch z) fun tk => ⟨.bl b, H, I.tok tk, rfl, q⟩
end

/-! the head's further facts -/
def hookB (n : Nat) (fa : List He.Fa) (fn : List He.DefD) (ex : PySem.W.Frag → Bool) : PySem.W.Hook where
  α := He.AlD × Bool
  obs := fun s => (He.obsDG n fa fn s.heap.get?, ex (He.frG s.heap.get? (He.asD s.heap.get? n)))
  val := fun _ => (He.valD fn, true)
  says := fun _ h => ∃ K : PySem.W.Frag, K.In h ∧ He.SaysD fa fn K ∧ ex K = true
  of := fun _ _ e => ⟨_, He.frG_in, congrArg Prod.fst e, congrArg Prod.snd e⟩
  keeps := fun _ _ _ ⟨K, hK, c⟩ k => ⟨K, PySem.W.Frag.In.keeps hK k, c⟩
/-- what isinstance asks of an own class -/
structure OwnK (K : PySem.W.Frag) (C : Addr) : Prop where
  ha : PySem.W.findIn K (.ref C) "__class__" = some (some (.builtin "object.__class__"))
  hn : PySem.W.specialIn K (.builtin "object.__class__") "__get__" = some (some (.builtin "getset_descriptor.__get__"))
  ht : PySem.W.takesIn K (.builtin "object.__class__") = some true
  hm : PySem.W.mroIn K C (.type "object") = some true
  kt : ∀ t ∈ ["NoneType", "int", "str", "bool", "list", "tuple", "dict"], PySem.W.kitOne K (.type t) (.ref C) = some false
  kc : ∀ t ∈ ["NoneType", "int", "str", "bool", "list", "tuple", "dict"], PySem.W.kitOne K (.ref C) (.type t) = some false
def ownB (K : PySem.W.Frag) (C : Addr) : Bool :=
  decide (PySem.W.findIn K (.ref C) "__class__" = some (some (.builtin "object.__class__"))) &&
  (decide (PySem.W.specialIn K (.builtin "object.__class__") "__get__" = some (some (.builtin "getset_descriptor.__get__"))) &&
  (decide (PySem.W.takesIn K (.builtin "object.__class__") = some true) &&
  (decide (PySem.W.mroIn K C (.type "object") = some true) &&
  ((["NoneType", "int", "str", "bool", "list", "tuple", "dict"].all fun t => decide (PySem.W.kitOne K (.type t) (.ref C) = some false)) &&
   (["NoneType", "int", "str", "bool", "list", "tuple", "dict"].all fun t => decide (PySem.W.kitOne K (.ref C) (.type t) = some false))))))
theorem ownB_ok {K : PySem.W.Frag} {C : Addr} (h : ownB K C = true) : OwnK K C := by
  obtain ⟨h1, h⟩ := and2 h
  obtain ⟨h2, h⟩ := and2 h
  obtain ⟨h3, h⟩ := and2 h
  obtain ⟨h4, h⟩ := and2 h
  obtain ⟨h5, h6⟩ := and2 h
  exact ⟨of_decide_eq_true h1, of_decide_eq_true h2, of_decide_eq_true h3, of_decide_eq_true h4, fun t ht => of_decide_eq_true (List.all_eq_true.mp h5 t ht), fun t ht => of_decide_eq_true (List.all_eq_true.mp h6 t ht)⟩
/-- the object that a keyword-only default of a def is -/
def kwAt (f : Str × Option Str) (x : Str) (K : PySem.W.Frag) : Addr := match K.lookup (He.fAd K f) with
  | some ⟨_, _, .func fd, _⟩ => (match fd.kwdefaults with
    | .ref D => (match PySem.W.nsIn K D x with
      | some (some (.ref a)) => a
      | _ => 0)
    | _ => 0)
  | _ => 0
/-- an empty tuple of the top's -/
def emptyB (K : PySem.W.Frag) (a : Addr) : Bool := match K.lookup a with
  | some ⟨.type c, none, .seq its _, _⟩ => decide (c = "tuple") && its.isEmpty
  | _ => false
theorem emptyB_ok {K : PySem.W.Frag} {a : Addr} (h : emptyB K a = true) (H : Hp) : SqT K H a [] := by
  unfold emptyB at h
  split at h
  · rename_i c its n sl hl
    obtain ⟨h1, h2⟩ := and2 h
    have e1 := of_decide_eq_true h1
    have e2 := Array.isEmpty_iff.mp h2
    subst e1 e2
    exact .inr ⟨_, #[], n, hl, rfl, rfl, Nat.zero_le _, .nil⟩
  · cases h
/-! sundries -/
/-- either of two rules for an operator -/
theorem op_or {X : Cx} {f : Value → Value → Sem Value} {r1 r2 : R2} (h1 : OpR X f r1) (h2 : OpR X f r2) : OpR X f (fun x y H Q => r1 x y H Q ∨ r2 x y H Q) := by
  intro pins s σ H x y v u Q I rx ry h
  rcases h with h | h
  · exact h1 pins s σ H x y v u Q I rx ry h
  · exact h2 pins s σ H x y v u Q I rx ry h
theorem atI_in {xs : List V} {d : Int} (h0 : 0 ≤ d) (h1 : d < xs.length) : ∃ x, x ∈ xs ∧ atI xs d = some x := by
  have hlt : d.toNat < xs.length := by omega
  have e : ((d.toNat : Nat) : Int) = d := by omega
  refine ⟨xs[d.toNat], List.getElem_mem _, ?_⟩
  have q : atI xs ((d.toNat : Nat) : Int) = some xs[d.toNat] := atI_nat (by simp [hlt])
  rw [e] at q
  exact q
theorem sta0 (H : Hp) : Sta (fun _ => none) [] H := ⟨(fun _ _ h => by cases h), (fun _ _ h => by cases h), List.nodup_nil⟩
theorem cut_le (xs : List V) (lo hi : Option Int) : (cutV xs lo hi).length ≤ xs.length := by
  unfold cutV
  rw [List.length_take, List.length_drop]
  omega
theorem cut_mem {xs : List V} {lo hi : Option Int} {x : V} (h : x ∈ cutV xs lo hi) : x ∈ xs := List.mem_of_mem_drop (List.mem_of_mem_take h)
theorem lay_list : ∀ {ds : List PyData}, (∀ d ∈ ds, PyData.canLay0 d = true ∧ PyData.depth d = 0) → PyData.canLayAll0 ds = true ∧ PyData.depthAll ds = 0
  | [], _ => ⟨by simp [PyData.canLayAll0], by simp [PyData.depthAll]⟩
  | d :: ds, h => by
    obtain ⟨h1, h2⟩ := h d (List.mem_cons_self ..)
    obtain ⟨h3, h4⟩ := lay_list fun z hz => h z (List.mem_cons_of_mem _ hz)
    exact ⟨by simp [PyData.canLayAll0, h1, h3], by simp [PyData.depthAll, h2, h4]⟩
theorem shaped_list {ds : List PyData} (h : ∀ d ∈ ds, PyData.canLay0 d = true ∧ PyData.depth d = 0) : SeqAt.shaped (.list ds) = true := by
  obtain ⟨h1, h2⟩ := lay_list h
  unfold SeqAt.shaped
  simp [PyData.canLay0, PyData.depth, h1, h2]
/-- x != x is False, whatever is drawn -/
def SameV (K : PySem.W.Frag) (H : Hp) (x : V) : Prop := ∃ d, Dp K H x d ∧ SeqAt.shaped d = true
def OwnD (H : Hp) (x : V) : Prop := ∃ a, x = .ref a ∧ H a = some (.dK [])
theorem same_ne {K : PySem.W.Frag} {H : Hp} {x : V} {Q : VK} (h : SameV K H x) (k : Q (.bl false) H) : rNeD K x x H Q := by
  obtain ⟨d, h1, h2⟩ := h
  refine ⟨d, d, h1, h1, h2, h2, ?_⟩
  have e : PyData.eqv d d = true := SeqAt.eqv_refl d (SeqAt.canLay_of_shaped h2)
  rw [e]
  exact k
theorem dict_ne {H : Hp} {x : V} {Q : VK} (h : OwnD H x) (k : Q (.bl false) H) : rNeDA x x H Q := by
  obtain ⟨a, rfl, h⟩ := h
  exact ⟨a, a, [], [], rfl, rfl, h, h, rfl, (fun p hp => by cases hp), k⟩
/-- bools, one by one -/
theorem dp_bools {K : PySem.W.Frag} {H : Hp} : ∀ (bs : List Bool), DpAll K H (bs.map V.bl) (bs.map PyData.bool)
  | [] => .nil
  | b :: bs => .cons (.bl b) (dp_bools bs)
theorem lay_bools (bs : List Bool) : ∀ d ∈ bs.map PyData.bool, PyData.canLay0 d = true ∧ PyData.depth d = 0 := by
  intro d hd
  obtain ⟨y, hy, rfl⟩ := List.mem_map.mp hd
  exact ⟨rfl, rfl⟩


/-- a well: three whole numbers; drawn from at most n times -/
def Well (n : Nat) (o : HO) : Prop := ∃ a b c : Int, o = .lst [.int a, .int b, .int c] ∧ 0 ≤ b ∧ b < 2147483647 ∧ 0 ≤ c ∧ c ≤ n
theorem fmodP {x m : Int} (h : 0 < m) : 0 ≤ x.fmod m ∧ x.fmod m < m := ⟨Int.fmod_nonneg_of_pos x h, Int.fmod_lt_of_pos x h⟩
theorem Well.mono {n m : Nat} {o : HO} (h : Well n o) (e : n ≤ m) : Well m o := by
  obtain ⟨a, b, c, h0, h1, h2, h3, h4⟩ := h
  exact ⟨a, b, c, h0, h1, h2, h3, by omega⟩
/-- to be read, whatever the heap grows to -/
theorem Gr.sqL {K : PySem.W.Frag} {F F' : Hp} {a : Addr} {xs : List V} (g : Gr F F') (h : SqL K F a xs) : SqL K F' a xs := by
  rcases h with (h | ⟨o, h⟩) | h
  · exact .inl (.inl (g _ _ h))
  · exact .inl (.inr ⟨o, g _ _ h⟩)
  · exact .inr h
theorem Gr.sqT {K : PySem.W.Frag} {F F' : Hp} {a : Addr} {xs : List V} (g : Gr F F') (h : SqT K F a xs) : SqT K F' a xs := by
  rcases h with (h | ⟨o, h⟩) | h
  · exact .inl (.inl (g _ _ h))
  · exact .inl (.inr ⟨o, g _ _ h⟩)
  · exact .inr h
theorem Sta.sqL {K : PySem.W.Frag} {F H : Hp} {L : List (Addr × HO)} {a : Addr} {xs : List V} (S : Sta F L H) (h : SqL K F a xs) : SqL K H a xs := Gr.sqL S.fr h
theorem Sta.sqT {K : PySem.W.Frag} {F H : Hp} {L : List (Addr × HO)} {a : Addr} {xs : List V} (S : Sta F L H) (h : SqT K F a xs) : SqT K H a xs := Gr.sqT S.fr h
theorem Has.sqT {K : PySem.W.Frag} {F : Hp} {a : Addr} {xs : List V} (h : Has F a (.tup xs)) : SqT K F a xs := .inl (.inl h.1)
theorem Has.sqL {K : PySem.W.Frag} {F : Hp} {a : Addr} {xs : List V} (h : Has F a (.lst xs)) : SqL K F a xs := .inl (.inl h.1)
/-- a tuple's type -/
theorem ty_tup {K : PySem.W.Frag} {H : Hp} {a : Addr} {xs : List V} (h : SqT K H a xs) : TyX K H (.ref a) (.type "tuple") := by
  rcases h with (h | ⟨o, h⟩) | ⟨o, its, n, h1, h2, _⟩
  · exact .base (.tup h)
  · exact .fTuple h
  · exact .kTuple h1 h2
theorem Gr.tyX {K : PySem.W.Frag} {F F' : Hp} {x : V} {t : Value} (g : Gr F F') (h : TyX K F x t) : TyX K F' x t := by
  cases h with
  | base b =>
    cases b with
    | non => exact .base .non
    | bl y => exact .base (.bl y)
    | int i => exact .base (.int i)
    | str y => exact .base (.str y)
    | flt y => exact .base (.flt y)
    | lst e => exact .base (.lst (g _ _ e))
    | frz e => exact .base (.frz (g _ _ e))
    | tup e => exact .base (.tup (g _ _ e))
    | dK e => exact .base (.dK (g _ _ e))
    | dT e => exact .base (.dT (g _ _ e))
    | ins e cl ha hn htk hm => exact .base (.ins (g _ _ e) cl ha hn htk hm)
  | byt y => exact .byt y
  | set e => exact .set (g _ _ e)
  | kList e c => exact .kList e c
  | kTuple e c => exact .kTuple e c
  | kDict e c => exact .kDict e c
  | fTuple e => exact .fTuple (g _ _ e)
  | fDict e => exact .fDict (g _ _ e)
end Sb


set_option Elab.async false
set_option linter.all false
set_option maxRecDepth 100000
set_option maxHeartbeats 4000000
namespace Sb
open PySem L2 PySem.Spec PyProof.Rows
/-! ### plain tuples: the very object is known, it has no dict -/
def PT (K : PySem.W.Frag) (H : Hp) (a : Addr) (xs : List V) : Prop :=
  (∃ o, H a = some (.frz o (.tup xs)) ∧ o.cls = .type "tuple" ∧ o.dict = none) ∨
  (∃ (o : Obj) (its : Array Value) (n : Nat), K.lookup a = some o ∧ o.cls = .type "tuple" ∧ o.dict = none ∧ o.data = .seq its n ∧ its.size ≤ sizeLine ∧ Vals xs its.toList)
theorem PT.sqT {K : PySem.W.Frag} {H : Hp} {a : Addr} {xs : List V} (h : PT K H a xs) : SqT K H a xs := by
  rcases h with ⟨o, h, _⟩ | ⟨o, its, n, h1, h2, _, h3, h4, h5⟩
  · exact .inl (.inr ⟨o, h⟩)
  · exact .inr ⟨o, its, n, h1, h2, h3, h4, h5⟩
theorem PT.up {K : PySem.W.Frag} {F F' : Hp} {a : Addr} {xs : List V} (h : PT K F a xs) (g : Gr F F') : PT K F' a xs := by
  rcases h with ⟨o, h, r⟩ | h
  · exact .inl ⟨o, g _ _ h, r⟩
  · exact .inr h
theorem PT.at {K : PySem.W.Frag} {F H : Hp} {L : List (Addr × HO)} {a : Addr} {xs : List V} (h : PT K F a xs) (S : Sta F L H) : PT K H a xs := h.up S.fr
theorem emptyB_pt {K : PySem.W.Frag} {a : Addr} (h : emptyB K a = true) (H : Hp) : PT K H a [] := by
  unfold emptyB at h
  split at h
  · rename_i c its n sl hl
    obtain ⟨h1, h2⟩ := and2 h
    have e1 := of_decide_eq_true h1
    have e2 := Array.isEmpty_iff.mp h2
    subst e1 e2
    exact .inr ⟨_, #[], n, hl, rfl, rfl, rfl, Nat.zero_le _, .nil⟩
  · cases h
theorem Sta.mkT {K : PySem.W.Frag} {F H : Hp} {L : List (Addr × HO)} {p : Addr} {o : Obj} {xs : List V} (s : Sta F L H) (h : H p = none) (hc : o.cls = .type "tuple") (hd : o.dict = none) :
    ∃ F', Sta F' L (upd H p (.frz o (.tup xs))) ∧ Gr F F' ∧ PT K F' p xs := ⟨_, s.newF h _, Gr.new (s.noF h), .inl ⟨o, upd_same, hc, hd⟩⟩
/-- what follows a new plain tuple -/
def NewT (xs : List V) (H : Hp) (Q : VK) : Prop := ∀ (p : Addr) (o : Obj), o.cls = .type "tuple" → o.dict = none → H p = none → Q (.ref p) (upd H p (.frz o (.tup xs)))
section
variable {X : Cx} {pins : List (Addr × Obj)} {σ : L2.St} {H : Hp} {s : Shared}
theorem newT_run {h' : Heap} {tk : Nat} {its : List Value} {xs : List V} {Q : VK} (I : Inv X pins σ H { s with heap := h', toks := tk }) (r : Vals xs its) (hz : xs.length ≤ sizeLine) (q : NewT xs H Q) :
    EP X pins σ Q (.ref h'.objs.size) { s with heap := h'.push { cls := .type "tuple", data := .seq its.toArray }, toks := tk } := by
  have hp : H h'.objs.size = none := I.hok.fresh (Nat.le_refl _)
  have hg := Heap.get?_push_size h' (o := ({ cls := .type "tuple", data := .seq its.toArray } : Obj)) rfl
  exact ⟨.ref h'.objs.size, _, I.laid (t' := tk) (o := .frz { cls := .type "tuple", data := .seq its.toArray } (.tup xs)) (fun b u e => Heap.get?_push_of_some _ e) (Nat.le_refl _)
    ⟨hg, hz, its, r, ⟨_, hg, rfl, _, rfl⟩⟩, rfl, q _ _ rfl rfl hp⟩
/-- (a, b, ..) -/
def tTupZ (t : TA) : TE := fun σ H Q => t σ H fun xs H1 => xs.length ≤ sizeLine ∧ NewT xs H1 Q
theorem pe_tupZ {es : List Expr} {t : TA} {pos : Pos} {x1} (h : PA X es t) : PE X (.Tuple es x1 pos) (tTupZ t) := by
  refine ⟨fun pins s σ H Q I hq => ?_⟩
  refine wpAny_Tuple_spliced (thn (h.run pos pins s σ H _ I hq) fun us s1 ⟨xs, H1, I1, r, z, q⟩ => ⟨by rw [← r.length]; exact z, ?_⟩)
  exact newT_run (s := s1) I1 r z q
/-- tuple(a list) -/
theorem call_tupZ : CallR X (.type "tuple") (fun xs H Q => ∃ p ys, xs = [.ref p] ∧ SqL X.K H p ys ∧ NewT ys H Q) := by
  intro pins s σ H xs us Q I r h
  obtain ⟨p, ys, rfl, hq, q⟩ := h
  obtain ⟨u, rfl, rx⟩ := vals1 r
  cases rx
  obtain ⟨its, r', pl, hz⟩ := I.list hq
  have hlen := r'.length
  refine call_tuple_list pl.isList (fun h' kp => ?_) (by simp only [List.size_toArray] <;> omega)
  exact newT_run (s := s) (I.kept (t' := s.toks) kp) r' hz q
/-- t + u, neither empty (u empty: t itself) -/
def rCatZ (K : PySem.W.Frag) : R2 := fun x y H Q => ∃ a b xs ys, x = .ref a ∧ y = .ref b ∧ SqT K H a xs ∧ SqT K H b ys ∧ xs ≠ [] ∧ ys ≠ [] ∧ xs.length + ys.length ≤ sizeLine ∧ NewT (xs ++ ys) H Q
theorem op_catZ : OpR X (binaryOp .Add) (rCatZ X.K) := by
  intro pins s σ H x y v u Q I rx ry h
  obtain ⟨a, b, xs, ys, rfl, rfl, ha, hb, hx, hy, hz, q⟩ := h
  cases rx
  cases ry
  obtain ⟨its, r1, p1, _⟩ := I.tuple ha
  obtain ⟨its2, r2, p2, _⟩ := I.tuple hb
  refine HT.cat_tup p1 p2 (fun z => hx (r1.nil_iff.mp z)) (fun z => absurd (r2.nil_iff.mp z) hy) (fun z => ?_) (by rw [← r1.length, ← r2.length]; exact hz)
  have e : its.toArray ++ its2.toArray = (its ++ its2).toArray := by simp
  have q' := newT_run (s := s) (h' := s.heap) (tk := s.toks) I (r1.append r2) (by rw [List.length_append]; exact hz) q
  first
    | exact q'
    | (rw [e]; exact q')
/-- t[lo:hi], not the whole -/
def rSlZ (K : PySem.W.Frag) : V → Option Int → Option Int → Hp → VK → Prop := fun x lo hi H Q => ∃ a xs, x = .ref a ∧ SqT K H a xs ∧ ¬ (HT.sIx xs.length 0 lo = 0 ∧ HT.sIx xs.length xs.length hi = xs.length) ∧ NewT (cutV xs lo hi) H Q
theorem sl_tupZ : SlR X (rSlZ X.K) := by
  intro pins s σ H x v vl vu lo hi sl Q I rx hs pl pu h
  obtain ⟨a, xs, rfl, hx, hw, q⟩ := h
  cases rx
  obtain ⟨its, r, ht, hz⟩ := I.tuple hx
  have hlen : its.toArray.size = xs.length := by rw [List.size_toArray]; exact r.length.symm
  refine ⟨"tuple", _, PyProof.Rows.slot_tuple_getitem.lookup, ht.typeIs, ?_⟩
  refine HT.getItem_tuple_cut ht hs pl pu (by rw [hlen]; exact hw) ?_ (by rw [hlen]; exact hz)
  rw [hlen]
  exact newT_run (s := s) (h' := s.heap) (tk := s.toks) I ((r.drop (HT.sIx xs.length 0 lo)).take (HT.sIx xs.length xs.length hi - HT.sIx xs.length 0 lo)) (Nat.le_trans (cutV_length xs lo hi) hz) q
/-! ### a method of a plain tuple -/
def tBMP (K : PySem.W.Frag) (r : V → List V → Hp → VK → Prop) (to : TE) (t : TA) : TE := fun σ H Q => to σ H fun x H1 => (∃ a xs, x = .ref a ∧ PT K H1 a xs) ∧ t σ H1 fun ys H2 => r x ys H2 Q
theorem pe_bmP {o e : Expr} {es : List Expr} {to : TE} {t : TA} {name : Str} {apos cpos : Pos} {id : String} {r : V → List V → Hp → VK → Prop} (pa : PlainAttrs "tuple") (slot : Slot "tuple" name id) (hty : typeOf (.builtin id) = pure (.type "method_descriptor")) (hm : MtR X id r) (ho : PE X o to) (ha : PA X (e :: es) t)
    (hbase : attributeBase o name X.env (eval o X.env) = eval o X.env := by rfl)
    (hfew : ((backTo cpos (starEach (e :: es) X.env)).all (fun x => !x.1) && (backToKw cpos (keywordEach [] X.env)).all (fun x => x.1.isSome)
      && decide ((e :: es).length + ([] : List Keyword).length + (if ([] : List Keyword).isEmpty then 0 else 1) < 30)) = true := by rfl)
    (hline : (apos.endLine == cpos.line) = true := by rfl) (hs : starEach (e :: es) X.env = (false, eval e X.env) :: starEach es X.env := by rfl) (hplain : (backTo cpos (starEach es X.env)).any (·.1) = false := by rfl) :
    PE X (.Call (.Attribute o name apos) (e :: es) [] cpos) (tBMP X.K r to t) := by
  refine ⟨fun pins s σ H Q I h => ?_⟩
  refine wpAny_Call_method_late hbase hfew hline rfl (thn (ho.run pins s σ H _ I h) fun v s1 ⟨x, H1, I1, r1, ⟨a, xs, ex, ty⟩, q1⟩ => ?_)
  subst ex
  obtain rfl : v = Value.ref a := r1
  have hob : ∃ ob, s1.heap.get? a = some ob ∧ ob.cls = .type "tuple" ∧ ob.dict = none := by
    rcases ty with ⟨ob, h1, h2, h3⟩ | ⟨ob, its, n, h1, h2, h3, _⟩
    · exact ⟨ob, (show ObjOk X.prog X.w H1 s1.heap a (.frz ob (.tup xs)) from I1.hok a _ h1).1, h2, h3⟩
    · exact ⟨ob, I1.kIn a ob h1, h2, h3⟩
  obtain ⟨ob, g1, g2, g3⟩ := hob
  refine ⟨"tuple", id, pa, slot, hty, ⟨ob, g1, g2⟩, (fun b eb => by cases eb; exact ⟨ob, g1, g3⟩), ?_⟩
  have hA := ha.run cpos pins s1 σ H1 _ I1 q1
  rw [hs] at hA ⊢
  refine Calls.callWith_builtin (by show (false || (backTo cpos (starEach es X.env)).any (·.1)) = false; rw [hplain] <;> rfl) (Calls.evalArgs_plain ?_)
  exact thn hA fun us s2 ⟨vs, H2, I2, r2, q2⟩ => hm pins s2 σ H2 (.ref a) vs (.ref a) us Q I2 rfl r2 q2
/-- t.count(a text), t of texts -/
def rTCount (K : PySem.W.Frag) : V → List V → Hp → VK → Prop := fun x xs H Q => ∃ (a : Addr) (z : Str) (ws : List Str), x = .ref a ∧ xs = [.str z] ∧ SqT K H a (ws.map V.str) ∧ Q (.int ((ws.count z : Nat) : Int)) H
theorem dp_strs {K : PySem.W.Frag} {H : Hp} : ∀ (ws : List Str), DpAll K H (ws.map V.str) (ws.map PyData.str)
  | [] => .nil
  | z :: ws => .cons (.str z) (dp_strs ws)
theorem plain_strs : ∀ (ws : List Str), PyData.plainAll (ws.map PyData.str) = true
  | [] => rfl
  | z :: ws => by
    show (PyData.plain (.str z) && PyData.plainAll (ws.map PyData.str)) = true
    rw [plain_strs ws]
    rfl
theorem depth_strs : ∀ (ws : List Str), PyData.depthAll (ws.map PyData.str) = 0
  | [] => rfl
  | z :: ws => by
    show max (PyData.depth (.str z)) (PyData.depthAll (ws.map PyData.str)) = 0
    rw [depth_strs ws]
    rfl
theorem count_strs (z : Str) : ∀ (ws : List Str), (ws.map PyData.str).countP (fun y => PyData.eqv y (.str z)) = ws.count z
  | [] => rfl
  | x :: ws => by
    rw [List.map_cons, List.countP_cons, List.count_cons, count_strs z ws]
    have e : PyData.eqv (.str x) (.str z) = (x == z) := by simp [PyData.eqv]
    rw [e]
theorem mt_tcount (hu : X.A.units + 65 < cLine) : MtR X "tuple.count" (rTCount X.K) := by
  intro pins s σ H x xs v us Q I rx rxs h
  obtain ⟨a, z, ws, rfl, rfl, hx, q⟩ := h
  obtain rfl : v = Value.ref a := rx
  obtain ⟨u, rfl, ru⟩ := vals1 rxs
  obtain ⟨its, r, ht, hz⟩ := I.tuple hx
  obtain ⟨as, h4⟩ := Dp.readsAll I (ws.map PyData.str) (ws.map V.str) its (dp_strs ws) r
  obtain ⟨bs, h5⟩ := Dp.reads I (.str z) (.str z) u (.str z) ru
  refine PySem.SeqAt.count_tuple_data (vs := its.toArray) ht h4 h5 (plain_strs ws) rfl (by rw [depth_strs]; show X.A.units + 1 + min 0 0 < cLine; omega) ?_
  rw [count_strs]
  exact ⟨.int ((ws.count z : Nat) : Int), H, I.tok _, ⟨_, rfl⟩, q⟩
/-! ### xs[::e], e is 1 or -1 -/
theorem pick_one (items : Array Value) : slicePick items none none (some 1) = items.toList.toArray := by
  have e : slicePick items none none (some 1) = slicePick items none none none := rfl
  rw [e, slicePick_all, Array.toArray_toList]
def tStepL (K : PySem.W.Frag) (te ti : TE) : TE := fun σ H Q => te σ H fun x H1 => ti σ H1 fun i H2 => ∃ a xs, x = .ref a ∧ SqL K H2 a xs ∧ ((i = .int 1 ∧ ∀ p, H2 p = none → Q (.ref p) (upd H2 p (.lst xs))) ∨ (i = .int (-1) ∧ ∀ p, H2 p = none → Q (.ref p) (upd H2 p (.lst xs.reverse))))
theorem pe_stepL {e i : Expr} {te ti : TE} {p3 pos : Pos} (he : PE X e te) (hi : PE X i ti) : PE X (.Subscript e (.Slice none none (some i) p3) pos) (tStepL X.K te ti) := by
  refine ⟨fun pins s σ H Q I h => ?_⟩
  refine Subscript_ (thn (he.run pins s σ H _ I h) fun v s1 ⟨x, H1, I1, r1, q1⟩ => ?_)
  refine wpAny_Slice (thn (po_none.run pins s1 σ H1 (fun o H2 => o = none ∧ H2 = H1) I1 ⟨rfl, rfl⟩) fun vl s2 ⟨l, H2, I2, pl, el, e2⟩ => ?_)
  subst el e2
  refine thn (po_none.run pins s2 σ H2 (fun o H3 => o = none ∧ H3 = H2) I2 ⟨rfl, rfl⟩) fun vu s3 ⟨u, H3, I3, pu, eu, e3⟩ => ?_
  subst eu e3
  rw [evalPart_some]
  refine thn (hi.run pins s3 σ H3 _ I3 q1) fun vs s4 ⟨y, H4, I4, r4, q4⟩ => ?_
  obtain ⟨a, xs, ex, hx, q⟩ := q4
  subst ex
  obtain rfl : v = Value.ref a := r1
  have I5 : Inv X pins σ H4 { s4 with heap := s4.heap.push { cls := .type "slice", data := .fields #[vl, vu, vs] } } := I4.kept (t' := s4.toks) fun b ob q => Heap.get?_push_of_some _ q
  obtain ⟨its, r, ht, hz⟩ := I5.list hx
  have hlen := r.length
  show wpAny (model X.prog X.w) X.A (subscriptTail e (.Slice none none (some i) p3) (.ref a) (.ref s4.heap.objs.size)) (EP X pins σ Q) X.xe { s4 with heap := s4.heap.push { cls := .type "slice", data := .fields #[vl, vu, vs] } }
  refine tail_any (ops := [.ref a, .ref s4.heap.objs.size]) ht.isList.typeIs (PySem.slot_list_getitem.lookup) ?_ (by with_unfolding_all rfl)
  rcases q with ⟨ey, q⟩ | ⟨ey, q⟩
  · subst ey
    obtain ⟨t, rfl⟩ := r4
    refine wpAny_getItem_list_slice ht.isList (Heap.IsSliceOf.new _ vl vu _) pl pu (.int 1 t) (by decide) ?_ (by rw [List.size_toArray]; omega)
    rw [pick_one]
    refine ⟨.ref _, _, I5.laid (t' := s4.toks) (o := .lst xs) (fun b ob q => Heap.get?_push_of_some _ q) (Nat.le_refl _) ?_, rfl, q _ (I5.hok.fresh (Nat.le_refl _))⟩
    exact ⟨hz, _, 0, r, Heap.get?_push_size _ rfl⟩
  · subst ey
    obtain ⟨t, rfl⟩ := r4
    refine wpAny_getItem_list_slice ht.isList (Heap.IsSliceOf.new _ vl vu _) pl pu (.int (-1) t) (by decide) ?_ (by rw [List.size_toArray]; omega)
    rw [PySem.W.krv_pick]
    refine ⟨.ref _, _, I5.laid (t' := s4.toks) (o := .lst xs.reverse) (fun b ob q => Heap.get?_push_of_some _ q) (Nat.le_refl _) ?_, rfl, q _ (I5.hok.fresh (Nat.le_refl _))⟩
    exact ⟨by rw [List.length_reverse]; exact hz, _, 0, r.reverse, Heap.get?_push_size _ rfl⟩
/-! ### own special methods: ==, in, not in, o[i], len -/
/-- a == b, a's class has its own __eq__, which answers a bool -/
def rEqO (K : PySem.W.Frag) (sp : Sp) (f : Addr) (E : XK) : R2 := fun x y H Q => ∃ (a C dx : Addr) (fs : List (Str × V)) (t : Value), x = .ref a ∧ H a = some (.ins C dx fs) ∧ TyX K H y t ∧ PySem.W.notFirst K C t = true ∧
  PySem.W.findIn K (.ref C) "__eq__" = some (some (.ref f)) ∧ PySem.W.isFn K (.ref f) = true ∧ sp [x, y] H (fun v H' => (∃ b, v = .bl b) ∧ Q v H') E
theorem op_eqO {CX : CXT} {k : Nat} {f : Addr} {fd : FuncData} {ps : List Str} {sp : Sp} {E : XK} (F : FnOk X.prog X.w X.K X.mg X.base CX k f fd ps sp) (hr : Room k X.A) (hb : Binds X.K fd ps []) (hx : Passes CX X E) :
    OpR X (compareOp .Eq) (rEqO X.K sp f E) := by
  intro pins s σ H x y v u Q I rx ry h
  obtain ⟨a, C, dx, fs, t, rfl, ha, ty, hn, hs, hf, hq⟩ := h
  obtain rfl : v = Value.ref a := rx
  obtain ⟨mA, J, _⟩ := ins_get I.hok ha
  obtain ⟨od, J, _⟩ := J.look
  obtain ⟨m, hF⟩ := I.fr
  obtain ⟨P, Z, p, hne⟩ := kit_of I ry ty
  refine PySem.W.cmp_ofEq (PySem.W.cmp_K (op := .Eq) hr.units0 hF I.ok.mod.kin J (Z.ty _ _ I.kIn p) hn hs hf ?_)
  refine wpAny_mono (run_fn (us := [.ref a, u]) (vs := [.ref a, y]) F hr hb .nil hx I (.cons rfl (.cons ry .nil)) hq) (fun w s' hw => ?_) fun _ _ z => z
  obtain ⟨z, H', I', rz, ⟨b, ez⟩, hq'⟩ := hw
  subst ez
  obtain rfl : w = Value.bool b := rz
  exact ⟨.bl b, H', I', rfl, hq'⟩
/-- y in a, y not in a: a's class has its own __contains__, which answers a bool -/
def rInO (K : PySem.W.Frag) (neg : Bool) (sp : Sp) (f : Addr) (E : XK) : R2 := fun y x H Q => ∃ (a C dx : Addr) (fs : List (Str × V)), x = .ref a ∧ H a = some (.ins C dx fs) ∧
  PySem.W.findIn K (.ref C) "__contains__" = some (some (.ref f)) ∧ PySem.W.isFn K (.ref f) = true ∧ sp [x, y] H (fun v H' => ∃ b, v = .bl b ∧ Q (.bl (if neg then !b else b)) H') E
theorem op_inO {CX : CXT} {k : Nat} {f : Addr} {fd : FuncData} {ps : List Str} {sp : Sp} {E : XK} (F : FnOk X.prog X.w X.K X.mg X.base CX k f fd ps sp) (hr : Room k X.A) (hb : Binds X.K fd ps []) (hx : Passes CX X E) :
    OpR X (compareOp .In) (rInO X.K false sp f E) := by
  intro pins s σ H y x u v Q I ry rx h
  obtain ⟨a, C, dx, fs, rfl, ha, hs, hf, hq⟩ := h
  obtain rfl : v = Value.ref a := rx
  obtain ⟨mA, J, _⟩ := ins_get I.hok ha
  obtain ⟨od, J, _⟩ := J.look
  obtain ⟨m, hF⟩ := I.fr
  refine PySem.W.in_K hF I.ok.mod.kin J hs hf ?_
  refine wpAny_mono (run_fn (us := [.ref a, u]) (vs := [.ref a, y]) F hr hb .nil hx I (.cons rfl (.cons ry .nil)) hq) (fun w s' hw => ?_) fun _ _ z => z
  obtain ⟨z, H', I', rz, b, ez, hq'⟩ := hw
  subst ez
  obtain rfl : w = Value.bool b := rz
  exact wpAny_truthy_bool ⟨.bl b, H', I', rfl, hq'⟩
theorem op_notinO {CX : CXT} {k : Nat} {f : Addr} {fd : FuncData} {ps : List Str} {sp : Sp} {E : XK} (F : FnOk X.prog X.w X.K X.mg X.base CX k f fd ps sp) (hr : Room k X.A) (hb : Binds X.K fd ps []) (hx : Passes CX X E) :
    OpR X (compareOp .NotIn) (rInO X.K true sp f E) := by
  intro pins s σ H y x u v Q I ry rx h
  obtain ⟨a, C, dx, fs, rfl, ha, hs, hf, hq⟩ := h
  obtain rfl : v = Value.ref a := rx
  obtain ⟨mA, J, _⟩ := ins_get I.hok ha
  obtain ⟨od, J, _⟩ := J.look
  obtain ⟨m, hF⟩ := I.fr
  refine PySem.W.notIn_K hF I.ok.mod.kin J hs hf ?_
  refine wpAny_mono (run_fn (us := [.ref a, u]) (vs := [.ref a, y]) F hr hb .nil hx I (.cons rfl (.cons ry .nil)) hq) (fun w s' hw => ?_) fun _ _ z => z
  obtain ⟨z, H', I', rz, b, ez, hq'⟩ := hw
  subst ez
  obtain rfl : w = Value.bool b := rz
  exact wpAny_truthy_bool ⟨.bl (!b), H', I', rfl, hq'⟩
end
theorem room65 {k : Nat} {A : Around} (hr : Room k A) : A.units + 65 < cLine := by
  have := hr.un
  omega
/-! ### == and != of plain data, whatever its texts -/
def rEqP (K : PySem.W.Frag) (neg : Bool) : R2 := fun x y H Q => ∃ d e, Dp K H x d ∧ Dp K H y e ∧ d.plain = true ∧ e.plain = true ∧ d.depth ≤ 64 ∧ Q (.bl (if neg then !PyData.eqv d e else PyData.eqv d e)) H
section
variable {X : Cx}
theorem op_eqP (hu : X.A.units + 64 < cLine) : OpR X (compareOp .Eq) (rEqP X.K false) := by
  intro pins s σ H x y v u Q I rx ry h
  obtain ⟨d, e, hd, he, pd, pe, dd, q⟩ := h
  obtain ⟨as, h1⟩ := Dp.reads I d x v hd rx
  obtain ⟨bs, h2⟩ := Dp.reads I e y u he ry
  exact PySem.SeqAt.eq_plain h1 h2 pd pe (by omega) ⟨.bl _, H, I, rfl, q⟩
theorem op_neP (hu : X.A.units + 64 < cLine) : OpR X (compareOp .NotEq) (rEqP X.K true) := by
  intro pins s σ H x y v u Q I rx ry h
  obtain ⟨d, e, hd, he, pd, pe, dd, q⟩ := h
  obtain ⟨as, h1⟩ := Dp.reads I d x v hd rx
  obtain ⟨bs, h2⟩ := Dp.reads I e y u he ry
  exact PySem.SeqAt.ne_plain h1 h2 pd pe (by omega) ⟨.bl _, H, I, rfl, q⟩
end
mutual
theorem Dp.upG {K : PySem.W.Frag} {F F' : Hp} (g : Gr F F') : ∀ (d : PyData) (v : V), Dp K F v d → Dp K F' v d
  | .none, _, h => by cases h; exact .non
  | .bool b, _, h => by cases h; exact .bl b
  | .int i, _, h => by cases h; exact .int i
  | .str z, _, h => by cases h; exact .str z
  | .list ds, _, h => by
    cases h with
    | lst hs ha => exact .lst (g.sqL hs) (DpAll.upG g ds _ ha)
  | .tuple ds, _, h => by
    cases h with
    | tup hs ha => exact .tup (g.sqT hs) (DpAll.upG g ds _ ha)
  | .dict _, _, h => by cases h
theorem DpAll.upG {K : PySem.W.Frag} {F F' : Hp} (g : Gr F F') : ∀ (ds : List PyData) (vs : List V), DpAll K F vs ds → DpAll K F' vs ds
  | [], _, h => by cases h; exact .nil
  | d :: ds, _, h => by
    cases h with
    | cons h1 h2 => exact .cons (Dp.upG g d _ h1) (DpAll.upG g ds _ h2)
end
theorem eqvAll_strs : ∀ (ws vs : List Str), PyData.eqvAll (ws.map PyData.str) (vs.map PyData.str) = decide (ws = vs)
  | [], [] => by simp [PyData.eqvAll]
  | [], _ :: _ => by simp [PyData.eqvAll]
  | _ :: _, [] => by simp [PyData.eqvAll]
  | w :: ws, v :: vs => by
    show PyData.eqvAll (.str w :: ws.map PyData.str) (.str v :: vs.map PyData.str) = _
    rw [PyData.eqvAll, eqvAll_strs ws vs]
    have e : PyData.eqv (.str w) (.str v) = decide (w = v) := by
      have e1 : PyData.eqv (.str w) (.str v) = (w == v) := by simp [PyData.eqv]
      rw [e1]
      by_cases q : w = v <;> simp [q]
    rw [e]
    by_cases h1 : w = v
    · subst h1
      by_cases h2 : ws = vs
      · subst h2; simp
      · simp [h2]
    · simp [h1]
theorem eqv_tup (xs ys : List PyData) : PyData.eqv (.tuple xs) (.tuple ys) = PyData.eqvAll xs ys := by rw [PyData.eqv]
theorem inV_strs (z : Str) : ∀ (ws : List Str), inV (.str z) (ws.map V.str) = decide (z ∈ ws)
  | [] => by simp [inV]
  | w :: ws => by
    have ih := inV_strs z ws
    unfold inV at ih ⊢
    rw [List.map_cons, List.any_cons, ih]
    have e : eqV (.str w) (.str z) = decide (w = z) := by
      by_cases q : w = z
      · subst q; simp [eqV]
      · simp [eqV, q]
    rw [e]
    by_cases h1 : w = z
    · subst h1; simp
    · have h2 : ¬ z = w := fun q => h1 q.symm
      by_cases h3 : z ∈ ws
      · simp [h3]
      · simp [h1, h2, h3]
theorem flat_strs (ws : List Str) : (ws.map V.str).all flatV = true := by
  rw [List.all_map]
  exact List.all_eq_true.mpr fun x _ => rfl
theorem putF_new {f : Str} {v : V} : ∀ {fs : List (Str × V)}, (fs.all fun q => decide (q.1 ≠ f)) = true → putF f v fs = fs ++ [(f, v)]
  | [], _ => rfl
  | (g, x) :: r, h => by
    rw [List.all_cons, Bool.and_eq_true] at h
    have h1 : ¬ g = f := by simpa using h.1
    show (if g = f then (g, v) :: r else (g, x) :: putF f v r) = _
    rw [if_neg h1, putF_new h.2]
    rfl
theorem putF_k {f : Str} {v : V} {fs : List (Str × V)} (ks : List Str) (hk : fs.map (·.1) = ks) (h : (ks.all fun g => decide (g ≠ f)) = true) : putF f v fs = fs ++ [(f, v)] := by
  refine putF_new ?_
  rw [← hk, List.all_map] at h
  exact h
/-- a new instance: its dict, itself -/
theorem Sta.mkI {F H : Hp} {L : List (Addr × HO)} {x dx C : Addr} (s : Sta F L H) (hx : H x = none) (hd : H dx = none) (ne : dx ≠ x) :
    ∃ F', Sta F' ((x, .ins C dx []) :: L) (upd (upd H dx (.own x)) x (.ins C dx [])) ∧ Gr F F' ∧ Has F' dx (.own x) := by
  have s1 := s.newF hd (.own x)
  have hx1 : upd H dx (.own x) x = none := by rw [upd_ne (Ne.symm ne)]; exact hx
  exact ⟨_, s1.newL hx1 _, Gr.new (s.noF hd), ⟨upd_same⟩⟩
theorem Sta.frz {F H : Hp} {L : List (Addr × HO)} {a : Addr} {o : HO} (s : Sta F ((a, o) :: L) H) : ∃ F', Sta F' L H ∧ Gr F F' ∧ Has F' a o := ⟨_, s.freeze, Gr.new s.hdF, ⟨upd_same⟩⟩
end Sb


set_option Elab.async false
set_option linter.all false
set_option maxRecDepth 100000
set_option maxHeartbeats 4000000
namespace Sb
open PySem L2 PySem.Spec PyProof.Rows
section
variable {X : Cx}
/-- t + u of plain tuples, whatever they hold -/
def rCatZA (K : PySem.W.Frag) : R2 := fun x y H Q => ∃ a b xs ys, x = .ref a ∧ y = .ref b ∧ PT K H a xs ∧ PT K H b ys ∧ xs.length + ys.length ≤ sizeLine ∧
  (xs = [] → Q (.ref b) H) ∧ (xs ≠ [] → ys = [] → Q (.ref a) H) ∧ (xs ≠ [] → ys ≠ [] → NewT (xs ++ ys) H Q)
theorem op_catZA : OpR X (binaryOp .Add) (rCatZA X.K) := by
  intro pins s σ H x y v u Q I rx ry h
  obtain ⟨a, b, xs, ys, rfl, rfl, ha, hb, hz, q1, q2, q3⟩ := h
  by_cases hx : xs = []
  · subst hx
    obtain rfl : v = Value.ref a := rx
    obtain rfl : u = Value.ref b := ry
    obtain ⟨its, r1, p1, _⟩ := I.tuple ha.sqT
    obtain ⟨its2, r2, p2, _⟩ := I.tuple hb.sqT
    have e : its = [] := r1.nil_iff.mpr rfl
    subst e
    exact L2.cat_tup0 p1 p2 ⟨.ref b, H, I, rfl, q1 rfl⟩
  · by_cases hy : ys = []
    · subst hy
      obtain rfl : v = Value.ref a := rx
      obtain rfl : u = Value.ref b := ry
      obtain ⟨its, r1, p1, _⟩ := I.tuple ha.sqT
      obtain ⟨its2, r2, p2, _⟩ := I.tuple hb.sqT
      have e : its2 = [] := r2.nil_iff.mpr rfl
      refine HT.cat_tup p1 p2 (fun z => hx (r1.nil_iff.mp z)) (fun _ => ⟨.ref a, H, I, rfl, q2 hx rfl⟩) (fun z => absurd e z) (by rw [← r1.length, ← r2.length]; exact hz)
    · exact op_catZ pins s σ H _ _ v u Q I rx ry ⟨a, b, xs, ys, rfl, rfl, ha.sqT, hb.sqT, hx, hy, hz, q3 hx hy⟩
/-- t[lo:hi] of a plain tuple: the whole is t itself -/
def rSlZA (K : PySem.W.Frag) : V → Option Int → Option Int → Hp → VK → Prop := fun x lo hi H Q => ∃ a xs, x = .ref a ∧ PT K H a xs ∧
  ((HT.sIx xs.length 0 lo = 0 ∧ HT.sIx xs.length xs.length hi = xs.length) → Q (.ref a) H) ∧ (¬ (HT.sIx xs.length 0 lo = 0 ∧ HT.sIx xs.length xs.length hi = xs.length) → NewT (cutV xs lo hi) H Q)
theorem sl_tupZA : SlR X (rSlZA X.K) := by
  intro pins s σ H x v vl vu lo hi sl Q I rx hs pl pu h
  obtain ⟨a, xs, rfl, hx, q1, q2⟩ := h
  by_cases hw : HT.sIx xs.length 0 lo = 0 ∧ HT.sIx xs.length xs.length hi = xs.length
  · obtain rfl : v = Value.ref a := rx
    obtain ⟨its, r, ht, hz⟩ := I.tuple hx.sqT
    have hlen : its.toArray.size = xs.length := by rw [List.size_toArray]; exact r.length.symm
    exact ⟨"tuple", _, PyProof.Rows.slot_tuple_getitem.lookup, ht.typeIs, getItem_tuple_whole ht hs pl pu (by rw [hlen]; exact hw) ⟨.ref a, H, I, rfl, q1 hw⟩⟩
  · exact sl_tupZ pins s σ H _ v vl vu lo hi sl Q I rx hs pl pu ⟨a, xs, rfl, hx.sqT, hw, q2 hw⟩
end
section
variable {K : PySem.W.Frag} {F H : Hp} {L : List (Addr × HO)} {xs ys : List V} {Q : VK} {a b : Addr}
theorem newT_sta (S : Sta F L H) (k : ∀ (p : Addr) (F' H' : Hp), Gr F F' → PT K F' p xs → Sta F' L H' → Q (.ref p) H') : NewT xs H Q := fun p o hc hd hp => by
  obtain ⟨F', S', g, hP⟩ := S.mkT (K := K) (xs := xs) hp hc hd
  exact k p F' _ g hP S'
theorem cat_sta (S : Sta F L H) (pa : PT K F a xs) (pb : PT K F b ys) (hz : xs.length + ys.length ≤ 100000) (k : ∀ (p : Addr) (F' H' : Hp), Gr F F' → PT K F' p (xs ++ ys) → Sta F' L H' → Q (.ref p) H') : rCatZA K (.ref a) (.ref b) H Q := by
  refine ⟨a, b, xs, ys, rfl, rfl, pa.at S, pb.at S, sz hz, fun e => ?_, fun _ e => ?_, fun _ _ => newT_sta S k⟩
  · subst e
    exact k b F H (Gr.refl F) pb S
  · subst e
    refine k a F H (Gr.refl F) ?_ S
    rw [List.append_nil]
    exact pa
theorem cut_whole {xs : List V} {lo hi : Option Int} (h : HT.sIx xs.length 0 lo = 0 ∧ HT.sIx xs.length xs.length hi = xs.length) : cutV xs lo hi = xs := by
  unfold cutV
  rw [h.1, h.2, List.drop_zero, Nat.sub_zero, List.take_length]
theorem slice_sta {lo hi : Option Int} (S : Sta F L H) (pa : PT K F a xs) (k : ∀ (p : Addr) (F' H' : Hp), Gr F F' → PT K F' p (cutV xs lo hi) → Sta F' L H' → Q (.ref p) H') : rSlZA K (.ref a) lo hi H Q := by
  refine ⟨a, xs, rfl, pa.at S, fun w => ?_, fun _ => newT_sta S k⟩
  refine k a F H (Gr.refl F) ?_ S
  rw [cut_whole w]
  exact pa
end
end Sb


set_option Elab.async false
set_option linter.all false
set_option maxRecDepth 100000
set_option maxHeartbeats 8000000
namespace Sb
open PySem PySem.Spec PyProof.Rows L2
/-! ### try: several except clauses, with and without a name -/
/-- an exception at a has been caught; no clause has been looked at -/
structure Caught (X : Cx) (pins : List (Addr × Obj)) (σ : L2.St) (H : Hp) (a : Addr) (cls : Value) (d : Option Addr) (B : Heap) (sI s : Shared) : Prop where
  J : Inv X pins σ H sI
  nb : ∀ b o, sI.heap.get? b = some o → b ∉ frs X.stack → B.get? b = some o
  up : sI.heap.UpToSlots s.heap
  fl : HandSPX.FlyingZ B (X.env :: X.outer) a (Zc cls d) s.heap
  na : H a = none
  os : s.os = sI.os
  ag : AllBare s.gens
def Hand (X : Cx) (hds : List ExceptHandler) (Wh : Ends → WX) : Prop := ∀ (pins : List (Addr × Obj)) (D : Ends) (σ : L2.St) (H : Hp) (a : Addr) (cls : Value) (d : Option Addr) (B : Heap) (sI s : Shared),
  Caught X pins σ H a cls d B sI s → Wh D cls d σ H → wpAny (model X.prog X.w) X.A (handleBy (.ref a) X.env hds) (SP X pins D) X.xe s
section
variable {X : Cx} {pins : List (Addr × Obj)} {σ : L2.St} {H : Hp} {a : Addr} {cls : Value} {d : Option Addr} {B : Heap} {sI s : Shared}
/-- the suite's state -/
theorem Caught.into (hf : X.env.frame = some X.env.locals) (C : Caught X pins σ H a cls d B sI s) :
    ∃ oe, Zc cls d oe ∧ (∃ vs, oe.data = .fields vs) ∧ s.heap.get? a = some oe ∧ Inv X pins σ H s ∧ Inv (X.suite a ((a, oe) :: (X.pn ++ pins))) [] σ H s := by
  have J2 : Inv X pins σ H s := C.J.landed C.nb C.fl.1 C.up C.os C.ag
  obtain ⟨oe, vs, e1, e2, e3⟩ := C.fl.there
  have out : a ∉ frs (X.env :: X.outer) := fun hm => by
    obtain ⟨_, o', e4, e5⟩ := C.fl.2.2.1.mem hm
    rw [e1] at e4
    cases e4
    exact e5 _ e3
  have n1 : a ≠ X.env.locals := fun z => out (List.mem_filterMap.mpr ⟨X.env, List.mem_cons_self, by rw [hf, z]⟩)
  have n2 : a ∉ X.fs := fun hm => by
    obtain ⟨e, he, q⟩ := List.mem_filterMap.mp hm
    exact out (List.mem_filterMap.mpr ⟨e, List.mem_cons_of_mem _ he, q⟩)
  exact ⟨oe, e2, ⟨vs, e3⟩, e1, J2, J2.suite e1 e3 C.na n1 n2⟩
theorem Caught.on {h4 : Heap} (C : Caught X pins σ H a cls d B sI s) (f : HandSPX.FlyingZ B (X.env :: X.outer) a (Zc cls d) h4) (u : s.heap.UpToSlots h4) : Caught X pins σ H a cls d B sI { s with heap := h4 } :=
  ⟨C.J, C.nb, C.up.trans u, f, C.na, C.os, C.ag⟩
end
section
variable {X : Cx} {Wout : WX}
theorem hand_nil (hs : X.stack = X.env :: X.outer) (hf : X.env.frame = some X.env.locals) (tk : Takes X Wout) : Hand X [] (fun _ => Wout) := by
  intro pins D σ H a cls d B sI s C w
  refine wpAny_handleBy_nil ?_
  obtain ⟨k1, k2, k3, oe, vs, T, oT, ts, he, hz, hd, h1, hr⟩ := id C.fl
  unfold PySem.passOn
  refine wpAny_bind (wpAny_field he hd h1 ?_)
  rw [if_neg (show ¬ ((Value.ref T == Value.none) = true) from by simp)]
  have last : wpAny (model X.prog X.w) X.A (setFlight (.ref a) X.env.frame) (fun _ s4 => wpAny (model X.prog X.w) X.A (throw (.ref a) : Sem Flow) (SP X pins D) X.xe s4) X.xe s := by
    rw [hf]
    refine HandSPX.setFlight_upZ C.fl fun h4 hh4 up4 => wpAny_throw (tk _ _ ?_)
    exact ⟨a, B, sI, pins, σ, H, cls, d, rfl, C.J, C.nb, C.up.trans up4, .inr (.inr (by rw [hs]; exact hh4)), C.na, C.os, C.ag, w⟩
  first
    | exact wpAny_bind (wpAny_pure (wpAny_bind last))
    | exact wpAny_bind last
/-- what a clause looks at: the class c -/
def wIf (K : PySem.W.Frag) (c : Value) (yes no : WX) : WX := fun cls d σ H => ∃ b, PySem.W.exmOne K cls c = some b ∧ (b = true → yes cls d σ H) ∧ (b = false → no cls d σ H)
section
variable {x n : Str} {c : Value} {i : Nat} {suite : List Stmt} {b₀ : Stmt} {np pos' : Pos} {hds : List ExceptHandler} {ts : Addr → Value → Option Addr → TS} {Wh : Ends → WX}
/-- the name's value: the class -/
theorem Caught.test {pins : List (Addr × Obj)} {σ : L2.St} {H : Hp} {a : Addr} {cls : Value} {d : Option Addr} {B : Heap} {sI s : Shared} (hf : X.env.frame = some X.env.locals) (C : Caught X pins σ H a cls d B sI s) (hc : Names X x c) {b : Bool} (hb : PySem.W.exmOne X.K cls c = some b) {Q : Bool → Shared → Prop} {E E2 : Value → Shared → Prop} (q : Q b s) :
    wpAny (model X.prog X.w) (X.A.mark (some (.ref a))) (eval (.Name x np) X.env) (fun u s1 => wpAny (model X.prog X.w) (X.A.mark (some (.ref a))) (excMatches (.ref a) u) Q E s1) E2 s := by
  obtain ⟨oe, hz, hd, he, J2, J3⟩ := C.into hf
  have LT : PySem.W.Looks (model X.prog X.w) s.heap (typeOf (.ref a)) cls := fun A Q E s k q => wpAny_typeOf_ref (k _ _ he) (by rw [hz.1]; exact q)
  have q2 := (PySem.W.exm_one (M := model X.prog X.w) J2.kIn LT hb).here (A := X.A.mark (some (.ref a))) (Q := Q) (E := E) q
  obtain ⟨hg, hdbg, hm | ⟨hm, hv, hnn⟩⟩ := hc
  · exact ld_glob (X := X.suite a ((a, oe) :: (X.pn ++ pins))) J3 hg hm q2 hdbg
  · exact ld_blt (X := X.suite a ((a, oe) :: (X.pn ++ pins))) J3 hg hm hv q2 hnn hdbg
/-- except x: .. -/
theorem hand_one (hf : X.env.frame = some X.env.locals) (hc : Names X x c)
    (hsu : ∀ (a : Addr) (oe : Obj) (cls : Value) (d : Option Addr) (pn : List (Addr × Obj)), Zc cls d oe → (∃ vs, oe.data = .fields vs) → PSs (X.suite a ((a, oe) :: pn)) (b₀ :: suite) (ts a cls d)) (r : Hand X hds Wh) :
    Hand X (.ExceptHandler (some (.Name x np)) none (b₀ :: suite) pos' :: hds) (fun D => wIf X.K c (fun cls d σ H => ∀ a, H a = none → ts a cls d D σ H) (Wh D)) := by
  intro pins D σ H a cls d B sI s C ⟨b, hb, yes, no⟩
  refine wpAny_handleBy_cons (codeAny_handlers_test (C.test hf hc hb ?_)) (by intro q; cases q)
  cases b with
  | false => exact r pins D σ H a cls d B sI s C (no rfl)
  | true =>
    refine codeAny_handlers_suite ?_
    refine HandSPX.lands_againZ C.fl fun h4 fl4 up4 => ?_
    have C4 := C.on fl4 up4
    obtain ⟨oe, hz, hd, he, J2, J3⟩ := C4.into hf
    refine wpAny_mono ((hsu a oe cls d (X.pn ++ pins) hz hd).run [] _ _ H _ J3 (yes rfl a C.na)) (fun f s6 hsp => ?_) (fun _ _ z => False.elim z)
    cases f with
    | next =>
      obtain ⟨σ6, H6, S6, q6⟩ := hsp
      exact ⟨_, _, S6.unsuite C.J.ok, q6⟩
    | brk =>
      obtain ⟨σ6, H6, S6, q6⟩ := hsp
      exact ⟨_, _, S6.unsuite C.J.ok, q6⟩
    | cont =>
      obtain ⟨σ6, H6, S6, q6⟩ := hsp
      exact ⟨_, _, S6.unsuite C.J.ok, q6⟩
    | ret u =>
      obtain ⟨v6, σ6, H6, S6, r6, q6⟩ := hsp
      exact ⟨_, _, _, S6.unsuite C.J.ok, r6, q6⟩
/-- except x as n: .. -/
def endsAs (i : Nat) (D : Ends) : Ends := { nx := fun σ' H' => D.nx (σ'.set i none) H', rt := D.rt, bk := fun σ' H' => D.bk (σ'.set i none) H', ct := fun σ' H' => D.ct (σ'.set i none) H' }
theorem hand_as (hf : X.env.frame = some X.env.locals) (hN : X.N.Nodup) (hi : X.N[i]? = some n) (hln : X.env.kindOf n = some .local) (hc : Names X x c)
    (hsu : ∀ (a : Addr) (oe : Obj) (cls : Value) (d : Option Addr) (pn : List (Addr × Obj)), Zc cls d oe → (∃ vs, oe.data = .fields vs) → PSs (X.suite a ((a, oe) :: pn)) (b₀ :: suite) (ts a cls d)) (r : Hand X hds Wh) :
    Hand X (.ExceptHandler (some (.Name x np)) (some n) (b₀ :: suite) pos' :: hds) (fun D => wIf X.K c (fun cls d σ H => ∀ a, H a = none → ts a cls d (endsAs i D) (σ.set i (some (.ref a))) H) (Wh D)) := by
  intro pins D σ H a cls d B sI s C ⟨b, hb, yes, no⟩
  refine wpAny_handleBy_cons (codeAny_handlers_test (C.test hf hc hb ?_)) (by intro q; cases q)
  cases b with
  | false => exact r pins D σ H a cls d B sI s C (no rfl)
  | true =>
    refine codeAny_handlers_suite_as ?_
    refine HandSPX.lands_againZ C.fl fun h4 fl4 up4 => ?_
    have C4 := C.on fl4 up4
    obtain ⟨oe, hz, hd, he, J2, J3⟩ := C4.into hf
    refine store_ok (X := X.suite a ((a, oe) :: (X.pn ++ pins))) (v := .ref a) J3 hN hi (.inl hln) rfl (fun s5 S5 => ?_) (.inr hln)
    refine wpAny_mono ((hsu a oe cls d (X.pn ++ pins) hz hd).run [] s5 _ H _ S5 (yes rfl a C.na)) (fun f s6 hsp => ?_) (fun _ _ z => False.elim z)
    have gone : ∀ {σ6 : L2.St} {H6 : Hp} {Q : Shared → Prop}, Inv (X.suite a ((a, oe) :: (X.pn ++ pins))) [] σ6 H6 s6 → (∀ s7, Inv X pins (σ6.set i none) H6 s7 → Q s7) →
        wpAny (model X.prog X.w) X.A (do bindName X.env n .none; unbindBehindTheSuite X.env n pos') (fun _ s7 => Q s7) X.xe s6 := fun {σ6 H6 Q} S6 hq => gone_ok (S6.unsuite C.J.ok) hN hi hln hq
    cases f with
    | next =>
      obtain ⟨σ6, H6, S6, q6⟩ := hsp
      exact gone S6 fun s7 J7 => ⟨_, _, J7, q6⟩
    | brk =>
      obtain ⟨σ6, H6, S6, q6⟩ := hsp
      exact gone S6 fun s7 J7 => ⟨_, _, J7, q6⟩
    | cont =>
      obtain ⟨σ6, H6, S6, q6⟩ := hsp
      exact gone S6 fun s7 J7 => ⟨_, _, J7, q6⟩
    | ret u =>
      obtain ⟨v6, σ6, H6, S6, r6, q6⟩ := hsp
      exact gone S6 fun s7 J7 => ⟨_, _, _, J7, r6, q6⟩
end
/-- try: body / the clauses -/
theorem ps_tryH {body : List Stmt} {h₀ : ExceptHandler} {hds : List ExceptHandler} {pos : Pos} {tb : WX → TS} {Wh : Ends → WX} (hs : X.stack = X.env :: X.outer) (hf : X.env.frame = some X.env.locals)
    (hb : ∀ (W : WX) (pn : List (Addr × Obj)) (xe : Value → Shared → Prop), Takes (X.tr pn xe) W → PassesOwn (model X.prog X.w) X.A X.env xe → PSs (X.tr pn xe) body (tb W))
    (hh : Hand X (h₀ :: hds) Wh) : PS X (.Try body (h₀ :: hds) [] [] pos) (fun D σ H => tb (Wh D) D σ H) := by
  refine ⟨fun pins s σ H D I h => ?_⟩
  have ok := I.ok
  have hfr : X.A.frames = some (X.env :: X.outer) := by rw [ok.frames, hs]
  refine wpAny_Try_except (wpAny_mono ((hb (Wh D) (X.pn ++ pins) (fun e s₁ => wpAny (model X.prog X.w) X.A (noteFrame e X.env) (fun _ s₂ => wpAny (model X.prog X.w) X.A (setFlight e none) (fun _ s₃ =>
    wpAny (model X.prog X.w) X.A (handleBy e X.env (h₀ :: hds)) (SP X pins D) X.xe s₃) X.xe s₂) X.xe s₁) (fun u s' xx => ?_) PassesOwn.looking).run [] s σ H D (I.toTry _) h) (fun f s1 hsp => ?_) (fun e s1 he => he))
  · obtain ⟨a, B, sI, pins', σ', H', cls, d, rfl, J', nb, up, sky, na, os, ag, w⟩ := xx
    have J : Inv X pins σ' H' sI := J'.ofTry ok
    have sky' : Sky B (X.env :: X.outer) a (Zc cls d) X.env.locals s'.heap := by rw [← hs]; exact sky
    show wpAny (model X.prog X.w) X.A (noteFrame (.ref a) X.env) _ _ _
    exact Sky.land Zc.steady hfr hf sky' fun h3 fl3 up3 => hh pins D σ' H' a cls d B sI { s' with heap := h3 } ⟨J, nb, up.trans up3, fl3, na, os, ag⟩ w
  · cases f with
    | next =>
      obtain ⟨σ', H', J', q⟩ := hsp
      exact wpAny_execs_nil ⟨σ', H', J'.ofTry ok, q⟩
    | brk =>
      obtain ⟨σ', H', J', q⟩ := hsp
      exact ⟨σ', H', J'.ofTry ok, q⟩
    | cont =>
      obtain ⟨σ', H', J', q⟩ := hsp
      exact ⟨σ', H', J'.ofTry ok, q⟩
    | ret u =>
      obtain ⟨v, σ', H', J', r, q⟩ := hsp
      exact ⟨v, σ', H', J'.ofTry ok, r, q⟩
end
/-! ### raising an own error that keeps one value -/
/-- C.__init__(self, f): self.f = f -/
def spIni (K : PySem.W.Frag) (f : Str) : Sp := fun vs H Q _ => ∃ (a C : Addr) (y : V), vs = [.ref a, y] ∧ OexC K C ∧ PySem.W.findIn K (.ref C) f = some none ∧ H a = some (exo a C none) ∧
  ∀ dx, H dx = none → dx ≠ a → Q .non (upd (upd H dx (exd dx [(f, y)])) a (exo a C (some dx)))
/-- raise C(y): the reading behind the argument -/
theorem er_read {K : PySem.W.Frag} {H1 : Hp} {C : Addr} {y : V} {f : Str} {Q : XK} {E : XK} (T : OexC K C) (hno : PySem.W.findIn K (.ref C) f = some none) (q : ∀ d, H1 d = none → Q (.ref C) (some d) (upd H1 d (.xd [(f, y)]))) :
    [y].length ≤ 1000 ∧ ∀ a, H1 a = none → spIni K f (.ref a :: ([y] ++ [])) (upd H1 a (exo a C none))
      (fun v H2 => v = .non ∧ ∃ (d : Addr) (fs : List (Str × V)), H2 a = some (exo a C (some d)) ∧ H2 d = some (exd d fs) ∧ H1 d = none ∧ Q (.ref C) (some d) (upd (del H2 a) d (.xd fs))) E := by
  refine ⟨by show 1 ≤ 1000; decide, fun a ha => ⟨a, C, y, rfl, T, hno, upd_same, fun dx h1 ne => ⟨rfl, dx, [(f, y)], upd_same, by rw [upd_ne ne]; exact upd_same, ?_, ?_⟩⟩⟩
  · rw [upd_ne ne] at h1
    exact h1
  · have h2 : H1 dx = none := by
      rw [upd_ne ne] at h1
      exact h1
    have e : upd (del (upd (upd (upd H1 a (exo a C none)) dx (exd dx [(f, y)])) a (exo a C (some dx))) a) dx (.xd [(f, y)]) = upd H1 dx (.xd [(f, y)]) := by
      funext b
      by_cases hb : b = dx
      · subst hb
        rw [upd_same, upd_same]
      · rw [upd_ne hb, upd_ne hb]
        by_cases hba : b = a
        · subst hba
          rw [del_same, ha]
        · rw [del_ne hba, upd_ne hba, upd_ne hb, upd_ne hba]
    rw [e]
    exact q dx h2
/-- a call in a try body: what it lets out, at any slots -/
theorem passN {X : Cx} {W : WX} {n : Nat} (hn : X.N.length = n) (tk : Takes X W) : Passes (L2.CX X.prog X.w) X (fun cls d H => ∀ σ, σ.length = n → W cls d σ H) :=
  fun pins σ H s e s' I c => tk e s' (XE.of_call I (fun cls d H' h => h σ (I.len.trans hn)) c)
/-- z * n -/
theorem op_mulS {X : Cx} : OpR X (binaryOp .Mult) (fun x y H Q => ∃ (z : Str) (n : Int), x = .str z ∧ y = .int n ∧ 0 ≤ n ∧ n ≤ 1000 ∧ z.length ≤ 1000 ∧ Q (.str (Txt.mul z n)) H) := by
  intro pins s σ H x y v u Q I rx ry h
  obtain ⟨z, n, rfl, rfl, h0, h1, h2, q⟩ := h
  obtain ⟨t, rfl⟩ := rx
  obtain ⟨t', rfl⟩ := ry
  exact SB.mul (mulOk_of 1000 1000 h2 (by omega) (by omega) (by decide) (by decide)) fun t2 k2 => ⟨.str (Txt.mul z n), H, I.tok _, ⟨_, rfl⟩, q⟩
end Sb


set_option Elab.async false
set_option linter.all false
set_option maxRecDepth 100000
set_option maxHeartbeats 4000000
namespace Sb
open PySem L2
def top (i : Nat) : Stmt := PySem.Challenge.pw_scopebind_k02_invalid_libraries.main.body.getD i (.Pass ⟨0, 0, 0, 0⟩)
abbrev s_NoLibrary___init__ : Stmt := inClass (top 2) 0
abbrev ps_NoLibrary___init__ : List Str := ["self", "part"]
abbrev ns_NoLibrary___init__ : List Str := ["self", "part"]
theorem sc_NoLibrary___init__ : FnScope ["self", "part"] ["self", "part"] (defScope s_NoLibrary___init__) := ⟨rfl, rfl, rfl, by decide +kernel, rfl, by decide +kernel, by decide +kernel⟩
def d_NoLibrary___init__ : He.DefD := ⟨("NoLibrary", some "__init__"), "__init__", "NoLibrary.__init__", defArgs s_NoLibrary___init__, defBody s_NoLibrary___init__, defScope s_NoLibrary___init__, [], []⟩
abbrev s_is_word : Stmt := top 5
abbrev ps_is_word : List Str := ["thing"]
abbrev ns_is_word : List Str := ["thing", "letter"]
theorem sc_is_word : FnScope ["thing", "letter"] ["thing"] (defScope s_is_word) := ⟨rfl, rfl, rfl, by decide +kernel, rfl, by decide +kernel, by decide +kernel⟩
def d_is_word : He.DefD := ⟨("is_word", none), "is_word", "is_word", defArgs s_is_word, defBody s_is_word, defScope s_is_word, [], []⟩
abbrev s_are_words : Stmt := top 6
abbrev ps_are_words : List Str := ["thing", "most"]
abbrev ns_are_words : List Str := ["thing", "most", "item", "word"]
theorem sc_are_words : FnScope ["thing", "most", "item", "word"] ["thing", "most"] (defScope s_are_words) := ⟨rfl, rfl, rfl, by decide +kernel, rfl, by decide +kernel, by decide +kernel⟩
def d_are_words : He.DefD := ⟨("are_words", none), "are_words", "are_words", defArgs s_are_words, defBody s_are_words, defScope s_are_words, [], []⟩
abbrev s_Library___init__ : Stmt := inClass (top 10) 0
abbrev ps_Library___init__ : List Str := ["self", "name", "needs", "defines", "uses", "weak", "eager", "own_first"]
abbrev ns_Library___init__ : List Str := ["self", "name", "needs", "defines", "uses", "weak", "eager", "own_first", "symbol"]
theorem sc_Library___init__ : FnScope ["self", "name", "needs", "defines", "uses", "weak", "eager", "own_first", "symbol"] ["self", "name", "needs", "defines", "uses", "weak", "eager", "own_first"] (defScope s_Library___init__) := ⟨rfl, rfl, rfl, by decide +kernel, rfl, by decide +kernel, by decide +kernel⟩
def d_Library___init__ : He.DefD := ⟨("Library", some "__init__"), "__init__", "Library.__init__", defArgs s_Library___init__, defBody s_Library___init__, defScope s_Library___init__, [], [("needs", .adr (kwAt ("Library", some "__init__") "needs")), ("defines", .adr (kwAt ("Library", some "__init__") "defines")), ("uses", .adr (kwAt ("Library", some "__init__") "uses")), ("weak", .adr (kwAt ("Library", some "__init__") "weak")), ("eager", .bl false), ("own_first", .bl false)]⟩
abbrev s_Library___eq__ : Stmt := inClass (top 10) 1
abbrev ps_Library___eq__ : List Str := ["self", "other"]
abbrev ns_Library___eq__ : List Str := ["self", "other"]
theorem sc_Library___eq__ : FnScope ["self", "other"] ["self", "other"] (defScope s_Library___eq__) := ⟨rfl, rfl, rfl, by decide +kernel, rfl, by decide +kernel, by decide +kernel⟩
def d_Library___eq__ : He.DefD := ⟨("Library", some "__eq__"), "__eq__", "Library.__eq__", defArgs s_Library___eq__, defBody s_Library___eq__, defScope s_Library___eq__, [], []⟩
abbrev s__law_cell_at : Stmt := top 12
abbrev ps__law_cell_at : List Str := ["_law_script", "_law_k"]
abbrev ns__law_cell_at : List Str := ["_law_script", "_law_k"]
theorem sc__law_cell_at : FnScope ["_law_script", "_law_k"] ["_law_script", "_law_k"] (defScope s__law_cell_at) := ⟨rfl, rfl, rfl, by decide +kernel, rfl, by decide +kernel, by decide +kernel⟩
def d__law_cell_at : He.DefD := ⟨("_law_cell_at", none), "_law_cell_at", "_law_cell_at", defArgs s__law_cell_at, defBody s__law_cell_at, defScope s__law_cell_at, [], []⟩
abbrev s__law_well : Stmt := top 13
abbrev ps__law_well : List Str := ["_law_cell"]
abbrev ns__law_well : List Str := ["_law_cell"]
theorem sc__law_well : FnScope ["_law_cell"] ["_law_cell"] (defScope s__law_well) := ⟨rfl, rfl, rfl, by decide +kernel, rfl, by decide +kernel, by decide +kernel⟩
def d__law_well : He.DefD := ⟨("_law_well", none), "_law_well", "_law_well", defArgs s__law_well, defBody s__law_well, defScope s__law_well, [], []⟩
abbrev s__law_draw : Stmt := top 14
abbrev ps__law_draw : List Str := ["_law_well_here", "_law_many"]
abbrev ns__law_draw : List Str := ["_law_well_here", "_law_many", "_law_digit", "_law_prime", "_law_number"]
theorem sc__law_draw : FnScope ["_law_well_here", "_law_many", "_law_digit", "_law_prime", "_law_number"] ["_law_well_here", "_law_many"] (defScope s__law_draw) := ⟨rfl, rfl, rfl, by decide +kernel, rfl, by decide +kernel, by decide +kernel⟩
def d__law_draw : He.DefD := ⟨("_law_draw", none), "_law_draw", "_law_draw", defArgs s__law_draw, defBody s__law_draw, defScope s__law_draw, [], []⟩
abbrev s__law_one : Stmt := top 15
abbrev ps__law_one : List Str := ["_law_well_here", "_law_some"]
abbrev ns__law_one : List Str := ["_law_well_here", "_law_some"]
theorem sc__law_one : FnScope ["_law_well_here", "_law_some"] ["_law_well_here", "_law_some"] (defScope s__law_one) := ⟨rfl, rfl, rfl, by decide +kernel, rfl, by decide +kernel, by decide +kernel⟩
def d__law_one : He.DefD := ⟨("_law_one", none), "_law_one", "_law_one", defArgs s__law_one, defBody s__law_one, defScope s__law_one, [], []⟩
abbrev s__law_odd : Stmt := top 16
abbrev ps__law_odd : List Str := ["_law_well_here", "_law_at"]
abbrev ns__law_odd : List Str := ["_law_well_here", "_law_at", "_law_letters", "_law_most", "_law_some", "_law_k"]
theorem sc__law_odd : FnScope ["_law_well_here", "_law_at", "_law_letters", "_law_most", "_law_some", "_law_k"] ["_law_well_here", "_law_at"] (defScope s__law_odd) := ⟨rfl, rfl, rfl, by decide +kernel, rfl, by decide +kernel, by decide +kernel⟩
def d__law_odd : He.DefD := ⟨("_law_odd", none), "_law_odd", "_law_odd", defArgs s__law_odd, defBody s__law_odd, defScope s__law_odd, [], []⟩
abbrev s__law_said : Stmt := top 17
abbrev ps__law_said : List Str := ["_law_row"]
abbrev ns__law_said : List Str := ["_law_row", "_law_name", "_law_near", "_law_made", "_law_used", "_law_loose", "_law_soon", "_law_mine", "e"]
theorem sc__law_said : FnScope ["_law_row", "_law_name", "_law_near", "_law_made", "_law_used", "_law_loose", "_law_soon", "_law_mine", "e"] ["_law_row"] (defScope s__law_said) := ⟨rfl, rfl, rfl, by decide +kernel, rfl, by decide +kernel, by decide +kernel⟩
def d__law_said : He.DefD := ⟨("_law_said", none), "_law_said", "_law_said", defArgs s__law_said, defBody s__law_said, defScope s__law_said, [], []⟩
abbrev s_law : Stmt := top 18
abbrev ps_law : List Str := ["_law_script"]
abbrev ns_law : List Str := ["_law_script", "_law_words", "_law_cell", "_law_well_here", "_law_good", "_law_turn", "_law_row", "_law_bad", "_law_k", "_law_at"]
theorem sc_law : FnScope ["_law_script", "_law_words", "_law_cell", "_law_well_here", "_law_good", "_law_turn", "_law_row", "_law_bad", "_law_k", "_law_at"] ["_law_script"] (defScope s_law) := ⟨rfl, rfl, rfl, by decide +kernel, rfl, by decide +kernel, by decide +kernel⟩
def d_law : He.DefD := ⟨("law", none), "law", "law", defArgs s_law, defBody s_law, defScope s_law, [], []⟩
def fn : List He.DefD := [d_NoLibrary___init__, d_is_word, d_are_words, d_Library___init__, d_Library___eq__, d__law_cell_at, d__law_well, d__law_draw, d__law_one, d__law_odd, d__law_said, d_law]
def fa : List He.Fa := [.glo "LoadError", .glo "NoLibrary", .int "LONGEST" 12, .glo "is_word", .glo "are_words", .int "MOST_NEEDS" 12, .int "MOST_SYMBOLS" 20, .glo "Library", .glo "_law_cell_at", .glo "_law_well", .glo "_law_draw", .glo "_law_one", .glo "_law_odd", .glo "_law_said", .glo "law", .free "ValueError", .free "all", .free "bool", .free "int", .free "isinstance", .free "len", .free "list", .free "min", .free "range", .free "str", .free "tuple", .meth "NoLibrary" "__init__", .meth "Library" "__init__", .meth "Library" "__eq__", .cls "Library", .mkr "Library", .noat "Library" "name", .noat "Library" "needs", .noat "Library" "defines", .noat "Library" "uses", .noat "Library" "weak", .noat "Library" "eager", .noat "Library" "own_first", .noat "NoLibrary" "part", .exm "LoadError" "LoadError" true, .exm "LoadError" "NoLibrary" false, .exm "NoLibrary" "LoadError" true, .exm "NoLibrary" "NoLibrary" true]
def exB (K : PySem.W.Frag) : Bool :=
  (["LoadError", "NoLibrary"].all fun x => excB K (He.ga K x)) && ((["Library"].all fun x => ownB K (He.ga K x)) && ((["Library"].all fun x => ["Library"].all fun y => decide (PySem.W.kitOne K (.ref (He.ga K x)) (.ref (He.ga K y)) = some (decide (x = y)))) && (([kwAt ("Library", some "__init__") "needs", kwAt ("Library", some "__init__") "defines", kwAt ("Library", some "__init__") "uses", kwAt ("Library", some "__init__") "weak"].all fun p => emptyB K (p K)) && (([("LoadError", "LoadError", true), ("LoadError", "NoLibrary", false), ("NoLibrary", "LoadError", true), ("NoLibrary", "NoLibrary", true)].all fun p => decide (PySem.W.kitOne K (.ref (He.ga K p.1)) (.ref (He.ga K p.2.1)) = some p.2.2)) && ((["LoadError", "NoLibrary"].all fun x => decide (PySem.W.kitOne K (.ref (He.ga K x)) (.type "ValueError") = some true)))))))
/-- what the top says -/
structure Top (K : PySem.W.Frag) (mg : Str → Option Value) where
  fd_NoLibrary___init__ : FuncData
  F_NoLibrary___init__ : FunD K d_NoLibrary___init__.name d_NoLibrary___init__.qual (defArgs s_NoLibrary___init__) (defBody s_NoLibrary___init__) (defScope s_NoLibrary___init__) [] (d_NoLibrary___init__.kws K) (He.fAd K d_NoLibrary___init__.at_) fd_NoLibrary___init__
  fd_is_word : FuncData
  F_is_word : FunD K d_is_word.name d_is_word.qual (defArgs s_is_word) (defBody s_is_word) (defScope s_is_word) [] (d_is_word.kws K) (He.fAd K d_is_word.at_) fd_is_word
  fd_are_words : FuncData
  F_are_words : FunD K d_are_words.name d_are_words.qual (defArgs s_are_words) (defBody s_are_words) (defScope s_are_words) [] (d_are_words.kws K) (He.fAd K d_are_words.at_) fd_are_words
  fd_Library___init__ : FuncData
  F_Library___init__ : FunD K d_Library___init__.name d_Library___init__.qual (defArgs s_Library___init__) (defBody s_Library___init__) (defScope s_Library___init__) [] (d_Library___init__.kws K) (He.fAd K d_Library___init__.at_) fd_Library___init__
  fd_Library___eq__ : FuncData
  F_Library___eq__ : FunD K d_Library___eq__.name d_Library___eq__.qual (defArgs s_Library___eq__) (defBody s_Library___eq__) (defScope s_Library___eq__) [] (d_Library___eq__.kws K) (He.fAd K d_Library___eq__.at_) fd_Library___eq__
  fd__law_cell_at : FuncData
  F__law_cell_at : FunD K d__law_cell_at.name d__law_cell_at.qual (defArgs s__law_cell_at) (defBody s__law_cell_at) (defScope s__law_cell_at) [] (d__law_cell_at.kws K) (He.fAd K d__law_cell_at.at_) fd__law_cell_at
  fd__law_well : FuncData
  F__law_well : FunD K d__law_well.name d__law_well.qual (defArgs s__law_well) (defBody s__law_well) (defScope s__law_well) [] (d__law_well.kws K) (He.fAd K d__law_well.at_) fd__law_well
  fd__law_draw : FuncData
  F__law_draw : FunD K d__law_draw.name d__law_draw.qual (defArgs s__law_draw) (defBody s__law_draw) (defScope s__law_draw) [] (d__law_draw.kws K) (He.fAd K d__law_draw.at_) fd__law_draw
  fd__law_one : FuncData
  F__law_one : FunD K d__law_one.name d__law_one.qual (defArgs s__law_one) (defBody s__law_one) (defScope s__law_one) [] (d__law_one.kws K) (He.fAd K d__law_one.at_) fd__law_one
  fd__law_odd : FuncData
  F__law_odd : FunD K d__law_odd.name d__law_odd.qual (defArgs s__law_odd) (defBody s__law_odd) (defScope s__law_odd) [] (d__law_odd.kws K) (He.fAd K d__law_odd.at_) fd__law_odd
  fd__law_said : FuncData
  F__law_said : FunD K d__law_said.name d__law_said.qual (defArgs s__law_said) (defBody s__law_said) (defScope s__law_said) [] (d__law_said.kws K) (He.fAd K d__law_said.at_) fd__law_said
  fd_law : FuncData
  F_law : FunD K d_law.name d_law.qual (defArgs s_law) (defBody s_law) (defScope s_law) [] (d_law.kws K) (He.fAd K d_law.at_) fd_law
  g_LoadError : mg "LoadError" = some (.ref (He.ga K "LoadError"))
  g_NoLibrary : mg "NoLibrary" = some (.ref (He.ga K "NoLibrary"))
  i_LONGEST : ∃ t, mg "LONGEST" = some (.int 12 t)
  g_is_word : mg "is_word" = some (.ref (He.ga K "is_word"))
  g_are_words : mg "are_words" = some (.ref (He.ga K "are_words"))
  i_MOST_NEEDS : ∃ t, mg "MOST_NEEDS" = some (.int 12 t)
  i_MOST_SYMBOLS : ∃ t, mg "MOST_SYMBOLS" = some (.int 20 t)
  g_Library : mg "Library" = some (.ref (He.ga K "Library"))
  g__law_cell_at : mg "_law_cell_at" = some (.ref (He.ga K "_law_cell_at"))
  g__law_well : mg "_law_well" = some (.ref (He.ga K "_law_well"))
  g__law_draw : mg "_law_draw" = some (.ref (He.ga K "_law_draw"))
  g__law_one : mg "_law_one" = some (.ref (He.ga K "_law_one"))
  g__law_odd : mg "_law_odd" = some (.ref (He.ga K "_law_odd"))
  g__law_said : mg "_law_said" = some (.ref (He.ga K "_law_said"))
  g_law : mg "law" = some (.ref (He.ga K "law"))
  n_ValueError : mg "ValueError" = none
  n_all : mg "all" = none
  n_bool : mg "bool" = none
  n_int : mg "int" = none
  n_isinstance : mg "isinstance" = none
  n_len : mg "len" = none
  n_list : mg "list" = none
  n_min : mg "min" = none
  n_range : mg "range" = none
  n_str : mg "str" = none
  n_tuple : mg "tuple" = none
  m_NoLibrary___init__ : Meth K (He.ga K "NoLibrary") "__init__" (He.ma K (He.ga K "NoLibrary") "__init__")
  m_Library___init__ : Meth K (He.ga K "Library") "__init__" (He.ma K (He.ga K "Library") "__init__")
  m_Library___eq__ : Meth K (He.ga K "Library") "__eq__" (He.ma K (He.ga K "Library") "__eq__")
  c_Library : Cls K (He.ga K "Library")
  mk_Library : Mk K (He.ga K "Library") (He.ma K (He.ga K "Library") "__init__")
  na_Library_name : PySem.W.findIn K (.ref (He.ga K "Library")) "name" = some none
  na_Library_needs : PySem.W.findIn K (.ref (He.ga K "Library")) "needs" = some none
  na_Library_defines : PySem.W.findIn K (.ref (He.ga K "Library")) "defines" = some none
  na_Library_uses : PySem.W.findIn K (.ref (He.ga K "Library")) "uses" = some none
  na_Library_weak : PySem.W.findIn K (.ref (He.ga K "Library")) "weak" = some none
  na_Library_eager : PySem.W.findIn K (.ref (He.ga K "Library")) "eager" = some none
  na_Library_own_first : PySem.W.findIn K (.ref (He.ga K "Library")) "own_first" = some none
  na_NoLibrary_part : PySem.W.findIn K (.ref (He.ga K "NoLibrary")) "part" = some none
  exm_LoadError_LoadError : PySem.W.exmOne K (.ref (He.ga K "LoadError")) (.ref (He.ga K "LoadError")) = some true
  exm_LoadError_NoLibrary : PySem.W.exmOne K (.ref (He.ga K "LoadError")) (.ref (He.ga K "NoLibrary")) = some false
  exm_NoLibrary_LoadError : PySem.W.exmOne K (.ref (He.ga K "NoLibrary")) (.ref (He.ga K "LoadError")) = some true
  exm_NoLibrary_NoLibrary : PySem.W.exmOne K (.ref (He.ga K "NoLibrary")) (.ref (He.ga K "NoLibrary")) = some true
  e_LoadError : ExcK K (He.ga K "LoadError")
  kv_LoadError : PySem.W.kitOne K (.ref (He.ga K "LoadError")) (.type "ValueError") = some true
  e_NoLibrary : ExcK K (He.ga K "NoLibrary")
  kv_NoLibrary : PySem.W.kitOne K (.ref (He.ga K "NoLibrary")) (.type "ValueError") = some true
  o_Library : OwnK K (He.ga K "Library")
  k_Library_Library : PySem.W.kitOne K (.ref (He.ga K "Library")) (.ref (He.ga K "Library")) = some true
  kw_Library_needs : ∀ H, PT K H (kwAt ("Library", some "__init__") "needs" K) []
  kw_Library_defines : ∀ H, PT K H (kwAt ("Library", some "__init__") "defines" K) []
  kw_Library_uses : ∀ H, PT K H (kwAt ("Library", some "__init__") "uses" K) []
  kw_Library_weak : ∀ H, PT K H (kwAt ("Library", some "__init__") "weak" K) []
  ke_LoadError_LoadError : PySem.W.kitOne K (.ref (He.ga K "LoadError")) (.ref (He.ga K "LoadError")) = some true
  ke_LoadError_NoLibrary : PySem.W.kitOne K (.ref (He.ga K "LoadError")) (.ref (He.ga K "NoLibrary")) = some false
  ke_NoLibrary_LoadError : PySem.W.kitOne K (.ref (He.ga K "NoLibrary")) (.ref (He.ga K "LoadError")) = some true
  ke_NoLibrary_NoLibrary : PySem.W.kitOne K (.ref (He.ga K "NoLibrary")) (.ref (He.ga K "NoLibrary")) = some true
theorem top_ex {K : PySem.W.Frag} {h : Heap} {mg : Str → Option Value} (X : K.In h) (G : h.Ns mainGlobals mg) (c : He.SaysD fa fn K) (ex : exB K = true) : Nonempty (Top K mg) := by
  obtain ⟨x1, ex⟩ := and2 ex
  obtain ⟨x2, ex⟩ := and2 ex
  obtain ⟨x3, ex⟩ := and2 ex
  obtain ⟨x4, ex⟩ := and2 ex
  obtain ⟨x5, ex⟩ := and2 ex
  have x6 := ex
  obtain ⟨fd0, E0⟩ := c.def_ 0 (d := d_NoLibrary___init__) rfl
  obtain ⟨fd1, E1⟩ := c.def_ 1 (d := d_is_word) rfl
  obtain ⟨fd2, E2⟩ := c.def_ 2 (d := d_are_words) rfl
  obtain ⟨fd3, E3⟩ := c.def_ 3 (d := d_Library___init__) rfl
  obtain ⟨fd4, E4⟩ := c.def_ 4 (d := d_Library___eq__) rfl
  obtain ⟨fd5, E5⟩ := c.def_ 5 (d := d__law_cell_at) rfl
  obtain ⟨fd6, E6⟩ := c.def_ 6 (d := d__law_well) rfl
  obtain ⟨fd7, E7⟩ := c.def_ 7 (d := d__law_draw) rfl
  obtain ⟨fd8, E8⟩ := c.def_ 8 (d := d__law_one) rfl
  obtain ⟨fd9, E9⟩ := c.def_ 9 (d := d__law_odd) rfl
  obtain ⟨fd10, E10⟩ := c.def_ 10 (d := d__law_said) rfl
  obtain ⟨fd11, E11⟩ := c.def_ 11 (d := d_law) rfl
  exact ⟨{
    fd_NoLibrary___init__ := fd0
    F_NoLibrary___init__ := E0
    fd_is_word := fd1
    F_is_word := E1
    fd_are_words := fd2
    F_are_words := E2
    fd_Library___init__ := fd3
    F_Library___init__ := E3
    fd_Library___eq__ := fd4
    F_Library___eq__ := E4
    fd__law_cell_at := fd5
    F__law_cell_at := E5
    fd__law_well := fd6
    F__law_well := E6
    fd__law_draw := fd7
    F__law_draw := E7
    fd__law_one := fd8
    F__law_one := E8
    fd__law_odd := fd9
    F__law_odd := E9
    fd__law_said := fd10
    F__law_said := E10
    fd_law := fd11
    F_law := E11
    g_LoadError := He.glo_ok X G (c.fact 0 (f := .glo "LoadError") rfl)
    g_NoLibrary := He.glo_ok X G (c.fact 1 (f := .glo "NoLibrary") rfl)
    i_LONGEST := He.int_ok X G (c.fact 2 (f := .int "LONGEST" 12) rfl)
    g_is_word := He.glo_ok X G (c.fact 3 (f := .glo "is_word") rfl)
    g_are_words := He.glo_ok X G (c.fact 4 (f := .glo "are_words") rfl)
    i_MOST_NEEDS := He.int_ok X G (c.fact 5 (f := .int "MOST_NEEDS" 12) rfl)
    i_MOST_SYMBOLS := He.int_ok X G (c.fact 6 (f := .int "MOST_SYMBOLS" 20) rfl)
    g_Library := He.glo_ok X G (c.fact 7 (f := .glo "Library") rfl)
    g__law_cell_at := He.glo_ok X G (c.fact 8 (f := .glo "_law_cell_at") rfl)
    g__law_well := He.glo_ok X G (c.fact 9 (f := .glo "_law_well") rfl)
    g__law_draw := He.glo_ok X G (c.fact 10 (f := .glo "_law_draw") rfl)
    g__law_one := He.glo_ok X G (c.fact 11 (f := .glo "_law_one") rfl)
    g__law_odd := He.glo_ok X G (c.fact 12 (f := .glo "_law_odd") rfl)
    g__law_said := He.glo_ok X G (c.fact 13 (f := .glo "_law_said") rfl)
    g_law := He.glo_ok X G (c.fact 14 (f := .glo "law") rfl)
    n_ValueError := He.free_ok X G (c.fact 15 (f := .free "ValueError") rfl)
    n_all := He.free_ok X G (c.fact 16 (f := .free "all") rfl)
    n_bool := He.free_ok X G (c.fact 17 (f := .free "bool") rfl)
    n_int := He.free_ok X G (c.fact 18 (f := .free "int") rfl)
    n_isinstance := He.free_ok X G (c.fact 19 (f := .free "isinstance") rfl)
    n_len := He.free_ok X G (c.fact 20 (f := .free "len") rfl)
    n_list := He.free_ok X G (c.fact 21 (f := .free "list") rfl)
    n_min := He.free_ok X G (c.fact 22 (f := .free "min") rfl)
    n_range := He.free_ok X G (c.fact 23 (f := .free "range") rfl)
    n_str := He.free_ok X G (c.fact 24 (f := .free "str") rfl)
    n_tuple := He.free_ok X G (c.fact 25 (f := .free "tuple") rfl)
    m_NoLibrary___init__ := He.meth_ok (c.fact 26 (f := .meth "NoLibrary" "__init__") rfl)
    m_Library___init__ := He.meth_ok (c.fact 27 (f := .meth "Library" "__init__") rfl)
    m_Library___eq__ := He.meth_ok (c.fact 28 (f := .meth "Library" "__eq__") rfl)
    c_Library := He.cls_ok (c.fact 29 (f := .cls "Library") rfl)
    mk_Library := He.mkr_ok (c.fact 30 (f := .mkr "Library") rfl)
    na_Library_name := He.noat_ok (c.fact 31 (f := .noat "Library" "name") rfl)
    na_Library_needs := He.noat_ok (c.fact 32 (f := .noat "Library" "needs") rfl)
    na_Library_defines := He.noat_ok (c.fact 33 (f := .noat "Library" "defines") rfl)
    na_Library_uses := He.noat_ok (c.fact 34 (f := .noat "Library" "uses") rfl)
    na_Library_weak := He.noat_ok (c.fact 35 (f := .noat "Library" "weak") rfl)
    na_Library_eager := He.noat_ok (c.fact 36 (f := .noat "Library" "eager") rfl)
    na_Library_own_first := He.noat_ok (c.fact 37 (f := .noat "Library" "own_first") rfl)
    na_NoLibrary_part := He.noat_ok (c.fact 38 (f := .noat "NoLibrary" "part") rfl)
    exm_LoadError_LoadError := He.exm_ok (c.fact 39 (f := .exm "LoadError" "LoadError" true) rfl)
    exm_LoadError_NoLibrary := He.exm_ok (c.fact 40 (f := .exm "LoadError" "NoLibrary" false) rfl)
    exm_NoLibrary_LoadError := He.exm_ok (c.fact 41 (f := .exm "NoLibrary" "LoadError" true) rfl)
    exm_NoLibrary_NoLibrary := He.exm_ok (c.fact 42 (f := .exm "NoLibrary" "NoLibrary" true) rfl)
    e_LoadError := excB_ok (List.all_eq_true.mp x1 "LoadError" (by simp))
    kv_LoadError := of_decide_eq_true (List.all_eq_true.mp x6 "LoadError" (by simp))
    e_NoLibrary := excB_ok (List.all_eq_true.mp x1 "NoLibrary" (by simp))
    kv_NoLibrary := of_decide_eq_true (List.all_eq_true.mp x6 "NoLibrary" (by simp))
    o_Library := ownB_ok (List.all_eq_true.mp x2 "Library" (by simp))
    k_Library_Library := of_decide_eq_true (List.all_eq_true.mp (List.all_eq_true.mp x3 "Library" (by simp)) "Library" (by simp))
    kw_Library_needs := fun H => emptyB_pt (List.all_eq_true.mp x4 (kwAt ("Library", some "__init__") "needs") (by simp)) H
    kw_Library_defines := fun H => emptyB_pt (List.all_eq_true.mp x4 (kwAt ("Library", some "__init__") "defines") (by simp)) H
    kw_Library_uses := fun H => emptyB_pt (List.all_eq_true.mp x4 (kwAt ("Library", some "__init__") "uses") (by simp)) H
    kw_Library_weak := fun H => emptyB_pt (List.all_eq_true.mp x4 (kwAt ("Library", some "__init__") "weak") (by simp)) H
    ke_LoadError_LoadError := of_decide_eq_true (List.all_eq_true.mp x5 ("LoadError", "LoadError", true) (by simp))
    ke_LoadError_NoLibrary := of_decide_eq_true (List.all_eq_true.mp x5 ("LoadError", "NoLibrary", false) (by simp))
    ke_NoLibrary_LoadError := of_decide_eq_true (List.all_eq_true.mp x5 ("NoLibrary", "LoadError", true) (by simp))
    ke_NoLibrary_NoLibrary := of_decide_eq_true (List.all_eq_true.mp x5 ("NoLibrary", "NoLibrary", true) (by simp))
  }⟩
theorem b_NoLibrary___init__ {K : PySem.W.Frag} {mg : Str → Option Value} (T : Top K mg) : Binds K T.fd_NoLibrary___init__ ps_NoLibrary___init__ [] := T.F_NoLibrary___init__.bindsN fun _ _ _ _ _ _ us hl => match us, hl with | [_, _], _ => rfl
theorem b_is_word {K : PySem.W.Frag} {mg : Str → Option Value} (T : Top K mg) : Binds K T.fd_is_word ps_is_word [] := T.F_is_word.bindsN fun _ _ _ _ _ _ us hl => match us, hl with | [_], _ => rfl
theorem b_are_words {K : PySem.W.Frag} {mg : Str → Option Value} (T : Top K mg) : Binds K T.fd_are_words ps_are_words [] := T.F_are_words.bindsN fun _ _ _ _ _ _ us hl => match us, hl with | [_, _], _ => rfl
theorem b_Library___eq__ {K : PySem.W.Frag} {mg : Str → Option Value} (T : Top K mg) : Binds K T.fd_Library___eq__ ps_Library___eq__ [] := T.F_Library___eq__.bindsN fun _ _ _ _ _ _ us hl => match us, hl with | [_, _], _ => rfl
theorem b__law_cell_at {K : PySem.W.Frag} {mg : Str → Option Value} (T : Top K mg) : Binds K T.fd__law_cell_at ps__law_cell_at [] := T.F__law_cell_at.bindsN fun _ _ _ _ _ _ us hl => match us, hl with | [_, _], _ => rfl
theorem b__law_well {K : PySem.W.Frag} {mg : Str → Option Value} (T : Top K mg) : Binds K T.fd__law_well ps__law_well [] := T.F__law_well.bindsN fun _ _ _ _ _ _ us hl => match us, hl with | [_], _ => rfl
theorem b__law_draw {K : PySem.W.Frag} {mg : Str → Option Value} (T : Top K mg) : Binds K T.fd__law_draw ps__law_draw [] := T.F__law_draw.bindsN fun _ _ _ _ _ _ us hl => match us, hl with | [_, _], _ => rfl
theorem b__law_one {K : PySem.W.Frag} {mg : Str → Option Value} (T : Top K mg) : Binds K T.fd__law_one ps__law_one [] := T.F__law_one.bindsN fun _ _ _ _ _ _ us hl => match us, hl with | [_, _], _ => rfl
theorem b__law_odd {K : PySem.W.Frag} {mg : Str → Option Value} (T : Top K mg) : Binds K T.fd__law_odd ps__law_odd [] := T.F__law_odd.bindsN fun _ _ _ _ _ _ us hl => match us, hl with | [_, _], _ => rfl
theorem b__law_said {K : PySem.W.Frag} {mg : Str → Option Value} (T : Top K mg) : Binds K T.fd__law_said ps__law_said [] := T.F__law_said.bindsN fun _ _ _ _ _ _ us hl => match us, hl with | [_], _ => rfl
theorem b_law {K : PySem.W.Frag} {mg : Str → Option Value} (T : Top K mg) : Binds K T.fd_law ps_law [] := T.F_law.bindsN fun _ _ _ _ _ _ us hl => match us, hl with | [_], _ => rfl
end Sb


set_option Elab.async false
set_option linter.all false
set_option maxRecDepth 100000
set_option maxHeartbeats 8000000
namespace Sb
open PySem L2
local macro_rules | `(tactic| walk_at "nrm") => `(tactic| try dsimp only [L2.start, List.map, List.length_cons, List.length_nil, List.cons_append, List.nil_append, List.replicate, Nat.reduceAdd, Nat.reduceSub, List.set_cons_zero, List.set_cons_succ, wipe])
/-! ### the draws: a well, one draw, one of a list -/
def spDraw : Sp := fun vs H Q _ => ∃ (F : Hp) (L : List (Addr × HO)) (w : Addr) (o : HO) (n : Nat) (m : Int), vs = [.ref w, .int m] ∧ Sta F ((w, o) :: L) H ∧ Well n o ∧ n < 1000000 ∧ 0 < m ∧ m < 1000000 ∧
  ∀ (o' : HO) (d : Int) (H' : Hp), Well (n + 1) o' → 0 ≤ d → d < m → Sta F ((w, o') :: L) H' → Q (.int d) H'
def spWell : Sp := fun vs H Q _ => ∃ (F : Hp) (L : List (Addr × HO)) (x : Int), vs = [.int x] ∧ Sta F L H ∧
  ∀ (p : Addr) (o : HO) (H' : Hp), Well 0 o → Sta F ((p, o) :: L) H' → Q (.ref p) H'
def spOne (K : PySem.W.Frag) : Sp := fun vs H Q _ => ∃ (F : Hp) (L : List (Addr × HO)) (w p : Addr) (o : HO) (n : Nat) (xs : List V), vs = [.ref w, .ref p] ∧ Sta F ((w, o) :: L) H ∧ Well n o ∧ n < 999999 ∧ SqL K F p xs ∧ 0 < xs.length ∧ xs.length < 1000 ∧
  ∀ (x : V) (o' : HO) (H' : Hp), x ∈ xs → Well (n + 1) o' → Sta F ((w, o') :: L) H' → Q x H'
section
variable {P : Program} {w : World} {K : PySem.W.Frag} {mg : Str → Option Value} {base : Heap}
theorem ok_draw (T : Top K mg) : FnOk P w K mg base CX0 1 (He.ga K "_law_draw") T.fd__law_draw ps__law_draw spDraw := by
  refine T.F__law_draw.ok sc__law_draw (fun vs H Q E h => ?_) (fun cdv A outer s H vs Q E hr h => ?_)
  · obtain ⟨F, L, w, o, n, m, rfl, _⟩ := h
    rfl
  · obtain ⟨F, L, w, o, n, m, rfl, S, ⟨a, b, c, rfl, b0, b1, c0, c1⟩, hn, m0, m1, k⟩ := h
    refine ⟨_, PSs.nox (pss_cons (ps_if (pt_cmpR op_gt (pe_ix ix_list (pv 0) pe_int (fun _ _ => rfl)) pe_int (nomark _))
        (pss_cons (ps_set (i := 2) sc__law_draw.nd rfl (Or.inl rfl) (pe_op op_modN (pe_ix ix_list (pv 0) pe_int (fun _ _ => rfl)) (pv 1)))
          (pss_cons (ps_asg (pe_op op_fdivN (pe_ix ix_list (pv 0) pe_int (fun _ _ => rfl)) (pv 1)) (pg_sub (pv 0) pe_int set_list))
          (pss_one (ps_ret (pv 2))))) pss_nil)
      (pss_cons (ps_asg (pe_op op_add (pe_ix ix_list (pv 0) pe_int (fun _ _ => rfl)) pe_int) (pg_sub (pv 0) pe_int set_list))
      (pss_cons (ps_set (i := 3) sc__law_draw.nd rfl (Or.inl rfl) (pe_ix ix_list (pe_lst (pa_cons pe_int (pa_cons pe_int (pa_cons pe_int (pa_cons pe_int (pa_cons pe_int (pa_cons pe_int (pa_cons pe_int pa_nil))))))))
          (pe_op op_modN (pe_ix ix_list (pv 0) pe_int (fun _ _ => rfl)) pe_int) (fun _ _ => rfl)))
      (pss_cons (ps_set (i := 4) sc__law_draw.nd rfl (Or.inl rfl) (pe_op op_modN (pe_op op_pow (pe_op op_add (pe_op op_add (pe_ix ix_list (pv 0) pe_int (fun _ _ => rfl)) (pe_op op_mul pe_int (pe_ix ix_list (pv 0) pe_int (fun _ _ => rfl)))) pe_int) pe_int) (pv 3)))
      (pss_cons (ps_set (i := 4) sc__law_draw.nd rfl (Or.inl rfl) (pe_op op_modN (pe_op op_mul (pe_op op_add (pv 4) (pe_ix ix_list (pv 0) pe_int (fun _ _ => rfl))) (pe_op op_add (pe_op op_fdivN (pv 4) pe_int) pe_int)) (pv 3)))
      (pss_one (ps_ret (pe_op op_modN (pe_op op_fdivN (pv 4) pe_int) (pv 1))))))))), ?_⟩
    refine ⟨_, rfl, w, _, _, _, rfl, rfl, sq S.hd, rfl, _, _, rfl, rfl, _, rfl, ?_⟩
    refine ite2 (fun h0 => ?_) (fun h0 => ?_)
    · refine ⟨_, rfl, w, _, _, _, rfl, rfl, sq S.hd, rfl, _, rfl, _, _, rfl, rfl, (by omega), ?_⟩
      refine ⟨_, rfl, w, _, _, _, rfl, rfl, sq S.hd, rfl, _, rfl, _, _, rfl, rfl, (by constructor <;> omega), ?_⟩
      refine ⟨_, rfl, w, _, _, 0, rfl, rfl, S.hd, rfl, ?_⟩
      refine ⟨_, rfl, ?_⟩
      obtain ⟨d0, d1⟩ := fmodP (x := a) m0
      exact k _ _ _ ⟨_, b, c, rfl, b0, b1, c0, by omega⟩ d0 d1 (S.set _)
    · refine ⟨_, rfl, w, _, _, _, rfl, rfl, sq S.hd, rfl, _, _, rfl, rfl, ?_⟩
      refine ⟨_, rfl, w, _, _, 2, rfl, rfl, S.hd, rfl, ?_⟩
      have S1 := S.set (.lst [.int a, .int b, .int (c + 1)])
      obtain ⟨i0, i1⟩ := fmodP (x := c + 1) (m := 7) (by decide)
      refine ⟨(by show 7 ≤ sizeLine; decide), fun p hp => ?_⟩
      have S2 := S1.newX hp (.lst [.int 2147483647, .int 2147483629, .int 2147483587, .int 2147483579, .int 2147483563, .int 2147483549, .int 2147483543])
      have pr : ∃ q : Int, atI [V.int 2147483647, .int 2147483629, .int 2147483587, .int 2147483579, .int 2147483563, .int 2147483549, .int 2147483543] ((c + 1).fmod 7) = some (.int q) ∧ 0 < q ∧ q ≤ 2147483647 := by
        generalize (c + 1).fmod 7 = i at i0 i1
        obtain rfl | rfl | rfl | rfl | rfl | rfl | rfl : i = 0 ∨ i = 1 ∨ i = 2 ∨ i = 3 ∨ i = 4 ∨ i = 5 ∨ i = 6 := by omega
        all_goals exact ⟨_, rfl, by decide, by decide⟩
      obtain ⟨q, hq, q0, q1⟩ := pr
      refine ⟨_, rfl, w, _, _, _, rfl, rfl, sq S2.hd, rfl, _, _, rfl, rfl, (by show (7 : Int) ≠ 0; decide), ?_⟩
      refine ⟨p, _, _, _, rfl, rfl, sq upd_same, hq, ?_⟩
      refine ⟨_, rfl, w, _, _, _, rfl, rfl, sq S2.hd, rfl, _, rfl, w, _, _, _, rfl, rfl, sq S2.hd, rfl, _, _, rfl, rfl, (by left; decide), ?_⟩
      refine ⟨_, _, rfl, rfl, _, _, rfl, rfl, _, _, rfl, rfl, ⟨by decide, by decide, by show (b + 7919 * (c + 1) + 1).natAbs < 2 ^ 64; omega⟩, ?_⟩
      refine ⟨_, rfl, _, _, rfl, rfl, (by omega), ?_⟩
      generalize (b + 7919 * (c + 1) + 1) ^ (5 : Int).toNat = z
      obtain ⟨z0, z1⟩ := fmodP (x := z) q0
      refine ⟨_, rfl, _, rfl, w, _, _, _, rfl, rfl, sq S2.hd, rfl, _, _, rfl, rfl, ?_⟩
      refine ⟨_, rfl, _, _, rfl, rfl, (by constructor <;> decide), _, _, rfl, rfl, _, _, rfl, rfl, (by left; constructor <;> omega), ?_⟩
      refine ⟨_, rfl, _, _, rfl, rfl, (by omega), ?_⟩
      refine ⟨_, rfl, _, _, rfl, rfl, (by constructor <;> decide), _, rfl, _, _, rfl, rfl, (by omega), ?_⟩
      refine k _ _ _ ⟨a, b, c + 1, rfl, b0, b1, by omega, by omega⟩ (fmodP m0).1 (fmodP m0).2 S2
theorem ok_well (T : Top K mg) : FnOk P w K mg base CX0 1 (He.ga K "_law_well") T.fd__law_well ps__law_well spWell := by
  refine T.F__law_well.ok sc__law_well (fun vs H Q E h => ?_) (fun cdv A outer s H vs Q E hr h => ?_)
  · obtain ⟨F, L, x, rfl, _⟩ := h
    rfl
  · obtain ⟨F, L, x, rfl, S, k⟩ := h
    refine ⟨_, PSs.nox (pss_one (ps_ret (pe_lst (pa_cons (pe_op op_mul (pv 0) (pe_callTy call_int1 (by rfl) T.n_int PyProof.Rows.boot_int (pa_cons (pe_cmpR op_ge (pv 0) (pe_op op_pow pe_int pe_int) (nomark _)) pa_nil)))
      (pa_cons (pe_op op_modN (pv 0) pe_int) (pa_cons pe_int pa_nil)))))), ?_⟩
    refine ⟨_, rfl, _, rfl, _, _, rfl, rfl, ⟨by decide, by decide, by decide⟩, _, _, rfl, rfl, .inr ⟨_, rfl, ?_⟩⟩
    refine ⟨_, _, rfl, rfl, .inr (by split <;> decide), ?_⟩
    refine ⟨_, rfl, _, _, rfl, rfl, (by show (2147483647 : Int) ≠ 0; decide), ?_⟩
    refine ⟨by show 3 ≤ sizeLine; decide, fun p hp => ?_⟩
    obtain ⟨h0, h1⟩ := fmodP (x := x) (m := 2147483647) (by decide)
    exact k p _ _ ⟨_, _, _, rfl, h0, h1, by decide, by decide⟩ (S.newL hp _)
theorem ok_one (T : Top K mg) : FnOk P w K mg base CX0 2 (He.ga K "_law_one") T.fd__law_one ps__law_one (spOne K) := by
  refine T.F__law_one.ok sc__law_one (fun vs H Q E h => ?_) (fun cdv A outer s H vs Q E hr h => ?_)
  · obtain ⟨F, L, w, p, o, n, xs, rfl, _⟩ := h
    rfl
  · obtain ⟨F, L, w, p, o, n, xs, rfl, S, W, hn, hp, x0, x1, k⟩ := h
    refine ⟨_, PSs.nox (pss_one (ps_ret (pe_ix ix_list (pv 1) (pe_call (ok_draw T) hr rfl T.g__law_draw T.F__law_draw.kp (b__law_draw T) .nil pass0 (pa_cons (pv 0) (pa_cons (pe_callB call_len (by rfl) T.n_len PySem.boot_len (pa_cons (pv 1) pa_nil)) pa_nil))) (fun _ _ => rfl)))), ?_⟩
    refine ⟨_, rfl, _, rfl, _, rfl, _, xs.length, rfl, .inl ⟨_, S.sqL hp, rfl⟩, ?_⟩
    refine ⟨F, L, w, o, n, _, rfl, S, W, by omega, by omega, by omega, fun o' d H' W' d0 d1 S' => ?_⟩
    obtain ⟨x, hx, ha⟩ := atI_in (xs := xs) d0 d1
    exact ⟨p, xs, d, x, rfl, rfl, S'.sqL hp, ha, k x o' H' hx W' S'⟩
end
end Sb


set_option Elab.async false
set_option linter.all false
set_option maxRecDepth 100000
set_option maxHeartbeats 8000000
namespace Sb
open PySem L2
local macro_rules | `(tactic| walk_at "nrm") => `(tactic| try dsimp only [L2.start, List.map, List.length_cons, List.length_nil, List.cons_append, List.nil_append, List.replicate, Nat.reduceAdd, Nat.reduceSub, List.set_cons_zero, List.set_cons_succ, wipe])
/-! ### is_word, are_words -/
def letB (c : Nat) : Bool := !decide ([c] < ("a" : Str).cps.toList) && !decide (("z" : Str).cps.toList < [c])
def wordB (z : Str) : Bool := decide (1 ≤ z.length) && decide (z.length ≤ 12) && z.cps.toList.all letB
def isW : V → Bool
  | .str z => wordB z
  | _ => false
/-- a thing that is_word may be asked about -/
def WT (K : PySem.W.Frag) (F : Hp) (x : V) : Prop := ∃ (t : Value) (b : Bool), TyX K F x t ∧ PySem.W.kitOne K t (.type "str") = some b ∧ (b = true → ∃ z : Str, x = .str z ∧ z.length ≤ 100000) ∧ (b = false → isW x = false)
theorem WT.up {K : PySem.W.Frag} {F F' : Hp} {x : V} (h : WT K F x) (g : Gr F F') : WT K F' x := by
  obtain ⟨t, b, h1, h2⟩ := h
  exact ⟨t, b, g.tyX h1, h2⟩
theorem WT.str {K : PySem.W.Frag} {F : Hp} {z : Str} (h : z.length ≤ 100000) : WT K F (.str z) := ⟨_, true, .base (.str z), kit_ty (by decide +kernel), fun _ => ⟨z, rfl, h⟩, fun e => by cases e⟩
def spIsWord (K : PySem.W.Frag) : Sp := fun vs H Q _ => ∃ (F : Hp) (L : List (Addr × HO)) (x : V), vs = [x] ∧ Sta F L H ∧ WT K F x ∧ ∀ H', Sta F L H' → Q (.bl (isW x)) H'
theorem all_map (f : Nat → Bool) (l : List Nat) : (l.map f).all id = l.all f := by rw [List.all_map]; rfl
section
variable {P : Program} {w : World} {K : PySem.W.Frag} {mg : Str → Option Value} {base : Heap}
theorem ok_is_word (T : Top K mg) : FnOk P w K mg base CX0 1 (He.ga K "is_word") T.fd_is_word ps_is_word (spIsWord K) := by
  obtain ⟨tL, hL⟩ := T.i_LONGEST
  refine T.F_is_word.ok sc_is_word (fun vs H Q E h => ?_) (fun cdv A outer s H vs Q E hr h => ?_)
  · obtain ⟨F, L, x, rfl, _⟩ := h
    rfl
  · obtain ⟨F, L, x, rfl, S, ⟨t, b, hty, hk, hb1, hb0⟩, k⟩ := h
    refine ⟨_, PSs.nox (pss_cons (ps_if (PW.pt (pw_or (pt_not (pt_val (pe_callB call_isi (by rfl) T.n_isinstance (by decide +kernel) (pa_cons (pv 0) (pa_cons (pe_bltn (v := .ty "str") (by rfl) T.n_str (by decide +kernel) rfl) pa_nil)))))
        (pw_or1 (pt_not (pt_chain op_le op_le pe_int (pe_callB call_len (by rfl) T.n_len PySem.boot_len (pa_cons (pv 0) pa_nil)) (pe_glob (v := .int 12) rfl hL ⟨_, rfl⟩)))))) (pss_one (ps_ret pe_bl)) pss_nil)
      (pss_one (ps_ret (pe_callB (cr_all rfl) (by rfl) T.n_all (by decide +kernel) (pa_cons (pe_lc (own := [("letter", 1)]) (g := gName 1) rfl sc_is_word.nd (pi_str (pv 0))
        (blkOk_by (N := ["thing", "letter"]) (sc := defScope s_is_word) (by decide +kernel)) (fun _ _ _ _ _ => pg_name (i := 1) sc_is_word.nd rfl (Or.inl rfl)) (fun _ _ _ _ _ => pts_nil) (fun _ _ _ _ _ => pe_chain op_le_str op_le_str pe_str (pv 1) pe_str)) pa_nil))))), ?_⟩
    walk_at "nrm"
    refine ⟨_, rfl, x, _, t, _, b, rfl, .ty _, Gr.tyX S.fr hty, hk, _, rfl, ?_⟩
    cases b with
    | false =>
      have e := hb0 rfl
      have q := k H S
      rw [e] at q
      exact q
    | true =>
      obtain ⟨z, rfl, hz⟩ := hb1 rfl
      refine iteF ?_
      refine ⟨_, rfl, _, z.length, rfl, ⟨sz hz, rfl⟩, _, _, rfl, rfl, _, rfl, ?_⟩
      have e1 : decide ((1 : Int) ≤ (z.length : Int)) = decide (1 ≤ z.length) := by congr 1; exact propext ⟨fun h => by omega, fun h => by omega⟩
      have e2 : decide ((z.length : Int) ≤ 12) = decide (z.length ≤ 12) := by congr 1; exact propext ⟨fun h => by omega, fun h => by omega⟩
      have qF : (decide (1 ≤ z.length) && decide (z.length ≤ 12)) = false → Q (.bl false) H := fun e => by
        have q := k H S
        have e' : isW (.str z) = false := by
          show (decide (1 ≤ z.length) && decide (z.length ≤ 12) && z.cps.toList.all letB) = false
          rw [e]
          rfl
        rw [e'] at q
        exact q
      rw [e1]
      by_cases h1 : 1 ≤ z.length
      · rw [decide_eq_true h1]
        refine ⟨_, _, rfl, rfl, ?_⟩
        refine ⟨_, congrArg V.bl e2, ?_⟩
        by_cases h2 : z.length ≤ 12
        · rw [decide_eq_true h2]
          refine iteF ?_
          refine ⟨_, rfl, z, rfl, fun D hD => ?_⟩
          have hn : z.cps.size = z.cps.toList.length := by simp
          refine lc_it walk_str (fun i H' => Sta F ((D, .lst ((z.cps.toList.take i).map fun c => V.bl (letB c))) :: L) H') (by
            rw [List.take_zero]
            exact S.newL hD (.lst [])) (fun _ _ _ _ => True.intro) ?_ ?_
          · rintro i y H1 H2 hi S1 ⟨rfl, c, hc, rfl⟩
            refine ⟨rfl, ?_⟩
            walk_at "nrm"
            have hcl : z.cps.toList[i]? = some c := by simpa using hc
            have et : (z.cps.toList.take (i + 1)).map (fun c => V.bl (letB c)) = (z.cps.toList.take i).map (fun c => V.bl (letB c)) ++ [V.bl (letB c)] := by
              rw [List.take_add_one, hcl, List.map_append]
              rfl
            have hlen : ((z.cps.toList.take i).map fun c => V.bl (letB c)).length < sizeLine := by
              rw [List.length_map, List.length_take]
              have : z.cps.toList.length ≤ 12 := by rw [← hn]; exact h2
              exact szl (by omega)
            have nx : ∀ v : Bool, v = letB c → Sta F ((D, .lst ((z.cps.toList.take (i + 1)).map fun c => V.bl (letB c))) :: L) (upd H2 D (.lst ((z.cps.toList.take i).map (fun c => V.bl (letB c)) ++ [V.bl v]))) := fun v e => by
              rw [e, et]
              exact S1.set _
            refine ⟨_, rfl, _, _, rfl, rfl, _, rfl, ?_⟩
            refine ite2 (fun hx => ?_) (fun hx => ?_)
            · refine ⟨_, _, rfl, rfl, _, S1.hd, hlen, nx _ ?_⟩
              unfold letB
              rw [show (!decide ([c] < ("a" : Str).cps.toList)) = true from hx, Bool.true_and]
            · refine ⟨_, S1.hd, hlen, nx _ ?_⟩
              unfold letB
              rw [show (!decide ([c] < ("a" : Str).cps.toList)) = false from Bool.eq_false_iff.mpr hx, Bool.false_and]
          · intro H1 S1
            rw [hn, List.take_length] at S1
            refine ⟨D, z.cps.toList.map letB, rfl, ?_, ?_⟩
            · have e : (z.cps.toList.map letB).map V.bl = z.cps.toList.map fun c => V.bl (letB c) := by rw [List.map_map]; rfl
              rw [e]
              exact sq S1.hd
            · have q := k H1 S1.tl
              have e' : isW (.str z) = (z.cps.toList.map letB).all id := by
                show (decide (1 ≤ z.length) && decide (z.length ≤ 12) && z.cps.toList.all letB) = _
                rw [decide_eq_true h1, decide_eq_true h2, all_map]
                rfl
              rw [e'] at q
              exact q
        · rw [decide_eq_false h2]
          exact qF (by rw [decide_eq_false h2, Bool.and_false])
      · rw [decide_eq_false h1]
        refine iteF ?_
        refine ⟨_, rfl, ?_⟩
        exact qF (by rw [decide_eq_false h1, Bool.false_and])
/-- a tuple's items, words or not; as many as there may be; none twice -/
def areW (xs : List V) (m : Int) : Bool := decide ((xs.length : Int) ≤ m) && (xs.all isW && xs.all fun x => decide (xs.count x = 1))
/-- a thing that are_words may be asked about, and the answer -/
def AW (K : PySem.W.Frag) (F : Hp) (x : V) (m : Int) (r : Bool) : Prop := ∃ (t : Value) (b : Bool), TyX K F x t ∧ PySem.W.kitOne K t (.type "tuple") = some b ∧
  (b = false → r = false) ∧ (b = true → ∃ a xs, x = .ref a ∧ PT K F a xs ∧ xs.length ≤ 1000 ∧ (∀ y ∈ xs, WT K F y) ∧ r = areW xs m)
theorem AW.up {K : PySem.W.Frag} {F F' : Hp} {x : V} {m : Int} {r : Bool} (h : AW K F x m r) (g : Gr F F') : AW K F' x m r := by
  obtain ⟨t, b, h1, h2, h3, h4⟩ := h
  refine ⟨t, b, g.tyX h1, h2, h3, fun e => ?_⟩
  obtain ⟨a, xs, q1, q2, q3, q4, q5⟩ := h4 e
  exact ⟨a, xs, q1, q2.up g, q3, fun y hy => (q4 y hy).up g, q5⟩
def spAreWords (K : PySem.W.Frag) : Sp := fun vs H Q _ => ∃ (F : Hp) (L : List (Addr × HO)) (x : V) (m : Int) (r : Bool), vs = [x, .int m] ∧ Sta F L H ∧ AW K F x m r ∧ ∀ H', Sta F L H' → Q (.bl r) H'
theorem words_strs {xs : List V} (h : xs.all isW = true) : ∃ ws : List Str, xs = ws.map V.str := by
  induction xs with
  | nil => exact ⟨[], rfl⟩
  | cons x xs ih =>
    rw [List.all_cons, Bool.and_eq_true] at h
    obtain ⟨ws, rfl⟩ := ih h.2
    cases x with
    | str z => exact ⟨z :: ws, rfl⟩
    | _ => exact absurd h.1 (by simp [isW])
theorem count_str (z : Str) : ∀ (ws : List Str), (ws.map V.str).count (.str z) = ws.count z
  | [] => rfl
  | x :: ws => by
    rw [List.map_cons, List.count_cons, List.count_cons, count_str z ws]
    have e : (V.str x == V.str z) = (x == z) := by
      by_cases q : x = z
      · subst q; simp
      · have h1 : (x == z) = false := by simpa using q
        have h2 : (V.str x == V.str z) = false := by simpa using q
        rw [h1, h2]
    rw [e]
theorem take_map_all {α : Type} (f : α → Bool) (xs : List α) : (xs.map f).all id = xs.all f := by rw [List.all_map]; rfl
theorem ok_are_words (T : Top K mg) : FnOk P w K mg base CX0 2 (He.ga K "are_words") T.fd_are_words ps_are_words (spAreWords K) := by
  refine T.F_are_words.ok sc_are_words (fun vs H Q E h => ?_) (fun cdv A outer s H vs Q E hr h => ?_)
  · obtain ⟨F, L, x, m, r, rfl, _⟩ := h
    rfl
  · obtain ⟨F, L, x, m, r, rfl, S, ⟨t, b, hty, hk, hb0, hb1⟩, k⟩ := h
    refine ⟨_, PSs.nox (pss_cons (ps_if (PW.pt (pw_or (pt_not (pt_val (pe_callB call_isi (by rfl) T.n_isinstance (by decide +kernel) (pa_cons (pv 0) (pa_cons (pe_bltn (v := .ty "tuple") (by rfl) T.n_tuple (by decide +kernel) rfl) pa_nil)))))
        (pw_or1 (pt_cmpR op_gt (pe_callB call_len (by rfl) T.n_len PySem.boot_len (pa_cons (pv 0) pa_nil)) (pv 1) (nomark _))))) (pss_one (ps_ret pe_bl)) pss_nil)
      (pss_cons (ps_if (pt_not (pt_val (pe_callB (cr_all rfl) (by rfl) T.n_all (by decide +kernel) (pa_cons (pe_lc (own := [("item", 2)]) (g := gName 2) rfl sc_are_words.nd (pi_tup (pv 0))
        (blkOk_by (N := ["thing", "most", "item", "word"]) (sc := defScope s_are_words) (by decide +kernel)) (fun _ _ _ _ _ => pg_name (i := 2) sc_are_words.nd rfl (Or.inl rfl)) (fun _ _ _ _ _ => pts_nil)
        (fun _ _ _ _ _ => pe_call (ok_is_word T) (hr.mono (by decide)) rfl T.g_is_word T.F_is_word.kp (b_is_word T) .nil pass0 (pa_cons (pv 2) pa_nil))) pa_nil)))) (pss_one (ps_ret pe_bl)) pss_nil)
      (pss_one (ps_ret (pe_callB (cr_all rfl) (by rfl) T.n_all (by decide +kernel) (pa_cons (pe_lc (own := [("word", 3)]) (g := gName 3) (te := tOp rEq (tBMP K (rTCount K) (tVar 0) (tCons (tVar 3) tNil)) (tC (.int 1))) rfl sc_are_words.nd (pi_tup (pv 0))
        (blkOk_by (N := ["thing", "most", "item", "word"]) (sc := defScope s_are_words) (by decide +kernel)) (fun _ _ _ _ _ => pg_name (i := 3) sc_are_words.nd rfl (Or.inl rfl)) (fun _ _ _ _ _ => pts_nil)
        (fun _ _ _ _ _ => pe_cmpR op_eq (pe_bmP PySem.F.plainAttrs_tuple PySem.F.slot_tuple_count PySem.F.type_tuple_count (mt_tcount (by exact room65 hr)) (pv 0) (pa_cons (pv 3) pa_nil)) pe_int (nomark _))) pa_nil)))))), ?_⟩
    walk_at "nrm"
    refine ⟨_, rfl, x, _, t, _, b, rfl, .ty _, Gr.tyX S.fr hty, hk, _, rfl, ?_⟩
    cases b with
    | false =>
      have q := k H S
      rw [hb0 rfl] at q
      exact q
    | true =>
      obtain ⟨a, xs, rfl, hx, hl, hw, hr1⟩ := hb1 rfl
      refine iteF ?_
      refine ⟨_, rfl, _, xs.length, rfl, .inr ⟨_, (hx.at S).sqT, rfl⟩, _, rfl, _, _, rfl, rfl, _, rfl, ?_⟩
      refine ite2 (fun h0 => ?_) (fun h0 => ?_)
      · have q := k H S
        have h1 : m < (xs.length : Int) := of_decide_eq_true h0
        have e : r = false := by rw [hr1]; unfold areW; rw [decide_eq_false (by omega)]; rfl
        rw [e] at q
        exact q
      · have h1 : ¬ m < (xs.length : Int) := fun z => h0 (decide_eq_true z)
        walk_at "nrm"
        refine ⟨_, rfl, a, rfl, ⟨_, (hx.at S).sqT⟩, fun D hD => ?_⟩
        refine lc_tup (xs := xs) (fun i H' => Sta F ((D, .lst ((xs.take i).map fun y => V.bl (isW y))) :: L) H') (S.newL hD (.lst [])) (fun i H' _ S' => (hx.at S').sqT) ?_ ?_
        · intro i y H1 hy S1
          refine ⟨rfl, ?_⟩
          walk_at "nrm"
          have hi : i < xs.length := (List.getElem?_eq_some_iff.mp hy).1
          refine ⟨_, rfl, F, _, y, rfl, S1, hw y (List.mem_of_getElem? hy), fun H2 S2 => ⟨_, S2.hd, ?_, ?_⟩⟩
          · rw [List.length_map, List.length_take]
            exact szl (by omega)
          · have et : (xs.take (i + 1)).map (fun y => V.bl (isW y)) = (xs.take i).map (fun y => V.bl (isW y)) ++ [V.bl (isW y)] := by
              rw [List.take_add_one, hy, List.map_append]
              rfl
            rw [et]
            exact S2.set _
        · intro H1 S1
          rw [List.take_length] at S1
          have em : (xs.map isW).map V.bl = xs.map fun y => V.bl (isW y) := by rw [List.map_map]; rfl
          refine ⟨D, xs.map isW, rfl, by rw [em]; exact sq S1.hd, _, rfl, ?_⟩
          have e0 : (xs.map isW).all id = xs.all isW := take_map_all _ _
          rw [e0]
          cases hall : xs.all isW with
          | false =>
            have q := k H1 S1.tl
            have e : r = false := by rw [hr1]; unfold areW; rw [hall, Bool.false_and, Bool.and_false]
            rw [e] at q
            exact q
          | true =>
            refine iteF ?_
            obtain ⟨ws, hws⟩ := words_strs hall
            have S2 := S1.tl
            walk_at "nrm"
            refine ⟨_, rfl, a, rfl, ⟨_, (hx.at S2).sqT⟩, fun D2 hD2 => ?_⟩
            refine lc_tup (xs := xs) (fun i H' => Sta F ((D2, .lst ((xs.take i).map fun y => V.bl (decide (xs.count y = 1)))) :: L) H') (S2.newL hD2 (.lst [])) (fun i H' _ S' => (hx.at S').sqT) ?_ ?_
            · intro i y H3 hy S3
              refine ⟨rfl, ?_⟩
              walk_at "nrm"
              have hi : i < xs.length := (List.getElem?_eq_some_iff.mp hy).1
              obtain ⟨z, hz, rfl⟩ : ∃ z, z ∈ ws ∧ V.str z = y := by
                have hm := List.mem_of_getElem? hy
                rw [hws] at hm
                exact List.mem_map.mp hm
              refine ⟨_, rfl, ⟨a, xs, rfl, hx.at S3⟩, _, rfl, a, z, ws, rfl, rfl, by rw [← hws]; exact (hx.at S3).sqT, rfl, _, S3.hd, ?_, ?_⟩
              · rw [List.length_map, List.length_take]
                exact szl (by omega)
              · have ec : decide (V.int ((ws.count z : Nat) : Int) = V.int 1) = decide (xs.count (.str z) = 1) := by
                  rw [hws, count_str]
                  congr 1
                  rw [V.int.injEq]
                  exact propext ⟨fun h => by omega, fun h => by omega⟩
                have et : (xs.take (i + 1)).map (fun y => V.bl (decide (xs.count y = 1))) = (xs.take i).map (fun y => V.bl (decide (xs.count y = 1))) ++ [V.bl (decide (xs.count (.str z) = 1))] := by
                  rw [List.take_add_one, hy, List.map_append]
                  rfl
                rw [et, ← ec]
                exact S3.set _
            · intro H3 S3
              rw [List.take_length] at S3
              have em2 : (xs.map fun y => decide (xs.count y = 1)).map V.bl = xs.map fun y => V.bl (decide (xs.count y = 1)) := by rw [List.map_map]; rfl
              refine ⟨D2, xs.map fun y => decide (xs.count y = 1), rfl, by rw [em2]; exact sq S3.hd, ?_⟩
              have q := k H3 S3.tl
              have e : r = (xs.map fun y => decide (xs.count y = 1)).all id := by
                rw [hr1, take_map_all]
                unfold areW
                rw [hall, Bool.true_and, decide_eq_true (by omega), Bool.true_and]
              rw [e] at q
              exact q
end
end Sb


set_option Elab.async false
set_option linter.all false
set_option maxRecDepth 100000
set_option maxHeartbeats 8000000
namespace Sb
open PySem L2
local macro_rules | `(tactic| walk_at "nrm") => `(tactic| try dsimp only [L2.start, List.map, List.length_cons, List.length_nil, List.cons_append, List.nil_append, List.replicate, Nat.reduceAdd, Nat.reduceSub, List.set_cons_zero, List.set_cons_succ, wipe])
/-! ### Library -/
structure Lib where
  name : Str
  needs : List Str
  defs : List Str
  uses : List Str
  weak : List Str
  eager : Bool
  own : Bool
  deriving DecidableEq
abbrev sv (ws : List Str) : List V := ws.map V.str
def Lib.ok (l : Lib) : Bool := wordB l.name && (areW (sv l.needs) 12 && (!decide (l.name ∈ l.needs) && (areW (sv l.defs) 20 && (areW (sv l.uses) 20 && (areW (sv l.weak) 20 && (l.weak.all fun z => decide (z ∈ l.uses)))))))
abbrev libC (K : PySem.W.Frag) : Addr := He.ga K "Library"
def libFs (l : Lib) (a1 a2 a3 a4 : Addr) : List (Str × V) := [("name", .str l.name), ("needs", .ref a1), ("defines", .ref a2), ("uses", .ref a3), ("weak", .ref a4), ("eager", .bl l.eager), ("own_first", .bl l.own)]
/-- at a: the library l -/
structure LibAt (K : PySem.W.Frag) (F : Hp) (a : Addr) (l : Lib) : Prop where
  ok : l.ok = true
  at_ : ∃ dx a1 a2 a3 a4, F a = some (.ins (libC K) dx (libFs l a1 a2 a3 a4)) ∧ PT K F a1 (sv l.needs) ∧ PT K F a2 (sv l.defs) ∧ PT K F a3 (sv l.uses) ∧ PT K F a4 (sv l.weak)
theorem LibAt.up {K : PySem.W.Frag} {F F' : Hp} {a : Addr} {l : Lib} (h : LibAt K F a l) (g : Gr F F') : LibAt K F' a l := by
  obtain ⟨h0, dx, a1, a2, a3, a4, h1, h2, h3, h4, h5⟩ := h
  exact ⟨h0, dx, a1, a2, a3, a4, g _ _ h1, h2.up g, h3.up g, h4.up g, h5.up g⟩
theorem words_wt {K : PySem.W.Frag} {F : Hp} {ws : List Str} {m : Int} (h : areW (sv ws) m = true) : ∀ y ∈ sv ws, WT K F y := by
  intro y hy
  obtain ⟨z, hz, rfl⟩ := List.mem_map.mp hy
  unfold areW at h
  obtain ⟨_, h⟩ := and2 h
  obtain ⟨h, _⟩ := and2 h
  have hw : wordB z = true := List.all_eq_true.mp h _ hy
  unfold wordB at hw
  obtain ⟨hw, _⟩ := and2 hw
  obtain ⟨_, hw⟩ := and2 hw
  exact WT.str (by have := of_decide_eq_true hw; omega)
theorem aw_of {K : PySem.W.Frag} {F : Hp} {a : Addr} {ws : List Str} {m : Int} (hp : PT K F a (sv ws)) (h : areW (sv ws) m = true) (hm : m ≤ 1000) : AW K F (.ref a) m true := by
  refine ⟨_, true, ty_tup hp.sqT, kit_ty (by decide +kernel), (fun e => by cases e), fun _ => ⟨a, _, rfl, hp, ?_, words_wt h, h.symm⟩⟩
  unfold areW at h
  obtain ⟨h, _⟩ := and2 h
  have := of_decide_eq_true h
  omega
theorem wt_name {K : PySem.W.Frag} {F : Hp} {z : Str} (h : wordB z = true) : WT K F (.str z) := by
  unfold wordB at h
  obtain ⟨h, _⟩ := and2 h
  obtain ⟨_, h⟩ := and2 h
  exact WT.str (by have := of_decide_eq_true h; omega)
/-- Library.__init__ of valid values -/
def spLibInit (K : PySem.W.Frag) : Sp := fun vs H Q _ => ∃ (F : Hp) (L : List (Addr × HO)) (p dx a1 a2 a3 a4 : Addr) (l : Lib), vs = [.ref p, .str l.name, .ref a1, .ref a2, .ref a3, .ref a4, .bl l.eager, .bl l.own] ∧
  Sta F ((p, .ins (libC K) dx []) :: L) H ∧ l.ok = true ∧ PT K F a1 (sv l.needs) ∧ PT K F a2 (sv l.defs) ∧ PT K F a3 (sv l.uses) ∧ PT K F a4 (sv l.weak) ∧
  ∀ (F' H' : Hp), Gr F F' → LibAt K F' p l → Sta F' L H' → Q .non H'
section
variable {P : Program} {w : World} {K : PySem.W.Frag} {mg : Str → Option Value} {base : Heap}
theorem ok_lib_init (T : Top K mg) : FnOk P w K mg base CX0 3 (He.ma K (He.ga K "Library") "__init__") T.fd_Library___init__ ps_Library___init__ (spLibInit K) := by
  obtain ⟨t1, h12⟩ := T.i_MOST_NEEDS
  obtain ⟨t2, h20⟩ := T.i_MOST_SYMBOLS
  refine T.F_Library___init__.ok sc_Library___init__ (fun vs H Q E h => ?_) (fun cdv A outer s H vs Q E hr h => ?_)
  · obtain ⟨F, L, p, dx, a1, a2, a3, a4, l, rfl, _⟩ := h
    rfl
  · obtain ⟨F, L, p, dx, a1, a2, a3, a4, l, rfl, S, hok, p1, p2, p3, p4, k⟩ := h
    refine ⟨_, PSs.nox
      (pss_cons (ps_if (pt_not (pt_val (pe_call (ok_is_word T) (hr.mono (by decide)) rfl T.g_is_word T.F_is_word.kp (b_is_word T) .nil pass0 (pa_cons (pv 1) pa_nil)))) (pss_one ps_never) pss_nil)
      (pss_cons (ps_if (PW.pt (pw_or (pt_not (pt_val (pe_call (ok_are_words T) (hr.mono (by decide)) rfl T.g_are_words T.F_are_words.kp (b_are_words T) .nil pass0 (pa_cons (pv 2) (pa_cons (pe_glob (v := .int 12) rfl h12 ⟨_, rfl⟩) pa_nil))))) (pw_or1 (pt_cmpR op_in_seq (pv 1) (pv 2) (by rfl))))) (pss_one ps_never) pss_nil)
      (pss_cons (ps_if (pt_not (pt_val (pe_call (ok_are_words T) (hr.mono (by decide)) rfl T.g_are_words T.F_are_words.kp (b_are_words T) .nil pass0 (pa_cons (pv 3) (pa_cons (pe_glob (v := .int 20) rfl h20 ⟨_, rfl⟩) pa_nil))))) (pss_one ps_never) pss_nil)
      (pss_cons (ps_if (pt_not (pt_val (pe_call (ok_are_words T) (hr.mono (by decide)) rfl T.g_are_words T.F_are_words.kp (b_are_words T) .nil pass0 (pa_cons (pv 4) (pa_cons (pe_glob (v := .int 20) rfl h20 ⟨_, rfl⟩) pa_nil))))) (pss_one ps_never) pss_nil)
      (pss_cons (ps_if (PW.pt (pw_or (pt_not (pt_val (pe_call (ok_are_words T) (hr.mono (by decide)) rfl T.g_are_words T.F_are_words.kp (b_are_words T) .nil pass0 (pa_cons (pv 5) (pa_cons (pe_glob (v := .int 20) rfl h20 ⟨_, rfl⟩) pa_nil)))))
        (pw_or1 (pt_not (pt_val (pe_callB (cr_all rfl) (by rfl) T.n_all (by decide +kernel) (pa_cons (pe_lc (own := [("symbol", 8)]) (g := gName 8) (te := tOp (rIn K false) (tVar 8) (tVar 4)) rfl sc_Library___init__.nd (pi_tup (pv 5))
          (blkOk_by (N := ["self", "name", "needs", "defines", "uses", "weak", "eager", "own_first", "symbol"]) (sc := defScope s_Library___init__) (by decide +kernel)) (fun _ _ _ _ _ => pg_name (i := 8) sc_Library___init__.nd rfl (Or.inl rfl)) (fun _ _ _ _ _ => pts_nil)
          (fun _ _ _ _ _ => pe_cmpR op_in_seq (pv 8) (pv 4) (by rfl))) pa_nil))))))) (pss_one ps_never) pss_nil)
      (pss_cons (ps_if (pt_not (pt_val (pe_callB call_isi (by rfl) T.n_isinstance (by decide +kernel) (pa_cons (pv 6) (pa_cons (pe_bltn (v := .ty "bool") (by rfl) T.n_bool (by decide +kernel) rfl) pa_nil))))) (pss_one ps_never) pss_nil)
      (pss_cons (ps_if (pt_not (pt_val (pe_callB call_isi (by rfl) T.n_isinstance (by decide +kernel) (pa_cons (pv 7) (pa_cons (pe_bltn (v := .ty "bool") (by rfl) T.n_bool (by decide +kernel) rfl) pa_nil))))) (pss_one ps_never) pss_nil)
      (pss_cons (ps_fld (pv 0) (pv 1) rfl) (pss_cons (ps_fld (pv 0) (pv 2) rfl) (pss_cons (ps_fld (pv 0) (pv 3) rfl) (pss_cons (ps_fld (pv 0) (pv 4) rfl) (pss_cons (ps_fld (pv 0) (pv 5) rfl) (pss_cons (ps_fld (pv 0) (pv 6) rfl) (pss_one (ps_fld (pv 0) (pv 7) rfl))))))))))))))), ?_⟩
    have hok0 := hok
    unfold Lib.ok at hok
    obtain ⟨w1, hok⟩ := and2 hok
    obtain ⟨w2, hok⟩ := and2 hok
    obtain ⟨w3, hok⟩ := and2 hok
    obtain ⟨w4, hok⟩ := and2 hok
    obtain ⟨w5, hok⟩ := and2 hok
    obtain ⟨w6, w7⟩ := and2 hok
    walk_at "nrm"
    refine ⟨_, rfl, F, _, _, rfl, S, wt_name w1, fun H1 S1 => ⟨_, rfl, ?_⟩⟩
    have e1 : isW (.str l.name) = true := w1
    rw [e1]
    refine iteF ?_
    refine ⟨_, rfl, F, _, _, _, _, rfl, S1, aw_of p1 w2 (by decide), fun H2 S2 => ⟨_, rfl, ?_⟩⟩
    refine iteF ?_
    refine ⟨_, rfl, _, rfl, a1, _, rfl, .inr (p1.at S2).sqT, rfl, flat_strs _, _, rfl, ?_⟩
    rw [inV_strs]
    have e3 : decide (l.name ∈ l.needs) = false := by simpa using w3
    rw [e3]
    refine iteF ?_
    refine ⟨_, rfl, F, _, _, _, _, rfl, S2, aw_of p2 w4 (by decide), fun H3 S3 => ⟨_, rfl, ?_⟩⟩
    refine iteF ?_
    refine ⟨_, rfl, F, _, _, _, _, rfl, S3, aw_of p3 w5 (by decide), fun H4 S4 => ⟨_, rfl, ?_⟩⟩
    refine iteF ?_
    refine ⟨_, rfl, F, _, _, _, _, rfl, S4, aw_of p4 w6 (by decide), fun H5 S5 => ⟨_, rfl, ?_⟩⟩
    refine iteF ?_
    walk_at "nrm"
    refine ⟨_, rfl, a4, rfl, ⟨_, (p4.at S5).sqT⟩, fun D hD => ?_⟩
    refine lc_tup (xs := sv l.weak) (fun i H' => Sta F ((D, .lst ((l.weak.take i).map fun z => V.bl (decide (z ∈ l.uses)))) :: (p, .ins (libC K) dx []) :: L) H') (S5.newL hD (.lst [])) (fun i H' _ S' => (p4.at S').sqT) ?_ ?_
    · intro i y H6 hy S6
      refine ⟨rfl, ?_⟩
      walk_at "nrm"
      obtain ⟨z, hz, rfl⟩ : ∃ z, l.weak[i]? = some z ∧ V.str z = y := by
        have hm : (l.weak.map V.str)[i]? = some y := hy
        rw [List.getElem?_map] at hm
        cases e : l.weak[i]? with
        | none => rw [e] at hm; cases hm
        | some z => rw [e] at hm; exact ⟨z, rfl, Option.some.inj hm⟩
      have hw : l.weak.length ≤ 20 := by
        unfold areW at w6
        obtain ⟨q, _⟩ := and2 w6
        have := of_decide_eq_true q
        rw [List.length_map] at this
        omega
      refine ⟨_, rfl, _, rfl, a3, _, rfl, .inr (p3.at S6).sqT, rfl, flat_strs _, _, S6.hd, ?_, ?_⟩
      · rw [List.length_map, List.length_take]
        exact szl (by omega)
      · rw [inV_strs]
        have et : (l.weak.take (i + 1)).map (fun z => V.bl (decide (z ∈ l.uses))) = (l.weak.take i).map (fun z => V.bl (decide (z ∈ l.uses))) ++ [V.bl (decide (z ∈ l.uses))] := by
          rw [List.take_add_one, hz, List.map_append]
          rfl
        rw [et]
        exact S6.set _
    · intro H6 S6
      rw [show (sv l.weak).length = l.weak.length from List.length_map .., List.take_length] at S6
      have em : (l.weak.map fun z => decide (z ∈ l.uses)).map V.bl = l.weak.map fun z => V.bl (decide (z ∈ l.uses)) := by rw [List.map_map]; rfl
      refine ⟨D, l.weak.map fun z => decide (z ∈ l.uses), rfl, by rw [em]; exact sq S6.hd, _, rfl, ?_⟩
      rw [take_map_all, w7]
      refine iteF ?_
      have S7 := S6.tl
      walk_at "nrm"
      refine ⟨_, rfl, _, _, _, _, true, rfl, .ty _, .base (.bl _), kit_ty (by decide +kernel), _, rfl, ?_⟩
      refine iteF ?_
      refine ⟨_, rfl, _, _, _, _, true, rfl, .ty _, .base (.bl _), kit_ty (by decide +kernel), _, rfl, ?_⟩
      refine iteF ?_
      refine ⟨_, rfl, _, rfl, p, _, dx, _, rfl, S7.hd, T.c_Library, T.na_Library_name, by show 0 < 1000; decide, ?_⟩
      have e0 : putF "name" (.str l.name) [] = ([("name", .str l.name)] : List (Str × V)) := by
        rw [putF_k [] rfl (by decide +kernel)]
        rfl
      rw [e0]
      have S8 := S7.set (.ins (libC K) dx ([("name", .str l.name)] : List (Str × V)))
      generalize upd _ p _ = H8 at S8 ⊢
      refine ⟨_, rfl, _, rfl, p, _, dx, _, rfl, S8.hd, T.c_Library, T.na_Library_needs, by show 1 < 1000; decide, ?_⟩
      have e1 : putF "needs" (.ref a1) ([("name", .str l.name)] : List (Str × V)) = ([("name", .str l.name), ("needs", .ref a1)] : List (Str × V)) := by
        rw [putF_k ["name"] rfl (by decide +kernel)]
        rfl
      rw [e1]
      have S9 := S8.set (.ins (libC K) dx ([("name", .str l.name), ("needs", .ref a1)] : List (Str × V)))
      generalize upd _ p _ = H9 at S9 ⊢
      refine ⟨_, rfl, _, rfl, p, _, dx, _, rfl, S9.hd, T.c_Library, T.na_Library_defines, by show 2 < 1000; decide, ?_⟩
      have e2 : putF "defines" (.ref a2) ([("name", .str l.name), ("needs", .ref a1)] : List (Str × V)) = ([("name", .str l.name), ("needs", .ref a1), ("defines", .ref a2)] : List (Str × V)) := by
        rw [putF_k ["name", "needs"] rfl (by decide +kernel)]
        rfl
      rw [e2]
      have S10 := S9.set (.ins (libC K) dx ([("name", .str l.name), ("needs", .ref a1), ("defines", .ref a2)] : List (Str × V)))
      generalize upd _ p _ = H10 at S10 ⊢
      refine ⟨_, rfl, _, rfl, p, _, dx, _, rfl, S10.hd, T.c_Library, T.na_Library_uses, by show 3 < 1000; decide, ?_⟩
      have e3 : putF "uses" (.ref a3) ([("name", .str l.name), ("needs", .ref a1), ("defines", .ref a2)] : List (Str × V)) = ([("name", .str l.name), ("needs", .ref a1), ("defines", .ref a2), ("uses", .ref a3)] : List (Str × V)) := by
        rw [putF_k ["name", "needs", "defines"] rfl (by decide +kernel)]
        rfl
      rw [e3]
      have S11 := S10.set (.ins (libC K) dx ([("name", .str l.name), ("needs", .ref a1), ("defines", .ref a2), ("uses", .ref a3)] : List (Str × V)))
      generalize upd _ p _ = H11 at S11 ⊢
      refine ⟨_, rfl, _, rfl, p, _, dx, _, rfl, S11.hd, T.c_Library, T.na_Library_weak, by show 4 < 1000; decide, ?_⟩
      have e4 : putF "weak" (.ref a4) ([("name", .str l.name), ("needs", .ref a1), ("defines", .ref a2), ("uses", .ref a3)] : List (Str × V)) = ([("name", .str l.name), ("needs", .ref a1), ("defines", .ref a2), ("uses", .ref a3), ("weak", .ref a4)] : List (Str × V)) := by
        rw [putF_k ["name", "needs", "defines", "uses"] rfl (by decide +kernel)]
        rfl
      rw [e4]
      have S12 := S11.set (.ins (libC K) dx ([("name", .str l.name), ("needs", .ref a1), ("defines", .ref a2), ("uses", .ref a3), ("weak", .ref a4)] : List (Str × V)))
      generalize upd _ p _ = H12 at S12 ⊢
      refine ⟨_, rfl, _, rfl, p, _, dx, _, rfl, S12.hd, T.c_Library, T.na_Library_eager, by show 5 < 1000; decide, ?_⟩
      have e5 : putF "eager" (.bl l.eager) ([("name", .str l.name), ("needs", .ref a1), ("defines", .ref a2), ("uses", .ref a3), ("weak", .ref a4)] : List (Str × V)) = ([("name", .str l.name), ("needs", .ref a1), ("defines", .ref a2), ("uses", .ref a3), ("weak", .ref a4), ("eager", .bl l.eager)] : List (Str × V)) := by
        rw [putF_k ["name", "needs", "defines", "uses", "weak"] rfl (by decide +kernel)]
        rfl
      rw [e5]
      have S13 := S12.set (.ins (libC K) dx ([("name", .str l.name), ("needs", .ref a1), ("defines", .ref a2), ("uses", .ref a3), ("weak", .ref a4), ("eager", .bl l.eager)] : List (Str × V)))
      generalize upd _ p _ = H13 at S13 ⊢
      refine ⟨_, rfl, _, rfl, p, _, dx, _, rfl, S13.hd, T.c_Library, T.na_Library_own_first, by show 6 < 1000; decide, ?_⟩
      have e6 : putF "own_first" (.bl l.own) ([("name", .str l.name), ("needs", .ref a1), ("defines", .ref a2), ("uses", .ref a3), ("weak", .ref a4), ("eager", .bl l.eager)] : List (Str × V)) = ([("name", .str l.name), ("needs", .ref a1), ("defines", .ref a2), ("uses", .ref a3), ("weak", .ref a4), ("eager", .bl l.eager), ("own_first", .bl l.own)] : List (Str × V)) := by
        rw [putF_k ["name", "needs", "defines", "uses", "weak", "eager"] rfl (by decide +kernel)]
        rfl
      rw [e6]
      have S14 := S13.set (.ins (libC K) dx ([("name", .str l.name), ("needs", .ref a1), ("defines", .ref a2), ("uses", .ref a3), ("weak", .ref a4), ("eager", .bl l.eager), ("own_first", .bl l.own)] : List (Str × V)))
      generalize upd _ p _ = H14 at S14 ⊢
      obtain ⟨F', S15, g, hp⟩ := S14.frz
      exact k F' _ g ⟨hok0, dx, a1, a2, a3, a4, hp.1, p1.up g, p2.up g, p3.up g, p4.up g⟩ S15
end
end Sb


set_option Elab.async false
set_option linter.all false
set_option maxRecDepth 100000
set_option maxHeartbeats 8000000
namespace Sb
open PySem L2
local macro_rules | `(tactic| walk_at "nrm") => `(tactic| try dsimp only [L2.start, List.map, List.length_cons, List.length_nil, List.cons_append, List.nil_append, List.replicate, Nat.reduceAdd, Nat.reduceSub, List.set_cons_zero, List.set_cons_succ, wipe])
/-! ### Library.__init__ of any values: it keeps them, or raises NoLibrary -/
def BT (K : PySem.W.Frag) (F : Hp) (x : V) (r : Bool) : Prop := ∃ t : Value, TyX K F x t ∧ PySem.W.kitOne K t (.type "bool") = some r
theorem BT.up {K : PySem.W.Frag} {F F' : Hp} {x : V} {r : Bool} (h : BT K F x r) (g : Gr F F') : BT K F' x r := by
  obtain ⟨t, h1, h2⟩ := h
  exact ⟨t, g.tyX h1, h2⟩
/-- the first part that is not as it must be -/
def flt (b0 b1 e1 b2 b3 b4 e4 b5 b6 : Bool) : Option Str := if b0 = false then some "name" else if b1 = false then some "needs" else if e1 = true then some "needs" else if b2 = false then some "defines" else if b3 = false then some "uses" else
  if b4 = false then some "weak" else if e4 = false then some "weak" else if b5 = false then some "eager" else if b6 = false then some "own_first" else none
def libFx (y0 y1 y2 y3 y4 y5 y6 : V) : List (Str × V) := [("name", y0), ("needs", y1), ("defines", y2), ("uses", y3), ("weak", y4), ("eager", y5), ("own_first", y6)]
def LibIn (K : PySem.W.Frag) (F : Hp) (y0 y1 y2 y3 y4 y5 y6 : V) (fl : Option Str) : Prop := ∃ b1 e1 b2 b3 b4 e4 b5 b6 : Bool, WT K F y0 ∧ AW K F y1 12 b1 ∧
  (isW y0 = true → b1 = true → ∃ a xs, y1 = .ref a ∧ PT K F a xs ∧ flatV y0 = true ∧ xs.all flatV = true ∧ inV y0 xs = e1) ∧ AW K F y2 20 b2 ∧ AW K F y3 20 b3 ∧ AW K F y4 20 b4 ∧
  (b3 = true → b4 = true → ∃ a3 xs3 a4 xs4, y3 = .ref a3 ∧ PT K F a3 xs3 ∧ xs3.all flatV = true ∧ y4 = .ref a4 ∧ PT K F a4 xs4 ∧ xs4.all flatV = true ∧ xs4.length ≤ 1000 ∧ (xs4.all fun z => inV z xs3) = e4) ∧
  BT K F y5 b5 ∧ BT K F y6 b6 ∧ fl = flt (isW y0) b1 e1 b2 b3 b4 e4 b5 b6
def spLibMk (K : PySem.W.Frag) : Sp := fun vs H Q E => ∃ (F : Hp) (L : List (Addr × HO)) (p dx : Addr) (y0 y1 y2 y3 y4 y5 y6 : V) (fl : Option Str), vs = [.ref p, y0, y1, y2, y3, y4, y5, y6] ∧
  Sta F ((p, .ins (libC K) dx []) :: L) H ∧ LibIn K F y0 y1 y2 y3 y4 y5 y6 fl ∧
  (fl = none → ∀ F' H', Gr F F' → F' p = some (.ins (libC K) dx (libFx y0 y1 y2 y3 y4 y5 y6)) → Sta F' L H' → Q .non H') ∧
  (∀ s, fl = some s → ∀ d F' H', Gr F F' → F' d = some (.xd [("part", .str s)]) → Sta F' L H' → E (.ref (He.ga K "NoLibrary")) (some d) H')
section
variable {P : Program} {w : World} {K : PySem.W.Frag} {mg : Str → Option Value} {base : Heap}
theorem ok_NoLibrary_init (T : Top K mg) : FnOk P w K mg base CX0 1 (He.ma K (He.ga K "NoLibrary") "__init__") T.fd_NoLibrary___init__ ps_NoLibrary___init__ (spIni K "part") := by
  refine T.F_NoLibrary___init__.ok sc_NoLibrary___init__ (fun vs H Q E h => ?_) (fun cdv A outer s H vs Q E hr h => ?_)
  · obtain ⟨a, C, y, rfl, _⟩ := h
    rfl
  · obtain ⟨a, C, y, rfl, T, hn, ha, k⟩ := h
    exact ⟨_, PSs.nox (pss_one (ps_ost (pv 0) (pv 1))), _, rfl, _, rfl, a, C, rfl, T, hn, .inl ⟨ha, fun dx h1 h2 => k dx h1 h2⟩⟩
set_option maxHeartbeats 16000000 in
theorem ok_lib_mk (T : Top K mg) : FnOk P w K mg base (L2.CX P w) 3 (He.ma K (He.ga K "Library") "__init__") T.fd_Library___init__ ps_Library___init__ (spLibMk K) := by
  obtain ⟨t1, h12⟩ := T.i_MOST_NEEDS
  obtain ⟨t2, h20⟩ := T.i_MOST_SYMBOLS
  refine T.F_Library___init__.ok sc_Library___init__ (fun vs H Q E h => ?_) (fun cdv A outer s H vs Q E hr h => ?_)
  · obtain ⟨F, L, p, dx, y0, y1, y2, y3, y4, y5, y6, fl, rfl, _⟩ := h
    rfl
  · obtain ⟨F, L, p, dx, y0, y1, y2, y3, y4, y5, y6, fl, rfl, S, ⟨b1, e1, b2, b3, b4, e4, b5, b6, hw0, hw1, he1, hw2, hw3, hw4, he4, hb5, hb6, hfl⟩, k1, k2⟩ := h
    refine ⟨_, (pss_cons ((ps_if (pt_not (pt_val (pe_call (ok_is_word T) (hr.mono (by decide)) rfl T.g_is_word T.F_is_word.kp (b_is_word T) .nil pass0 (pa_cons (pv 1) pa_nil)))) (pss_one ((ps_raise rfl (takes_of rfl rfl rfl rfl) (pmk_oex T.e_NoLibrary.ox T.m_NoLibrary___init__.at_ (beq_iff_eq.mp T.m_NoLibrary___init__.fn) (ok_NoLibrary_init T) (hr.mono (by decide)) (b_NoLibrary___init__ T) .nil pass0 rfl T.g_NoLibrary (pa_cons pe_str pa_nil))))) pss_nil))
      (pss_cons ((ps_if ((PW.pt (pw_or (pt_not (pt_val (pe_call (ok_are_words T) (hr.mono (by decide)) rfl T.g_are_words T.F_are_words.kp (b_are_words T) .nil pass0 (pa_cons (pv 2) (pa_cons (pe_glob (v := .int 12) rfl h12 ⟨_, rfl⟩) pa_nil))))) (pw_or1 (pt_cmpR op_in_seq (pv 1) (pv 2) (by rfl)))))) (pss_one ((ps_raise rfl (takes_of rfl rfl rfl rfl) (pmk_oex T.e_NoLibrary.ox T.m_NoLibrary___init__.at_ (beq_iff_eq.mp T.m_NoLibrary___init__.fn) (ok_NoLibrary_init T) (hr.mono (by decide)) (b_NoLibrary___init__ T) .nil pass0 rfl T.g_NoLibrary (pa_cons pe_str pa_nil))))) pss_nil))
      (pss_cons ((ps_if (pt_not (pt_val (pe_call (ok_are_words T) (hr.mono (by decide)) rfl T.g_are_words T.F_are_words.kp (b_are_words T) .nil pass0 (pa_cons (pv 3) (pa_cons (pe_glob (v := .int 20) rfl h20 ⟨_, rfl⟩) pa_nil))))) (pss_one ((ps_raise rfl (takes_of rfl rfl rfl rfl) (pmk_oex T.e_NoLibrary.ox T.m_NoLibrary___init__.at_ (beq_iff_eq.mp T.m_NoLibrary___init__.fn) (ok_NoLibrary_init T) (hr.mono (by decide)) (b_NoLibrary___init__ T) .nil pass0 rfl T.g_NoLibrary (pa_cons pe_str pa_nil))))) pss_nil))
      (pss_cons ((ps_if (pt_not (pt_val (pe_call (ok_are_words T) (hr.mono (by decide)) rfl T.g_are_words T.F_are_words.kp (b_are_words T) .nil pass0 (pa_cons (pv 4) (pa_cons (pe_glob (v := .int 20) rfl h20 ⟨_, rfl⟩) pa_nil))))) (pss_one ((ps_raise rfl (takes_of rfl rfl rfl rfl) (pmk_oex T.e_NoLibrary.ox T.m_NoLibrary___init__.at_ (beq_iff_eq.mp T.m_NoLibrary___init__.fn) (ok_NoLibrary_init T) (hr.mono (by decide)) (b_NoLibrary___init__ T) .nil pass0 rfl T.g_NoLibrary (pa_cons pe_str pa_nil))))) pss_nil))
      (pss_cons ((ps_if ((PW.pt (pw_or (pt_not (pt_val (pe_call (ok_are_words T) (hr.mono (by decide)) rfl T.g_are_words T.F_are_words.kp (b_are_words T) .nil pass0 (pa_cons (pv 5) (pa_cons (pe_glob (v := .int 20) rfl h20 ⟨_, rfl⟩) pa_nil))))) (pw_or1 (pt_not (pt_val (pe_callB (cr_all rfl) (by rfl) T.n_all (by decide +kernel) (pa_cons (pe_lc (own := [("symbol", 8)]) (g := gName 8) (te := tOp (rIn K false) (tVar 8) (tVar 4)) rfl sc_Library___init__.nd (pi_tup (pv 5))
            (blkOk_by (N := ns_Library___init__) (sc := defScope s_Library___init__) (by decide +kernel)) (fun _ _ _ _ _ => (pg_name (i := 8) sc_Library___init__.nd rfl (Or.inl rfl))) (fun _ _ _ _ _ => pts_nil) (fun _ _ _ _ _ => pe_cmpR op_in_seq (pv 8) (pv 4) (by rfl))) pa_nil)))))))) (pss_one ((ps_raise rfl (takes_of rfl rfl rfl rfl) (pmk_oex T.e_NoLibrary.ox T.m_NoLibrary___init__.at_ (beq_iff_eq.mp T.m_NoLibrary___init__.fn) (ok_NoLibrary_init T) (hr.mono (by decide)) (b_NoLibrary___init__ T) .nil pass0 rfl T.g_NoLibrary (pa_cons pe_str pa_nil))))) pss_nil))
      (pss_cons ((ps_if (pt_not (pt_val (pe_callB call_isi (by rfl) T.n_isinstance (by decide +kernel) (pa_cons (pv 6) (pa_cons (pe_bltn (v := .ty "bool") (by rfl) T.n_bool (by decide +kernel) rfl) pa_nil))))) (pss_one ((ps_raise rfl (takes_of rfl rfl rfl rfl) (pmk_oex T.e_NoLibrary.ox T.m_NoLibrary___init__.at_ (beq_iff_eq.mp T.m_NoLibrary___init__.fn) (ok_NoLibrary_init T) (hr.mono (by decide)) (b_NoLibrary___init__ T) .nil pass0 rfl T.g_NoLibrary (pa_cons pe_str pa_nil))))) pss_nil))
      (pss_cons ((ps_if (pt_not (pt_val (pe_callB call_isi (by rfl) T.n_isinstance (by decide +kernel) (pa_cons (pv 7) (pa_cons (pe_bltn (v := .ty "bool") (by rfl) T.n_bool (by decide +kernel) rfl) pa_nil))))) (pss_one ((ps_raise rfl (takes_of rfl rfl rfl rfl) (pmk_oex T.e_NoLibrary.ox T.m_NoLibrary___init__.at_ (beq_iff_eq.mp T.m_NoLibrary___init__.fn) (ok_NoLibrary_init T) (hr.mono (by decide)) (b_NoLibrary___init__ T) .nil pass0 rfl T.g_NoLibrary (pa_cons pe_str pa_nil))))) pss_nil))
      (pss_cons (ps_fld (pv 0) (pv 1) rfl)
      (pss_cons (ps_fld (pv 0) (pv 2) rfl)
      (pss_cons (ps_fld (pv 0) (pv 3) rfl)
      (pss_cons (ps_fld (pv 0) (pv 4) rfl)
      (pss_cons (ps_fld (pv 0) (pv 5) rfl)
      (pss_cons (ps_fld (pv 0) (pv 6) rfl)
      (pss_one (ps_fld (pv 0) (pv 7) rfl))))))))))))))), ?_⟩
    have fin : ∀ (z : Str) (H1 : Hp), fl = some z → Sta F ((p, .ins (libC K) dx []) :: L) H1 → ∀ d, H1 d = none → E (.ref (He.ga K "NoLibrary")) (some d) (upd H1 d (.xd [("part", .str z)])) := fun z H1 e S1 d hd => by
      obtain ⟨F', S2, g, h⟩ := S1.mkF hd (.xd [("part", .str z)])
      exact k2 z e d F' _ g h.1 S2.tl
    have ox := T.e_NoLibrary.ox
    have np := T.na_NoLibrary_part
    walk_at "nrm"
    refine ⟨_, rfl, F, _, _, rfl, S, hw0, fun H1 S1 => ⟨_, rfl, ?_⟩⟩
    unfold flt at hfl
    cases w0 : isW y0 with
    | false =>
      rw [w0, if_pos rfl] at hfl
      exact er_read ox np (fin _ _ hfl S1)
    | true =>
    rw [w0, if_neg (by decide)] at hfl
    refine iteF ?_
    refine ⟨_, rfl, F, _, _, _, _, rfl, S1, hw1, fun H2 S2 => ⟨_, rfl, ?_⟩⟩
    cases b1 with
    | false =>
      rw [if_pos rfl] at hfl
      exact er_read ox np (fin _ _ hfl S2)
    | true =>
    rw [if_neg (by decide)] at hfl
    refine iteF ?_
    obtain ⟨a1, xs1, rfl, pt1, fl0, fl1, hin⟩ := he1 w0 rfl
    refine ⟨_, rfl, _, rfl, a1, _, rfl, .inr (pt1.at S2).sqT, fl0, fl1, e1, congrArg V.bl hin, ?_⟩
    cases e1 with
    | true =>
      rw [if_pos rfl] at hfl
      exact er_read ox np (fin _ _ hfl S2)
    | false =>
    rw [if_neg (by decide)] at hfl
    refine iteF ?_
    refine ⟨_, rfl, F, _, _, _, _, rfl, S2, hw2, fun H3 S3 => ⟨_, rfl, ?_⟩⟩
    cases b2 with
    | false =>
      rw [if_pos rfl] at hfl
      exact er_read ox np (fin _ _ hfl S3)
    | true =>
    rw [if_neg (by decide)] at hfl
    refine iteF ?_
    refine ⟨_, rfl, F, _, _, _, _, rfl, S3, hw3, fun H4 S4 => ⟨_, rfl, ?_⟩⟩
    cases b3 with
    | false =>
      rw [if_pos rfl] at hfl
      exact er_read ox np (fin _ _ hfl S4)
    | true =>
    rw [if_neg (by decide)] at hfl
    refine iteF ?_
    refine ⟨_, rfl, F, _, _, _, _, rfl, S4, hw4, fun H5 S5 => ⟨_, rfl, ?_⟩⟩
    cases b4 with
    | false =>
      rw [if_pos rfl] at hfl
      exact er_read ox np (fin _ _ hfl S5)
    | true =>
    rw [if_neg (by decide)] at hfl
    refine iteF ?_
    obtain ⟨a3, xs3, a4, xs4, rfl, pt3, fl3, rfl, pt4, fl4, hl4, hall⟩ := he4 rfl rfl
    walk_at "nrm"
    refine ⟨_, rfl, a4, rfl, ⟨_, (pt4.at S5).sqT⟩, fun D hD => ?_⟩
    refine lc_tup (xs := xs4) (fun i H' => Sta F ((D, .lst ((xs4.take i).map fun z => V.bl (inV z xs3))) :: (p, .ins (libC K) dx []) :: L) H') (S5.newL hD (.lst [])) (fun i H' _ S' => (pt4.at S').sqT) ?_ ?_
    · intro i y H6 hy S6
      refine ⟨rfl, ?_⟩
      walk_at "nrm"
      refine ⟨_, rfl, _, rfl, a3, _, rfl, .inr (pt3.at S6).sqT, List.all_eq_true.mp fl4 _ (List.mem_of_getElem? hy), fl3, _, S6.hd, ?_, ?_⟩
      · rw [List.length_map, List.length_take]
        exact szl (by omega)
      · have et : (xs4.take (i + 1)).map (fun z => V.bl (inV z xs3)) = (xs4.take i).map (fun z => V.bl (inV z xs3)) ++ [V.bl (inV y xs3)] := by
          rw [List.take_add_one, hy, List.map_append]
          rfl
        rw [et]
        exact S6.set _
    · intro H6 S6
      rw [List.take_length] at S6
      have em : (xs4.map fun z => inV z xs3).map V.bl = xs4.map fun z => V.bl (inV z xs3) := by rw [List.map_map]; rfl
      refine ⟨D, xs4.map fun z => inV z xs3, rfl, by rw [em]; exact sq S6.hd, _, rfl, ?_⟩
      rw [take_map_all, hall]
      have S7 := S6.tl
      cases e4 with
      | false =>
        rw [if_pos rfl] at hfl
        exact er_read ox np (fin _ _ hfl S7)
      | true =>
      rw [if_neg (by decide)] at hfl
      refine iteF ?_
      walk_at "nrm"
      obtain ⟨t5, ht5, hk5⟩ := hb5
      obtain ⟨t6, ht6, hk6⟩ := hb6
      refine ⟨_, rfl, _, _, _, _, b5, rfl, .ty _, S7.fr.tyX ht5, hk5, _, rfl, ?_⟩
      cases b5 with
      | false =>
        rw [if_pos rfl] at hfl
        exact er_read ox np (fin _ _ hfl S7)
      | true =>
      rw [if_neg (by decide)] at hfl
      refine iteF ?_
      refine ⟨_, rfl, _, _, _, _, b6, rfl, .ty _, S7.fr.tyX ht6, hk6, _, rfl, ?_⟩
      cases b6 with
      | false =>
        rw [if_pos rfl] at hfl
        exact er_read ox np (fin _ _ hfl S7)
      | true =>
      rw [if_neg (by decide)] at hfl
      refine iteF ?_
      refine ⟨_, rfl, _, rfl, p, _, dx, _, rfl, S7.hd, T.c_Library, T.na_Library_name, by show 0 < 1000; decide, ?_⟩
      have f0 : putF "name" (y0) ([] : List (Str × V)) = ([("name", y0)] : List (Str × V)) := by
        rw [putF_k [] rfl (by decide +kernel)]
        rfl
      rw [f0]
      have S8 := S7.set (.ins (libC K) dx ([("name", y0)] : List (Str × V)))
      generalize upd _ p _ = G0 at S8 ⊢
      refine ⟨_, rfl, _, rfl, p, _, dx, _, rfl, S8.hd, T.c_Library, T.na_Library_needs, by show 1 < 1000; decide, ?_⟩
      have f1 : putF "needs" (.ref a1) ([("name", y0)] : List (Str × V)) = ([("name", y0), ("needs", .ref a1)] : List (Str × V)) := by
        rw [putF_k ["name"] rfl (by decide +kernel)]
        rfl
      rw [f1]
      have S9 := S8.set (.ins (libC K) dx ([("name", y0), ("needs", .ref a1)] : List (Str × V)))
      generalize upd _ p _ = G1 at S9 ⊢
      refine ⟨_, rfl, _, rfl, p, _, dx, _, rfl, S9.hd, T.c_Library, T.na_Library_defines, by show 2 < 1000; decide, ?_⟩
      have f2 : putF "defines" (y2) ([("name", y0), ("needs", .ref a1)] : List (Str × V)) = ([("name", y0), ("needs", .ref a1), ("defines", y2)] : List (Str × V)) := by
        rw [putF_k ["name", "needs"] rfl (by decide +kernel)]
        rfl
      rw [f2]
      have S10 := S9.set (.ins (libC K) dx ([("name", y0), ("needs", .ref a1), ("defines", y2)] : List (Str × V)))
      generalize upd _ p _ = G2 at S10 ⊢
      refine ⟨_, rfl, _, rfl, p, _, dx, _, rfl, S10.hd, T.c_Library, T.na_Library_uses, by show 3 < 1000; decide, ?_⟩
      have f3 : putF "uses" (.ref a3) ([("name", y0), ("needs", .ref a1), ("defines", y2)] : List (Str × V)) = ([("name", y0), ("needs", .ref a1), ("defines", y2), ("uses", .ref a3)] : List (Str × V)) := by
        rw [putF_k ["name", "needs", "defines"] rfl (by decide +kernel)]
        rfl
      rw [f3]
      have S11 := S10.set (.ins (libC K) dx ([("name", y0), ("needs", .ref a1), ("defines", y2), ("uses", .ref a3)] : List (Str × V)))
      generalize upd _ p _ = G3 at S11 ⊢
      refine ⟨_, rfl, _, rfl, p, _, dx, _, rfl, S11.hd, T.c_Library, T.na_Library_weak, by show 4 < 1000; decide, ?_⟩
      have f4 : putF "weak" (.ref a4) ([("name", y0), ("needs", .ref a1), ("defines", y2), ("uses", .ref a3)] : List (Str × V)) = ([("name", y0), ("needs", .ref a1), ("defines", y2), ("uses", .ref a3), ("weak", .ref a4)] : List (Str × V)) := by
        rw [putF_k ["name", "needs", "defines", "uses"] rfl (by decide +kernel)]
        rfl
      rw [f4]
      have S12 := S11.set (.ins (libC K) dx ([("name", y0), ("needs", .ref a1), ("defines", y2), ("uses", .ref a3), ("weak", .ref a4)] : List (Str × V)))
      generalize upd _ p _ = G4 at S12 ⊢
      refine ⟨_, rfl, _, rfl, p, _, dx, _, rfl, S12.hd, T.c_Library, T.na_Library_eager, by show 5 < 1000; decide, ?_⟩
      have f5 : putF "eager" (y5) ([("name", y0), ("needs", .ref a1), ("defines", y2), ("uses", .ref a3), ("weak", .ref a4)] : List (Str × V)) = ([("name", y0), ("needs", .ref a1), ("defines", y2), ("uses", .ref a3), ("weak", .ref a4), ("eager", y5)] : List (Str × V)) := by
        rw [putF_k ["name", "needs", "defines", "uses", "weak"] rfl (by decide +kernel)]
        rfl
      rw [f5]
      have S13 := S12.set (.ins (libC K) dx ([("name", y0), ("needs", .ref a1), ("defines", y2), ("uses", .ref a3), ("weak", .ref a4), ("eager", y5)] : List (Str × V)))
      generalize upd _ p _ = G5 at S13 ⊢
      refine ⟨_, rfl, _, rfl, p, _, dx, _, rfl, S13.hd, T.c_Library, T.na_Library_own_first, by show 6 < 1000; decide, ?_⟩
      have f6 : putF "own_first" (y6) ([("name", y0), ("needs", .ref a1), ("defines", y2), ("uses", .ref a3), ("weak", .ref a4), ("eager", y5)] : List (Str × V)) = ([("name", y0), ("needs", .ref a1), ("defines", y2), ("uses", .ref a3), ("weak", .ref a4), ("eager", y5), ("own_first", y6)] : List (Str × V)) := by
        rw [putF_k ["name", "needs", "defines", "uses", "weak", "eager"] rfl (by decide +kernel)]
        rfl
      rw [f6]
      have S14 := S13.set (.ins (libC K) dx ([("name", y0), ("needs", .ref a1), ("defines", y2), ("uses", .ref a3), ("weak", .ref a4), ("eager", y5), ("own_first", y6)] : List (Str × V)))
      generalize upd _ p _ = G6 at S14 ⊢
      obtain ⟨F', S15, g, hp⟩ := S14.frz
      exact k1 hfl F' _ g hp.1 S15
end
end Sb


set_option Elab.async false
set_option linter.all false
set_option maxRecDepth 100000
set_option maxHeartbeats 8000000
namespace Sb
open PySem L2
local macro_rules | `(tactic| walk_at "nrm") => `(tactic| try dsimp only [L2.start, List.map, List.length_cons, List.length_nil, List.cons_append, List.nil_append, List.replicate, Nat.reduceAdd, Nat.reduceSub, List.set_cons_zero, List.set_cons_succ, wipe])
/-! ### _law_said: a library made of a row, or the part that NoLibrary tells -/
theorem b_lib_all (T : Top K mg) : ∃ mv : List Value, KBn K T.fd_Library___init__ ps_Library___init__ 2 ["needs", "defines", "uses", "weak", "eager", "own_first"] (fun us ws => us ++ (mv ++ ws)) (fun vs zs => vs ++ ([] ++ zs)) :=
  FunD.kbinds0 T.F_Library___init__ 2 ["needs", "defines", "uses", "weak", "eager", "own_first"] [] (fun vs mz zs => vs ++ (mz ++ zs)) (by simp [He.DefD.kws, d_Library___init__]) (fun q hq => by cases hq) (fun r1 r2 r3 => r1.append (r2.append r3))
    (fun D doc pm an cdv ct us mv ws h1 h2 h3 => match us, h1, mv, h2, ws, h3 with
      | [_, _], _, [], _, [_, _, _, _, _, _], _ => rfl)
def spSaid (K : PySem.W.Frag) : Sp := fun vs H Q _ => ∃ (F : Hp) (L : List (Addr × HO)) (p : Addr) (y0 y1 y2 y3 y4 y5 y6 : V) (fl : Option Str), vs = [.ref p] ∧ Sta F L H ∧ PT K F p [y0, y1, y2, y3, y4, y5, y6] ∧ LibIn K F y0 y1 y2 y3 y4 y5 y6 fl ∧
  ∀ F' H', Gr F F' → Sta F' L H' → Q (.str (fl.getD "none")) H'
theorem LibIn.up {K : PySem.W.Frag} {F F' : Hp} {y0 y1 y2 y3 y4 y5 y6 : V} {fl : Option Str} (h : LibIn K F y0 y1 y2 y3 y4 y5 y6 fl) (g : Gr F F') : LibIn K F' y0 y1 y2 y3 y4 y5 y6 fl := by
  obtain ⟨b1, e1, b2, b3, b4, e4, b5, b6, h0, h1, h2, h3, h4, h5, h6, h7, h8, h9⟩ := h
  refine ⟨b1, e1, b2, b3, b4, e4, b5, b6, h0.up g, h1.up g, fun q1 q2 => ?_, h3.up g, h4.up g, h5.up g, fun q1 q2 => ?_, h7.up g, h8.up g, h9⟩
  · obtain ⟨a, xs, e, pt, f1, f2, f3⟩ := h2 q1 q2
    exact ⟨a, xs, e, pt.up g, f1, f2, f3⟩
  · obtain ⟨a3, xs3, a4, xs4, q3, q4, q5, q6, q7, q8, q9, q10⟩ := h6 q1 q2
    exact ⟨a3, xs3, a4, xs4, q3, q4.up g, q5, q6, q7.up g, q8, q9, q10⟩
section
variable {P : Program} {w : World} {K : PySem.W.Frag} {mg : Str → Option Value} {base : Heap}
theorem ok_said (T : Top K mg) : FnOk P w K mg base CX0 5 (He.ga K "_law_said") T.fd__law_said ps__law_said (spSaid K) := by
  obtain ⟨mv, hb⟩ := b_lib_all T
  refine T.F__law_said.ok sc__law_said (fun vs H Q E h => ?_) (fun cdv A outer s H vs Q E hr h => ?_)
  · obtain ⟨F, L, p, y0, y1, y2, y3, y4, y5, y6, fl, rfl, _⟩ := h
    rfl
  · obtain ⟨F, L, p, y0, y1, y2, y3, y4, y5, y6, fl, rfl, S, pt, hin, k⟩ := h
    refine ⟨_, PSs.nox (pss_cons (ps_asg (pv 0) (pg_tup rfl (pgs_cons (pg_name (i := 1) sc__law_said.nd rfl (Or.inl rfl)) (pgs_cons (pg_name (i := 2) sc__law_said.nd rfl (Or.inl rfl)) (pgs_cons (pg_name (i := 3) sc__law_said.nd rfl (Or.inl rfl)) (pgs_cons (pg_name (i := 4) sc__law_said.nd rfl (Or.inl rfl)) (pgs_cons (pg_name (i := 5) sc__law_said.nd rfl (Or.inl rfl)) (pgs_cons (pg_name (i := 6) sc__law_said.nd rfl (Or.inl rfl)) (pgs_cons (pg_name (i := 7) sc__law_said.nd rfl (Or.inl rfl)) pgs_nil)))))))))
      (pss_cons (ps_tryH rfl rfl (fun W pn xe tk _ => pss_one (ps_expr (pe_makeK T.mk_Library (ok_lib_mk T) (hr.mono (by decide)) rfl T.g_Library hb (passN (n := 9) rfl tk) (pa_cons (pv 1) pa_nil) (pk_cons (pv 2) (pk_cons (pv 3) (pk_cons (pv 4) (pk_cons (pv 5) (pk_cons (pv 6) (pk_cons (pv 7) pk_nil)))))))))
          (hand_as (i := 8) rfl sc__law_said.nd rfl rfl ⟨rfl, by decide, .inl T.g_NoLibrary⟩ (fun a oe cls d pn hz hf => pss_one (ps_ret (pe_xf T.e_NoLibrary.xf T.na_NoLibrary_part hz hf (pv 8))))
            (hand_one rfl ⟨rfl, by decide, .inl T.g_LoadError⟩ (fun a oe cls d pn hz hf => pss_one (ps_ret pe_str)) (hand_nil rfl rfl takes_none5))))
      (pss_one (ps_ret pe_str)))), ?_⟩
    walk_at "nrm"
    refine ⟨_, rfl, p, _, rfl, (pt.at S).sqT, rfl, _, _, rfl, _, _, rfl, _, _, rfl, _, _, rfl, _, _, rfl, _, _, rfl, _, _, rfl, rfl, ?_⟩
    walk_at "nrm"
    refine ⟨_, rfl, _, rfl, _, rfl, _, rfl, _, rfl, _, rfl, _, rfl, rfl, rfl, fun x dx hx hd ne => ?_⟩
    obtain ⟨F1, S1, g1, _⟩ := S.mkI (C := libC K) hx hd ne
    refine ⟨F1, L, x, dx, y0, y1, y2, y3, y4, y5, y6, fl, rfl, S1, hin.up g1, fun e F2 H2 g2 hp S2 => ⟨rfl, ?_⟩, fun z e d F2 H2 g2 hd2 S2 σ hσ => ?_⟩
    · have q := k F2 H2 (g1.trans g2) S2
      rw [e] at q
      exact q
    · refine ⟨true, T.exm_NoLibrary_NoLibrary, fun _ b hb => ?_, fun e => by cases e⟩
      have q := k F2 H2 (g1.trans g2) S2
      rw [e] at q
      exact ⟨_, List.getElem?_set_self (by rw [hσ]; decide), rfl, rfl, d, [("part", .str z)], .str z, rfl, S2.f hd2, by simp [List.lookup], q⟩
end
end Sb


set_option Elab.async false
set_option linter.all false
set_option maxRecDepth 100000
set_option maxHeartbeats 8000000
namespace Sb
open PySem L2
local macro_rules | `(tactic| walk_at "nrm") => `(tactic| try dsimp only [L2.start, List.map, List.length_cons, List.length_nil, List.cons_append, List.nil_append, List.replicate, Nat.reduceAdd, Nat.reduceSub, List.set_cons_zero, List.set_cons_succ, wipe])
/-! ### _law_odd: a value that is not as it must be -/
theorem awNo {K : PySem.W.Frag} {F : Hp} {y : V} {m : Int} {n : String} (h : TyX K F y (.type n)) (hk : PySem.W.kitOne K (.type n) (.type "tuple") = some false) : AW K F y m false := ⟨_, false, h, hk, fun _ => rfl, fun e => by cases e⟩
theorem awTup {K : PySem.W.Frag} {F : Hp} {a : Addr} {xs : List V} {m : Int} (h : PT K F a xs) (hl : xs.length ≤ 1000) (hw : ∀ y ∈ xs, WT K F y) (hb : areW xs m = false) : AW K F (.ref a) m false :=
  ⟨_, true, ty_tup h.sqT, kit_ty (by decide +kernel), (fun e => by cases e), fun _ => ⟨a, xs, rfl, h, hl, hw, hb.symm⟩⟩
theorem wtNo {K : PySem.W.Frag} {F : Hp} {y : V} {n : String} (h : TyX K F y (.type n)) (hk : PySem.W.kitOne K (.type n) (.type "str") = some false) (hw : isW y = false) : WT K F y := ⟨_, false, h, hk, (fun e => by cases e), fun _ => hw⟩
theorem awStr {K : PySem.W.Frag} {F : Hp} {a : Addr} (ws : List Str) {m : Int} (h : PT K F a (sv ws)) (hl : (decide (ws.length ≤ 1000) && ws.all fun z => decide (z.length ≤ 100000)) = true) (hb : areW (sv ws) m = false) : AW K F (.ref a) m false := by
  obtain ⟨h1, h2⟩ := and2 hl
  refine awTup h (by rw [List.length_map]; exact of_decide_eq_true h1) (fun y hy => ?_) hb
  obtain ⟨z, hz, rfl⟩ := List.mem_map.mp hy
  exact WT.str (of_decide_eq_true (List.all_eq_true.mp h2 z hz))
theorem areW_bad {xs : List V} {m : Int} (h : xs.all isW = false) : areW xs m = false := by
  unfold areW
  rw [h, Bool.false_and, Bool.and_false]
theorem areW_dup {xs : List V} {m : Int} (h : (xs.all fun x => decide (xs.count x = 1)) = false) : areW xs m = false := by
  unfold areW
  rw [h, Bool.and_false, Bool.and_false]
theorem areW_long {xs : List V} {m : Int} (h : m < (xs.length : Int)) : areW xs m = false := by
  unfold areW
  rw [decide_eq_false (by omega), Bool.false_and]
abbrev alpha : Str := "abcdefghijklmnopqrstuvwxyz"
theorem alpha_at : ∀ k : Nat, k < 26 → alpha.cps.toList[k]? = some (97 + k) := by decide +kernel
theorem alpha_len : alpha.length = 26 := by decide +kernel
def zw (k : Nat) : Str := (⟨#[97 + k]⟩ : Str) ++ ("z" : Str)
def Odd (K : PySem.W.Frag) (F : Hp) (m : Nat) (y : V) : Prop :=
  (m = 0 → WT K F y ∧ isW y = false) ∧ (m = 1 → AW K F y 12 false ∨ ∃ a, y = .ref a ∧ PT K F a [.str "core"]) ∧ (m = 2 ∨ m = 3 → AW K F y 20 false) ∧ (m = 4 → AW K F y 20 false ∨ ∃ a, y = .ref a ∧ PT K F a [.str "notused"]) ∧ (4 < m → BT K F y false)
theorem Odd.up {K : PySem.W.Frag} {F F' : Hp} {m : Nat} {y : V} (h : Odd K F m y) (g : Gr F F') : Odd K F' m y := by
  obtain ⟨h0, h1, h2, h3, h4⟩ := h
  refine ⟨fun e => ⟨(h0 e).1.up g, (h0 e).2⟩, fun e => ?_, fun e => (h2 e).up g, fun e => ?_, fun e => (h4 e).up g⟩
  · rcases h1 e with h | ⟨a, e, h⟩
    · exact .inl (h.up g)
    · exact .inr ⟨a, e, h.up g⟩
  · rcases h3 e with h | ⟨a, e, h⟩
    · exact .inl (h.up g)
    · exact .inr ⟨a, e, h.up g⟩
theorem odd_aw {K : PySem.W.Frag} {F : Hp} {m : Nat} {y : V} (h0 : 1 ≤ m) (h1 : m ≤ 4) (h : ∀ k : Int, AW K F y k false) : Odd K F m y :=
  ⟨fun e => absurd e (by omega), fun _ => .inl (h _), fun _ => h _, fun _ => .inl (h _), fun e => absurd e (by omega)⟩
theorem odd_w {K : PySem.W.Frag} {F : Hp} {y : V} (h : WT K F y) (hw : isW y = false) : Odd K F 0 y := ⟨fun _ => ⟨h, hw⟩, fun e => by omega, fun e => by omega, fun e => by omega, fun e => by omega⟩
theorem odd_b {K : PySem.W.Frag} {F : Hp} {m : Nat} {y : V} (h1 : 4 < m) (h : BT K F y false) : Odd K F m y := ⟨fun e => absurd e (by omega), fun e => absurd e (by omega), fun e => absurd e (by omega), fun e => absurd e (by omega), fun _ => h⟩
def spOdd (K : PySem.W.Frag) : Sp := fun vs H Q _ => ∃ (F : Hp) (L : List (Addr × HO)) (w : Addr) (o : HO) (n m : Nat), vs = [.ref w, .int (m : Int)] ∧ m < 7 ∧ Sta F ((w, o) :: L) H ∧ Well n o ∧ n < 900000 ∧
  ∀ (y : V) (o' : HO) (F' H' : Hp), Gr F F' → Odd K F' m y → Well (n + 1) o' → Sta F' ((w, o') :: L) H' → Q y H'
section
variable {P : Program} {w : World} {K : PySem.W.Frag} {mg : Str → Option Value} {base : Heap}
theorem ok_odd (T : Top K mg) : FnOk P w K mg base CX0 3 (He.ga K "_law_odd") T.fd__law_odd ps__law_odd (spOdd K) := by
  refine T.F__law_odd.ok sc__law_odd (fun vs H Q E h => ?_) (fun cdv A outer s H vs Q E hr h => ?_)
  · obtain ⟨F, L, w, o, n, m, rfl, _⟩ := h
    rfl
  · obtain ⟨F, L, w0, o, n, m, rfl, hm, S, W, hn, k⟩ := h
    refine ⟨_, PSs.nox (pss_cons ((ps_set (i := 2) sc__law_odd.nd rfl (Or.inr rfl) (pe_str)))
      (pss_cons ((ps_if (pt_cmpR op_eq (pv 1) pe_int (nomark _)) (pss_one (ps_ret (pe_call (ok_one T) (hr.mono (by decide)) rfl T.g__law_one T.F__law_one.kp (b__law_one T) .nil pass0 (pa_cons (pv 0) (pa_cons (pe_lst (pa_cons pe_non (pa_cons pe_str (pa_cons pe_str (pa_cons pe_str (pa_cons pe_int (pa_cons (pe_cmpR op_eq pe_int pe_int (nomark _)) (pa_cons (pe_lst (pa_cons pe_str pa_nil)) (pa_cons pe_dnewK (pa_cons (pe_tupZ (pa_cons pe_str pa_nil)) (pa_cons pe_str (pa_cons pe_str pa_nil)))))))))))) pa_nil))))) pss_nil))
      (pss_cons ((ps_if (pt_cmpR op_gt (pv 1) pe_int (nomark _)) (pss_one (ps_ret (pe_call (ok_one T) (hr.mono (by decide)) rfl T.g__law_one T.F__law_one.kp (b__law_one T) .nil pass0 (pa_cons (pv 0) (pa_cons (pe_lst (pa_cons pe_non (pa_cons pe_int (pa_cons pe_int (pa_cons pe_str (pa_cons pe_str (pa_cons (pe_lst pa_nil) (pa_cons (pe_tupZ pa_nil) (pa_cons pe_dnewK pa_nil))))))))) pa_nil))))) pss_nil))
      (pss_cons ((ps_set (i := 3) sc__law_odd.nd rfl (Or.inl rfl) (pe_ix ix_list (pe_lst (pa_cons pe_int (pa_cons pe_int (pa_cons pe_int (pa_cons pe_int (pa_cons pe_int pa_nil)))))) (pv 1) (fun _ _ => rfl))))
      (pss_cons ((ps_set (i := 4) sc__law_odd.nd rfl (Or.inl rfl) (pe_lst (pa_cons pe_non (pa_cons pe_str (pa_cons pe_int (pa_cons (pe_cmpR op_eq pe_int pe_int (nomark _)) (pa_cons (pe_lst (pa_cons pe_str pa_nil)) (pa_cons pe_dnewK (pa_cons (pe_tupZ (pa_cons pe_str (pa_cons pe_str pa_nil))) (pa_cons (pe_tupZ (pa_cons pe_str pa_nil)) (pa_cons (pe_tupZ (pa_cons pe_str pa_nil)) (pa_cons (pe_tupZ (pa_cons pe_non pa_nil)) (pa_cons (pe_tupZ (pa_cons (pe_lst (pa_cons pe_str pa_nil)) pa_nil)) (pa_cons (pe_tupZ (pa_cons pe_str (pa_cons pe_int pa_nil))) (pa_cons (pe_tupZ (pa_cons pe_dnewK pa_nil)) pa_nil))))))))))))))))
      (pss_cons ((ps_set (i := 4) sc__law_odd.nd rfl (Or.inl rfl) (pe_op op_cat (pv 4) (pe_lst (pa_cons (pe_tupZ (pa_cons pe_str pa_nil)) (pa_cons (pe_tupZ (pa_cons (pe_op op_mulS pe_str pe_int) (pa_cons pe_str pa_nil))) (pa_cons (pe_tupZ (pa_cons pe_str (pa_cons pe_str pa_nil))) (pa_cons (pe_tupZ (pa_cons pe_str pa_nil)) pa_nil))))))))
      (Evl.pss_cut ((ps_if (pt_cmpR op_lt (pv 1) pe_int (nomark _)) (pss_one (ps_expr (pe_bm PySem.F.plainAttrs_list PySem.F.slot_list_append PySem.F.type_list_append mt_append (pv 4) (pa_cons (pe_callTy call_tupZ (by rfl) T.n_tuple (by decide +kernel) (pa_cons (pe_lc (own := [("_law_k", 5)]) (g := gName 5) rfl sc__law_odd.nd (pi_range1 rfl T.n_range (pa_cons (pe_op op_add (pv 3) pe_int) pa_nil)) (blkOk_by (N := ns__law_odd) (sc := defScope s__law_odd) (by decide +kernel))
            (fun _ _ _ _ _ => (pg_name (i := 5) sc__law_odd.nd rfl (Or.inl rfl))) (fun _ _ _ _ _ => pts_nil) (fun _ _ _ _ _ => pe_op op_add_str (pe_item_str (pv 2) (pv 5) (fun _ _ => rfl)) pe_str)) pa_nil)) pa_nil)))) pss_nil))
      (Evl.pss_cut ((ps_if (pt_cmpR op_eq (pv 1) pe_int (nomark _)) (pss_one (ps_expr (pe_bm PySem.F.plainAttrs_list PySem.F.slot_list_append PySem.F.type_list_append mt_append (pv 4) (pa_cons (pe_tupZ (pa_cons pe_str pa_nil)) pa_nil)))) pss_nil))
      (Evl.pss_cut ((ps_if (pt_cmpR op_eq (pv 1) pe_int (nomark _)) (pss_one (ps_expr (pe_bm PySem.F.plainAttrs_list PySem.F.slot_list_append PySem.F.type_list_append mt_append (pv 4) (pa_cons (pe_tupZ (pa_cons pe_str pa_nil)) pa_nil)))) pss_nil))
      (pss_one (ps_ret (pe_call (ok_one T) (hr.mono (by decide)) rfl T.g__law_one T.F__law_one.kp (b__law_one T) .nil pass0 (pa_cons (pv 0) (pa_cons (pv 4) pa_nil)))))))))))))), ?_⟩
    walk_at "nrm"
    refine ⟨_, rfl, rfl, _, rfl, ?_⟩
    refine ite2 (fun e0 => ?_) (fun e0 => ?_)
    · obtain rfl : m = 0 := by
        have e := V.int.inj (of_decide_eq_true e0)
        omega
      refine ⟨_, rfl, rfl, by show 1 ≤ sizeLine; decide, fun q1 hq1 => ?_⟩
      obtain ⟨F1, S1, g1, l1⟩ := S.mkF hq1 (.lst [.str "app"])
      generalize upd _ q1 _ = H1 at S1 ⊢
      intro q2 hq2
      obtain ⟨F2, S2, g2, l2⟩ := S1.mkF hq2 (.dK [])
      generalize upd _ q2 _ = H2 at S2 ⊢
      refine ⟨by show 1 ≤ sizeLine; decide, newT_sta (K := K) S2 fun q3 F3 H3 g3 pt3 S3 => ⟨by show 11 ≤ sizeLine; decide, fun q4 hq4 => ?_⟩⟩
      obtain ⟨F4, S4, g4, l4⟩ := S3.mkF hq4 (.lst [.non, .str "", .str "A", .str "abcdefghijklm", .int 7, .bl (decide (V.int 1 = V.int 1)), .ref q1, .ref q2, .ref q3, .str "a b", .str "a1"])
      generalize upd _ q4 _ = H4 at S4 ⊢
      have l1 := l1.up (g2.trans (g3.trans g4))
      have l2 := l2.up (g3.trans g4)
      have pt3 := pt3.up g4
      refine ⟨F4, L, w0, q4, o, n, _, rfl, S4, W, by omega, l4.sqL, by show 0 < 11; decide, by show 11 < 1000; decide, fun y o2 H5 hy W2 S5 => k y o2 F4 H5 (g1.trans (g2.trans (g3.trans g4))) ?_ W2 S5⟩
      simp only [List.mem_cons, List.mem_nil_iff, or_false] at hy
      rcases hy with rfl | rfl | rfl | rfl | rfl | rfl | rfl | rfl | rfl | rfl | rfl
      · exact odd_w (wtNo (.base .non) (kit_ty (by decide +kernel)) rfl) rfl
      · exact odd_w (WT.str (by decide +kernel)) (by decide +kernel)
      · exact odd_w (WT.str (by decide +kernel)) (by decide +kernel)
      · exact odd_w (WT.str (by decide +kernel)) (by decide +kernel)
      · exact odd_w (wtNo (.base (.int _)) (kit_ty (by decide +kernel)) rfl) rfl
      · exact odd_w (wtNo (.base (.bl _)) (kit_ty (by decide +kernel)) rfl) rfl
      · exact odd_w (wtNo (.base (.lst l1.1)) (kit_ty (by decide +kernel)) rfl) rfl
      · exact odd_w (wtNo (.base (.dK l2.1)) (kit_ty (by decide +kernel)) rfl) rfl
      · exact odd_w (wtNo (ty_tup pt3.sqT) (kit_ty (by decide +kernel)) rfl) rfl
      · exact odd_w (WT.str (by decide +kernel)) (by decide +kernel)
      · exact odd_w (WT.str (by decide +kernel)) (by decide +kernel)
    have m0 : m ≠ 0 := fun e => e0 (by rw [e]; rfl)
    refine ⟨_, rfl, _, _, rfl, rfl, _, rfl, ?_⟩
    refine ite2 (fun e4 => ?_) (fun e4 => ?_)
    · have m4 : 4 < m := by
        have e := of_decide_eq_true e4
        omega
      refine ⟨_, rfl, by show 0 ≤ sizeLine; decide, fun q1 hq1 => ?_⟩
      obtain ⟨F1, S1, g1, l1⟩ := S.mkF hq1 (.lst [])
      generalize upd _ q1 _ = H1 at S1 ⊢
      refine ⟨by show 0 ≤ sizeLine; decide, newT_sta (K := K) S1 fun q3 F3 H3 g3 pt3 S3 => ?_⟩
      intro q2 hq2
      obtain ⟨F2, S2, g2, l2⟩ := S3.mkF hq2 (.dK [])
      generalize upd _ q2 _ = H2 at S2 ⊢
      refine ⟨by show 8 ≤ sizeLine; decide, fun q4 hq4 => ?_⟩
      obtain ⟨F4, S4, g4, l4⟩ := S2.mkF hq4 (.lst [.non, .int 0, .int 1, .str "", .str "True", .ref q1, .ref q3, .ref q2])
      generalize upd _ q4 _ = H4 at S4 ⊢
      have l1 := l1.up (g3.trans (g2.trans g4))
      have l2 := l2.up g4
      have pt3 := pt3.up (g2.trans g4)
      refine ⟨F4, L, w0, q4, o, n, _, rfl, S4, W, by omega, l4.sqL, by show 0 < 8; decide, by show 8 < 1000; decide, fun y o2 H5 hy W2 S5 => k y o2 F4 H5 (g1.trans (g3.trans (g2.trans g4))) ?_ W2 S5⟩
      simp only [List.mem_cons, List.mem_nil_iff, or_false] at hy
      rcases hy with rfl | rfl | rfl | rfl | rfl | rfl | rfl | rfl
      · exact odd_b m4 ⟨_, .base .non, kit_ty (by decide +kernel)⟩
      · exact odd_b m4 ⟨_, .base (.int _), kit_ty (by decide +kernel)⟩
      · exact odd_b m4 ⟨_, .base (.int _), kit_ty (by decide +kernel)⟩
      · exact odd_b m4 ⟨_, .base (.str _), kit_ty (by decide +kernel)⟩
      · exact odd_b m4 ⟨_, .base (.str _), kit_ty (by decide +kernel)⟩
      · exact odd_b m4 ⟨_, .base (.lst l1.1), kit_ty (by decide +kernel)⟩
      · exact odd_b m4 ⟨_, ty_tup pt3.sqT, kit_ty (by decide +kernel)⟩
      · exact odd_b m4 ⟨_, .base (.dK l2.1), kit_ty (by decide +kernel)⟩
    have m1 : 1 ≤ m := by omega
    have m4 : m ≤ 4 := by
      by_cases q : 4 < m
      · exact absurd (decide_eq_true (by omega)) e4
      · omega
    clear e0 e4 m0
    walk_at "nrm"
    obtain ⟨mo, hmo, mo1, mo2, mo3, mo4⟩ : ∃ mo : Int, atI [V.int 0, V.int 12, V.int 20, V.int 20, V.int 20] (m : Int) = some (.int mo) ∧ 0 ≤ mo ∧ mo ≤ 20 ∧ (m = 1 → mo = 12) ∧ (m = 2 ∨ m = 3 → mo = 20) := by
      obtain rfl | rfl | rfl | rfl : m = 1 ∨ m = 2 ∨ m = 3 ∨ m = 4 := by omega
      · exact ⟨12, rfl, by decide, by decide, fun _ => rfl, fun e => by omega⟩
      · exact ⟨20, rfl, by decide, by decide, fun e => by omega, fun _ => rfl⟩
      · exact ⟨20, rfl, by decide, by decide, fun e => by omega, fun _ => rfl⟩
      · exact ⟨20, rfl, by decide, by decide, fun e => by omega, fun e => by omega⟩
    refine ⟨by show 5 ≤ sizeLine; decide, fun q0 hq0 => ?_⟩
    obtain ⟨F0, S0, g0, l0⟩ := S.mkF hq0 (.lst [.int 0, .int 12, .int 20, .int 20, .int 20])
    generalize upd _ q0 _ = H0 at S0 ⊢
    refine ⟨_, rfl, q0, _, _, _, rfl, rfl, S0.sqL l0.sqL, hmo, ?_⟩
    walk_at "nrm"
    refine ⟨rfl, by show 1 ≤ sizeLine; decide, fun q1 hq1 => ?_⟩
    obtain ⟨F1, S1, g1, l1⟩ := S0.mkF hq1 (.lst [.str "ab"])
    generalize upd _ q1 _ = H1 at S1 ⊢
    intro q2 hq2
    obtain ⟨F2, S2, g2, l2⟩ := S1.mkF hq2 (.dK [])
    generalize upd _ q2 _ = H2 at S2 ⊢
    refine ⟨by show 2 ≤ sizeLine; decide, newT_sta (K := K) S2 fun t1 F3 H3 g3 pt1 S3 => ?_⟩
    refine ⟨by show 1 ≤ sizeLine; decide, newT_sta (K := K) S3 fun t2 F4 H4 g4 pt2 S4 => ?_⟩
    refine ⟨by show 1 ≤ sizeLine; decide, newT_sta (K := K) S4 fun t3 F5 H5 g5 pt3 S5 => ?_⟩
    refine ⟨by show 1 ≤ sizeLine; decide, newT_sta (K := K) S5 fun t4 F6 H6 g6 pt4 S6 => ?_⟩
    refine ⟨by show 1 ≤ sizeLine; decide, fun q3 hq3 => ?_⟩
    obtain ⟨F7, S7, g7, l3⟩ := S6.mkF hq3 (.lst [.str "ab"])
    generalize upd _ q3 _ = H7 at S7 ⊢
    refine ⟨by show 1 ≤ sizeLine; decide, newT_sta (K := K) S7 fun t5 F8 H8 g8 pt5 S8 => ?_⟩
    refine ⟨by show 2 ≤ sizeLine; decide, newT_sta (K := K) S8 fun t6 F9 H9 g9 pt6 S9 => ?_⟩
    intro q4 hq4
    obtain ⟨F10, S10, g10, l4⟩ := S9.mkF hq4 (.dK [])
    generalize upd _ q4 _ = H10 at S10 ⊢
    refine ⟨by show 1 ≤ sizeLine; decide, newT_sta (K := K) S10 fun t7 F11 H11 g11 pt7 S11 => ?_⟩
    refine ⟨by show 13 ≤ sizeLine; decide, fun q5 hq5 => ?_⟩
    obtain ⟨F12, S12, g12, l5⟩ := S11.mkF hq5 (.lst [.non, .str "ab", .int 7, .bl (decide (V.int 1 = V.int 1)), .ref q1, .ref q2, .ref t1, .ref t2, .ref t3, .ref t4, .ref t5, .ref t6, .ref t7])
    generalize upd _ q5 _ = H12 at S12 ⊢
    walk_at "nrm"
    refine ⟨_, rfl, by show 1 ≤ sizeLine; decide, newT_sta (K := K) S12 fun t8 F13 H13 g13 pt8 S13 => ?_⟩
    refine ⟨_, _, rfl, rfl, by decide, by decide, by decide +kernel, by show 2 ≤ sizeLine; decide, newT_sta (K := K) S13 fun t9 F14 H14 g14 pt9 S14 => ?_⟩
    refine ⟨by show 2 ≤ sizeLine; decide, newT_sta (K := K) S14 fun t10 F15 H15 g15 pt10 S15 => ?_⟩
    refine ⟨by show 1 ≤ sizeLine; decide, newT_sta (K := K) S15 fun t11 F16 H16 g16 pt11 S16 => ?_⟩
    refine ⟨by show 4 ≤ sizeLine; decide, fun q6 hq6 => ?_⟩
    obtain ⟨F17, S17, g17, l6⟩ := S16.mkF hq6 (.lst [.ref t8, .ref t9, .ref t10, .ref t11])
    generalize upd _ q6 _ = H17 at S17 ⊢
    have l5 := l5.up (g13.trans (g14.trans (g15.trans (g16.trans g17))))
    refine ⟨q5, q6, _, _, rfl, rfl, S17.f l5.1, S17.f l6.1, by show 13 + 4 ≤ sizeLine; decide, fun q7 hq7 => ?_⟩
    have S18 := S17.newL hq7 (.lst ([.non, .str "ab", .int 7, .bl (decide (V.int 1 = V.int 1)), .ref q1, .ref q2, .ref t1, .ref t2, .ref t3, .ref t4, .ref t5, .ref t6, .ref t7] ++ [.ref t8, .ref t9, .ref t10, .ref t11]))
    generalize upd _ q7 _ = H18 at S18 ⊢
    have u16 := g17
    have u15 := g16.trans u16
    have u14 := g15.trans u15
    have u13 := g14.trans u14
    have u12 := g13.trans u13
    have u11 := g12.trans u12
    have u10 := g11.trans u11
    have u9 := g10.trans u10
    have u8 := g9.trans u9
    have u7 := g8.trans u8
    have u6 := g7.trans u7
    have u5 := g6.trans u6
    have u4 := g5.trans u5
    have u3 := g4.trans u4
    have u2 := g3.trans u3
    have u1 := g2.trans u2
    have u0 := g1.trans u1
    have uu := g0.trans u0
    have hall : ∀ y ∈ ([.non, .str "ab", .int 7, .bl (decide (V.int 1 = V.int 1)), .ref q1, .ref q2, .ref t1, .ref t2, .ref t3, .ref t4, .ref t5, .ref t6, .ref t7] ++ [.ref t8, .ref t9, .ref t10, .ref t11] : List V), ∀ k : Int, AW K F17 y k false := by
      intro y hy k
      have l1 := l1.up u1
      have l2 := l2.up u2
      have l3 := l3.up u7
      have l4 := l4.up u10
      simp only [List.cons_append, List.nil_append, List.mem_cons, List.mem_nil_iff, or_false] at hy
      rcases hy with rfl | rfl | rfl | rfl | rfl | rfl | rfl | rfl | rfl | rfl | rfl | rfl | rfl | rfl | rfl | rfl | rfl
      · exact awNo (.base .non) (kit_ty (by decide +kernel))
      · exact awNo (.base (.str _)) (kit_ty (by decide +kernel))
      · exact awNo (.base (.int _)) (kit_ty (by decide +kernel))
      · exact awNo (.base (.bl _)) (kit_ty (by decide +kernel))
      · exact awNo (.base (.lst l1.1)) (kit_ty (by decide +kernel))
      · exact awNo (.base (.dK l2.1)) (kit_ty (by decide +kernel))
      · exact awStr ["ab", "ab"] (pt1.up u3) (by decide +kernel) (areW_dup (by decide +kernel))
      · exact awStr [""] (pt2.up u4) (by decide +kernel) (areW_bad (by decide +kernel))
      · exact awStr ["A"] (pt3.up u5) (by decide +kernel) (areW_bad (by decide +kernel))
      · refine awTup (pt4.up u6) (by decide) (fun y hy => ?_) (areW_bad rfl)
        rw [List.mem_singleton.mp hy]
        exact wtNo (.base .non) (kit_ty (by decide +kernel)) rfl
      · refine awTup (pt5.up u8) (by show 1 ≤ 1000; decide) (fun y hy => ?_) (areW_bad rfl)
        rw [List.mem_singleton.mp hy]
        exact wtNo (.base (.lst l3.1)) (kit_ty (by decide +kernel)) rfl
      · refine awTup (pt6.up u9) (by decide) (fun y hy => ?_) (areW_bad (by decide +kernel))
        simp only [List.mem_cons, List.mem_nil_iff, or_false] at hy
        rcases hy with rfl | rfl
        · exact WT.str (by decide +kernel)
        · exact wtNo (.base (.int _)) (kit_ty (by decide +kernel)) rfl
      · refine awTup (pt7.up u11) (by show 1 ≤ 1000; decide) (fun y hy => ?_) (areW_bad rfl)
        rw [List.mem_singleton.mp hy]
        exact wtNo (.base (.dK l4.1)) (kit_ty (by decide +kernel)) rfl
      · exact awStr ["abcdefghijklm"] (pt8.up u13) (by decide +kernel) (areW_bad (by decide +kernel))
      · exact awStr [Txt.mul "a" 13, "ab"] (pt9.up u14) (by decide +kernel) (areW_bad (by decide +kernel))
      · exact awStr ["ab", "a b"] (pt10.up u15) (by decide +kernel) (areW_bad (by decide +kernel))
      · exact awStr ["a1"] (pt11.up u16) (by decide +kernel) (areW_bad (by decide +kernel))
    have hlen : ([.non, .str "ab", .int 7, .bl (decide (V.int 1 = V.int 1)), .ref q1, .ref q2, .ref t1, .ref t2, .ref t3, .ref t4, .ref t5, .ref t6, .ref t7] ++ [.ref t8, .ref t9, .ref t10, .ref t11] : List V).length = 17 := rfl
    generalize ([.non, .str "ab", .int 7, .bl (decide (V.int 1 = V.int 1)), .ref q1, .ref q2, .ref t1, .ref t2, .ref t3, .ref t4, .ref t5, .ref t6, .ref t7] ++ [.ref t8, .ref t9, .ref t10, .ref t11] : List V) = items at S18 hall hlen
    have hodd : ∀ y ∈ items, Odd K F17 m y := fun y hy => odd_aw m1 m4 (hall y hy)
    clear S0 S1 S2 S3 S4 S5 S6 S7 S8 S9 S10 S11 S12 S13 S14 S15 S16 S17 pt1 pt2 pt3 pt4 pt5 pt6 pt7 pt8 pt9 pt10 pt11 l0 l1 l2 l3 l4 l5 l6 u0 u1 u2 u3 u4 u5 u6 u7 u8 u9 u10 u11 u12 u13 u14 u15 u16 g0 g1 g2 g3 g4 g5 g6 g7 g8 g9 g10 g11 g12 g13 g14 g15 g16 g17 hall
    refine ⟨fun σ' H' => ∃ (F18 : Hp) (its : List V) (v5 : Option V), σ' = [some (.ref w0), some (.int (m : Int)), some (.str "abcdefghijklmnopqrstuvwxyz"), some (.int mo), some (.ref q7), v5] ∧ Gr F17 F18 ∧ Sta F18 ((q7, .lst its) :: (w0, o) :: L) H' ∧ its.length ≤ 18 ∧ 0 < its.length ∧ ∀ y ∈ its, Odd K F18 m y, ?_, ?_⟩
    · refine ⟨_, rfl, _, _, rfl, rfl, _, rfl, ?_⟩
      refine ite2 (fun e5 => ?_) (fun e5 => ⟨F17, items, _, rfl, Gr.refl _, S18, by omega, by omega, hodd⟩)
      have m3 : m ≤ 3 := by
        have e := of_decide_eq_true e5
        omega
      refine ⟨_, rfl, .inl ⟨rfl, _, sq S18.hd⟩, ?_⟩
      refine ⟨_, rfl, _, _, rfl, rfl, _, rfl, by omega, by omega, fun D hD => ?_⟩
      refine lc_range (lo := 0) (n := (mo + 1).toNat) (fun i H' => ∃ acc : List Str, acc.length = i ∧ (∀ z ∈ acc, z.length ≤ 100000) ∧ Sta F17 ((D, .lst (sv acc)) :: (q7, .lst items) :: (w0, o) :: L) H') ⟨[], rfl, (fun z hz => by cases hz), S18.newL hD (.lst [])⟩ ?_ ?_
      · rintro i H' hi ⟨acc, hacc, hz, S'⟩
        refine ⟨rfl, ?_⟩
        walk_at "nrm"
        have hi2 : i < 26 := by omega
        have ha := alpha_at i hi2
        refine ⟨_, rfl, _, rfl, alpha, ((0 : Int) + (i : Int)), 97 + i, rfl, rfl, by omega, by omega, ?_, ?_, ?_⟩
        · have := alpha_len
          omega
        · have e : ((0 : Int) + (i : Int)).toNat = i := by omega
          rw [e]
          simpa using ha
        · refine ⟨_, _, rfl, rfl, by show 1 + 1 ≤ sizeLine; decide, _, S'.hd, ?_, acc ++ [zw i], by rw [List.length_append, hacc]; rfl, ?_, ?_⟩
          · rw [List.length_map, hacc]
            exact szl (by omega)
          · intro z hz2
            rcases List.mem_append.mp hz2 with h | h
            · exact hz z h
            · rw [List.mem_singleton.mp h]
              show 2 ≤ 100000
              decide
          · have et : sv (acc ++ [zw i]) = sv acc ++ [V.str (zw i)] := by
              show (acc ++ [zw i]).map V.str = acc.map V.str ++ [V.str (zw i)]
              rw [List.map_append]
              rfl
            rw [et]
            exact S'.set _
      · rintro H20 ⟨acc, hacc, hz, S20⟩
        obtain ⟨F21, S21, g21, lD⟩ := S20.frz
        refine ⟨D, _, rfl, S21.sqL lD.sqL, newT_sta (K := K) S21 fun tz F22 H22 g22 ptz S22 => ?_⟩
        refine ⟨q7, _, _, rfl, rfl, S22.hd, szl (by omega), F22, items ++ [.ref tz], _, rfl, g21.trans g22, S22.set _, by rw [List.length_append]; show items.length + 1 ≤ 18; omega, by rw [List.length_append]; show 0 < items.length + 1; omega, ?_⟩
        intro y hy
        rcases List.mem_append.mp hy with h | h
        · exact (hodd y h).up (g21.trans g22)
        · rw [List.mem_singleton.mp h]
          have hw : ∀ y ∈ sv acc, WT K F22 y := fun y hy => by
            obtain ⟨z, hz2, rfl⟩ := List.mem_map.mp hy
            exact WT.str (hz z hz2)
          have hl1 : (sv acc).length = (mo + 1).toNat := by rw [List.length_map, hacc]
          have aw : ∀ k : Int, k ≤ mo → AW K F22 (.ref tz) k false := fun k hk => awTup ptz (by omega) hw (areW_long (by omega))
          exact ⟨fun e => by omega, fun e => .inl (aw _ (by have := mo3 e; omega)), fun e => aw _ (by have := mo4 e; omega), fun e => by omega, fun e => by omega⟩
    · rintro σ' H19 ⟨F18, its, v5, rfl, g18, S19, il, il0, hodd⟩
      refine ⟨fun σ' H' => ∃ (F18 : Hp) (its : List V) (v5 : Option V), σ' = [some (.ref w0), some (.int (m : Int)), some (.str "abcdefghijklmnopqrstuvwxyz"), some (.int mo), some (.ref q7), v5] ∧ Gr F17 F18 ∧ Sta F18 ((q7, .lst its) :: (w0, o) :: L) H' ∧ its.length ≤ 19 ∧ 0 < its.length ∧ ∀ y ∈ its, Odd K F18 m y, ?_, ?_⟩
      · refine ⟨_, rfl, rfl, _, rfl, ?_⟩
        refine ite2 (fun e5 => ?_) (fun e5 => ⟨F18, its, v5, rfl, g18, S19, by omega, il0, hodd⟩)
        obtain rfl : m = 1 := by
          have e := V.int.inj (of_decide_eq_true e5)
          omega
        refine ⟨_, rfl, .inl ⟨rfl, _, sq S19.hd⟩, by show 1 ≤ sizeLine; decide, newT_sta (K := K) S19 fun tz F22 H22 g22 ptz S22 => ?_⟩
        refine ⟨q7, _, _, rfl, rfl, S22.hd, szl (by omega), F22, its ++ [.ref tz], v5, rfl, g18.trans g22, S22.set _, by rw [List.length_append]; show its.length + 1 ≤ 19; omega, by rw [List.length_append]; show 0 < its.length + 1; omega, ?_⟩
        intro y hy
        rcases List.mem_append.mp hy with h | h
        · exact (hodd y h).up g22
        · rw [List.mem_singleton.mp h]
          exact ⟨fun e => absurd e (by decide), fun _ => .inr ⟨tz, rfl, ptz⟩, fun e => absurd e (by decide), fun e => absurd e (by decide), fun e => absurd e (by decide)⟩
      · rintro σ' H20 ⟨F20, its, v5, rfl, g20, S20, il, il0, hodd⟩
        refine ⟨fun σ' H' => ∃ (F18 : Hp) (its : List V) (v5 : Option V), σ' = [some (.ref w0), some (.int (m : Int)), some (.str "abcdefghijklmnopqrstuvwxyz"), some (.int mo), some (.ref q7), v5] ∧ Gr F17 F18 ∧ Sta F18 ((q7, .lst its) :: (w0, o) :: L) H' ∧ its.length ≤ 20 ∧ 0 < its.length ∧ ∀ y ∈ its, Odd K F18 m y, ?_, ?_⟩
        · refine ⟨_, rfl, rfl, _, rfl, ?_⟩
          refine ite2 (fun e5 => ?_) (fun e5 => ⟨F20, its, v5, rfl, g20, S20, by omega, il0, hodd⟩)
          obtain rfl : m = 4 := by
            have e := V.int.inj (of_decide_eq_true e5)
            omega
          refine ⟨_, rfl, .inl ⟨rfl, _, sq S20.hd⟩, by show 1 ≤ sizeLine; decide, newT_sta (K := K) S20 fun tz F22 H22 g22 ptz S22 => ?_⟩
          refine ⟨q7, _, _, rfl, rfl, S22.hd, szl (by omega), F22, its ++ [.ref tz], v5, rfl, g20.trans g22, S22.set _, by rw [List.length_append]; show its.length + 1 ≤ 20; omega, by rw [List.length_append]; show 0 < its.length + 1; omega, ?_⟩
          intro y hy
          rcases List.mem_append.mp hy with h | h
          · exact (hodd y h).up g22
          · rw [List.mem_singleton.mp h]
            exact ⟨fun e => absurd e (by decide), fun e => absurd e (by decide), fun e => absurd e (by decide), fun _ => .inr ⟨tz, rfl, ptz⟩, fun e => absurd e (by decide)⟩
        · rintro σ' H21 ⟨F21, its, v5, rfl, g21, S21, il, il0, hodd⟩
          obtain ⟨F23, S23, g23, l7⟩ := S21.frz
          exact ⟨_, rfl, _, rfl, F23, L, w0, q7, o, n, its, rfl, S23, W, by omega, l7.sqL, il0, by omega, fun y o2 H24 hy W2 S24 => k y o2 F23 H24 (uu.trans (g21.trans g23)) ((hodd y hy).up g23) W2 S24⟩
end
end Sb


set_option Elab.async false
set_option linter.all false
set_option maxRecDepth 100000
set_option maxHeartbeats 8000000
namespace Sb
open PySem L2
local macro_rules | `(tactic| walk_at "nrm") => `(tactic| try dsimp only [L2.start, List.map, List.length_cons, List.length_nil, List.cons_append, List.nil_append, List.replicate, Nat.reduceAdd, Nat.reduceSub, List.set_cons_zero, List.set_cons_succ, wipe])
/-! ### a row with odd values: which part is told -/
def Lns : List Str := ["name", "needs", "defines", "uses", "weak", "eager", "own_first"]
structure Gd (K : PySem.W.Frag) (F : Hp) (g1 g2 g3 g4 : Addr) : Prop where
  p1 : PT K F g1 (sv ["ab", "cd"])
  p2 : PT K F g2 (sv ["put"])
  p3 : PT K F g3 (sv ["ab", "get"])
  p4 : PT K F g4 (sv ["get"])
theorem Gd.up {K : PySem.W.Frag} {F F' : Hp} {g1 g2 g3 g4 : Addr} (h : Gd K F g1 g2 g3 g4) (g : Gr F F') : Gd K F' g1 g2 g3 g4 := ⟨h.p1.up g, h.p2.up g, h.p3.up g, h.p4.up g⟩
def gdL (g1 g2 g3 g4 : Addr) : List V := [.str "core", .ref g1, .ref g2, .ref g3, .ref g4, .bl true, .bl false]
def RowIs (K : PySem.W.Frag) (F : Hp) (g1 g2 g3 g4 : Addr) (bad : List Nat) (ys : List V) : Prop := ys.length = 7 ∧ ∀ (k : Nat) (y : V), ys[k]? = some y → (k ∈ bad → Odd K F k y) ∧ (k ∉ bad → (gdL g1 g2 g3 g4)[k]? = some y)
theorem RowIs.up {K : PySem.W.Frag} {F F' : Hp} {g1 g2 g3 g4 : Addr} {bad : List Nat} {ys : List V} (h : RowIs K F g1 g2 g3 g4 bad ys) (g : Gr F F') : RowIs K F' g1 g2 g3 g4 bad ys := ⟨h.1, fun k y e => ⟨fun q => ((h.2 k y e).1 q).up g, (h.2 k y e).2⟩⟩
theorem RowIs.set {K : PySem.W.Frag} {F : Hp} {g1 g2 g3 g4 : Addr} {bad : List Nat} {ys : List V} (h : RowIs K F g1 g2 g3 g4 bad ys) {m : Nat} {y : V} (ho : Odd K F m y) : RowIs K F g1 g2 g3 g4 (bad ++ [m]) (ys.set m y) := by
  refine ⟨by rw [List.length_set]; exact h.1, fun k z e => ?_⟩
  by_cases q : k = m
  · subst q
    have hk : k < ys.length := by
      have := (List.getElem?_eq_some_iff.mp e).1
      rw [List.length_set] at this
      exact this
    rw [List.getElem?_set_self hk] at e
    cases Option.some.inj e
    exact ⟨fun _ => ho, fun hn => absurd (List.mem_append_right _ (List.mem_singleton.mpr rfl)) hn⟩
  · rw [List.getElem?_set_ne (Ne.symm q)] at e
    obtain ⟨h1, h2⟩ := h.2 k z e
    refine ⟨fun hm => h1 ?_, fun hn => h2 fun hb => hn (List.mem_append_left _ hb)⟩
    rcases List.mem_append.mp hm with hm | hm
    · exact hm
    · exact absurd (List.mem_singleton.mp hm) q
theorem RowIs.gd {K : PySem.W.Frag} {F : Hp} {g1 g2 g3 g4 : Addr} : RowIs K F g1 g2 g3 g4 [] (gdL g1 g2 g3 g4) := ⟨rfl, fun k y e => ⟨(fun q => by cases q), fun _ => e⟩⟩
/-- the bits of a row -/
structure Bits (bad : List Nat) (b0 b1 e1 b2 b3 b4 e4 b5 b6 : Bool) : Prop where
  h0 : b0 = decide (0 ∉ bad)
  h1 : 0 ∉ bad → (b1 && !e1) = decide (1 ∉ bad)
  h2 : b2 = decide (2 ∉ bad)
  h3 : b3 = decide (3 ∉ bad)
  h4 : 3 ∉ bad → (b4 && e4) = decide (4 ∉ bad)
  h5 : b5 = decide (5 ∉ bad)
  h6 : b6 = decide (6 ∉ bad)
theorem Bits.none {b0 b1 e1 b2 b3 b4 e4 b5 b6 : Bool} (h : Bits [] b0 b1 e1 b2 b3 b4 e4 b5 b6) : flt b0 b1 e1 b2 b3 b4 e4 b5 b6 = none := by
  obtain ⟨rfl, h1, rfl, rfl, h4, rfl, rfl⟩ := h
  have h1 := h1 (by simp)
  have h4 := h4 (by simp)
  have s : ∀ k : Nat, decide (k ∉ ([] : List Nat)) = true := fun k => by simp
  rw [s] at h1 h4
  unfold flt
  rw [s, s, s, s, s]
  cases b1 <;> cases e1 <;> cases b4 <;> cases e4 <;> simp_all
theorem Bits.some {bad : List Nat} {b0 b1 e1 b2 b3 b4 e4 b5 b6 : Bool} (h : Bits bad b0 b1 e1 b2 b3 b4 e4 b5 b6) {m : Nat} (hm : m ∈ bad) (h7 : m < 7) (hl : ∀ y ∈ bad, m ≤ y) : flt b0 b1 e1 b2 b3 b4 e4 b5 b6 = Lns[m]? := by
  obtain ⟨rfl, h1, rfl, rfl, h4, rfl, rfl⟩ := h
  have yes : decide (m ∉ bad) = false := by simp [hm]
  have no : ∀ k, k < m → k ∉ bad := fun k hk hb => by have := hl k hb; omega
  have nod : ∀ k, k < m → decide (k ∉ bad) = true := fun k hk => by simp [no k hk]
  unfold flt Lns
  obtain rfl | rfl | rfl | rfl | rfl | rfl | rfl : m = 0 ∨ m = 1 ∨ m = 2 ∨ m = 3 ∨ m = 4 ∨ m = 5 ∨ m = 6 := by omega
  · simp [hm]
  · have q1 := h1 (no 0 (by decide))
    rw [yes] at q1
    rw [nod 0 (by decide)]
    cases b1 <;> cases e1 <;> simp_all
  · have q1 := h1 (no 0 (by decide))
    rw [nod 1 (by decide)] at q1
    rw [nod 0 (by decide), yes]
    cases b1 <;> cases e1 <;> simp_all
  · have q1 := h1 (no 0 (by decide))
    rw [nod 1 (by decide)] at q1
    rw [nod 0 (by decide), nod 2 (by decide), yes]
    cases b1 <;> cases e1 <;> simp_all
  · have q1 := h1 (no 0 (by decide))
    have q4 := h4 (no 3 (by decide))
    rw [nod 1 (by decide)] at q1
    rw [yes] at q4
    rw [nod 0 (by decide), nod 2 (by decide), nod 3 (by decide)]
    cases b1 <;> cases e1 <;> cases b4 <;> cases e4 <;> simp_all
  · have q1 := h1 (no 0 (by decide))
    have q4 := h4 (no 3 (by decide))
    rw [nod 1 (by decide)] at q1
    rw [nod 4 (by decide)] at q4
    rw [nod 0 (by decide), nod 2 (by decide), nod 3 (by decide), yes]
    cases b1 <;> cases e1 <;> cases b4 <;> cases e4 <;> simp_all
  · have q1 := h1 (no 0 (by decide))
    have q4 := h4 (no 3 (by decide))
    rw [nod 1 (by decide)] at q1
    rw [nod 4 (by decide)] at q4
    rw [nod 0 (by decide), nod 2 (by decide), nod 3 (by decide), nod 5 (by decide), yes]
    cases b1 <;> cases e1 <;> cases b4 <;> cases e4 <;> simp_all
theorem bt_bl {K : PySem.W.Frag} {F : Hp} (b : Bool) : BT K F (.bl b) true := ⟨_, .base (.bl b), kit_ty (by decide +kernel)⟩
theorem row_lib {K : PySem.W.Frag} {F : Hp} {g1 g2 g3 g4 : Addr} {bad : List Nat} {ys : List V} (h : RowIs K F g1 g2 g3 g4 bad ys) (g : Gd K F g1 g2 g3 g4) :
    ∃ y0 y1 y2 y3 y4 y5 y6, ys = [y0, y1, y2, y3, y4, y5, y6] ∧ ∃ fl, LibIn K F y0 y1 y2 y3 y4 y5 y6 fl ∧ (bad = [] → fl = none) ∧ ∀ m, m ∈ bad → m < 7 → (∀ y ∈ bad, m ≤ y) → fl = Lns[m]? := by
  obtain ⟨hl, hr⟩ := h
  obtain ⟨y0, y1, y2, y3, y4, y5, y6, rfl⟩ : ∃ y0 y1 y2 y3 y4 y5 y6, ys = [y0, y1, y2, y3, y4, y5, y6] := by
    match ys, hl with
    | [y0, y1, y2, y3, y4, y5, y6], _ => exact ⟨y0, y1, y2, y3, y4, y5, y6, rfl⟩
  refine ⟨y0, y1, y2, y3, y4, y5, y6, rfl, ?_⟩
  have r0 := hr 0 y0 rfl
  have r1 := hr 1 y1 rfl
  have r2 := hr 2 y2 rfl
  have r3 := hr 3 y3 rfl
  have r4 := hr 4 y4 rfl
  have r5 := hr 5 y5 rfl
  have r6 := hr 6 y6 rfl
  -- name
  obtain ⟨w0, i0, f0⟩ : WT K F y0 ∧ isW y0 = decide (0 ∉ bad) ∧ (isW y0 = true → y0 = .str "core") := by
    by_cases q : 0 ∈ bad
    · obtain ⟨h1, h2⟩ := (r0.1 q).1 rfl
      exact ⟨h1, by rw [h2]; simp [q], fun e => by rw [h2] at e; cases e⟩
    · cases Option.some.inj (r0.2 q)
      exact ⟨WT.str (by decide +kernel), by rw [decide_eq_true q]; decide +kernel, fun _ => rfl⟩
  -- needs
  obtain ⟨b1, e1, a1, n1, n2⟩ : ∃ b1 e1 : Bool, AW K F y1 12 b1 ∧ (isW y0 = true → b1 = true → ∃ a xs, y1 = .ref a ∧ PT K F a xs ∧ flatV y0 = true ∧ xs.all flatV = true ∧ inV y0 xs = e1) ∧ (0 ∉ bad → (b1 && !e1) = decide (1 ∉ bad)) := by
    by_cases q : 1 ∈ bad
    · rcases (r1.1 q).2.1 rfl with h | ⟨a, rfl, h⟩
      · exact ⟨false, false, h, (fun _ e => by cases e), fun _ => by simp [q]⟩
      · refine ⟨true, true, aw_of (ws := ["core"]) h (by decide +kernel) (by decide), fun e _ => ⟨a, _, rfl, h, by rw [f0 e]; rfl, rfl, by rw [f0 e]; decide +kernel⟩, fun _ => by simp [q]⟩
    · cases Option.some.inj (r1.2 q)
      refine ⟨true, false, aw_of g.p1 (by decide +kernel) (by decide), fun e _ => ⟨g1, _, rfl, g.p1, by rw [f0 e]; rfl, rfl, by rw [f0 e]; decide +kernel⟩, fun _ => by simp [q]⟩
  obtain ⟨b2, a2, n3⟩ : ∃ b2 : Bool, AW K F y2 20 b2 ∧ b2 = decide (2 ∉ bad) := by
    by_cases q : 2 ∈ bad
    · exact ⟨false, (r2.1 q).2.2.1 (.inl rfl), by simp [q]⟩
    · cases Option.some.inj (r2.2 q)
      exact ⟨true, aw_of g.p2 (by decide +kernel) (by decide), by simp [q]⟩
  obtain ⟨b3, a3, n4, f3⟩ : ∃ b3 : Bool, AW K F y3 20 b3 ∧ b3 = decide (3 ∉ bad) ∧ (b3 = true → y3 = .ref g3) := by
    by_cases q : 3 ∈ bad
    · exact ⟨false, (r3.1 q).2.2.1 (.inr rfl), by simp [q], fun e => by cases e⟩
    · cases Option.some.inj (r3.2 q)
      exact ⟨true, aw_of g.p3 (by decide +kernel) (by decide), by simp [q], fun _ => rfl⟩
  obtain ⟨b4, e4, a4, n5, n6⟩ : ∃ b4 e4 : Bool, AW K F y4 20 b4 ∧ (b3 = true → b4 = true → ∃ a3 xs3 a4 xs4, y3 = .ref a3 ∧ PT K F a3 xs3 ∧ xs3.all flatV = true ∧ y4 = .ref a4 ∧ PT K F a4 xs4 ∧ xs4.all flatV = true ∧ xs4.length ≤ 1000 ∧ (xs4.all fun z => inV z xs3) = e4) ∧ (3 ∉ bad → (b4 && e4) = decide (4 ∉ bad)) := by
    by_cases q : 4 ∈ bad
    · rcases (r4.1 q).2.2.2.1 rfl with h | ⟨a, rfl, h⟩
      · exact ⟨false, false, h, (fun _ e => by cases e), fun _ => by simp [q]⟩
      · refine ⟨true, false, aw_of (ws := ["notused"]) h (by decide +kernel) (by decide), fun e _ => ⟨g3, _, a, _, f3 e, g.p3, rfl, rfl, h, rfl, by decide, by decide +kernel⟩, fun _ => by simp [q]⟩
    · cases Option.some.inj (r4.2 q)
      refine ⟨true, true, aw_of g.p4 (by decide +kernel) (by decide), fun e _ => ⟨g3, _, g4, _, f3 e, g.p3, rfl, rfl, g.p4, rfl, by decide, by decide +kernel⟩, fun _ => by simp [q]⟩
  obtain ⟨b5, a5, n7⟩ : ∃ b5 : Bool, BT K F y5 b5 ∧ b5 = decide (5 ∉ bad) := by
    by_cases q : 5 ∈ bad
    · exact ⟨false, (r5.1 q).2.2.2.2 (by decide), by simp [q]⟩
    · cases Option.some.inj (r5.2 q)
      exact ⟨true, bt_bl _, by simp [q]⟩
  obtain ⟨b6, a6, n8⟩ : ∃ b6 : Bool, BT K F y6 b6 ∧ b6 = decide (6 ∉ bad) := by
    by_cases q : 6 ∈ bad
    · exact ⟨false, (r6.1 q).2.2.2.2 (by decide), by simp [q]⟩
    · cases Option.some.inj (r6.2 q)
      exact ⟨true, bt_bl _, by simp [q]⟩
  have B : Bits bad (isW y0) b1 e1 b2 b3 b4 e4 b5 b6 := ⟨i0, n2, n3, n4, n6, n7, n8⟩
  refine ⟨_, ⟨b1, e1, b2, b3, b4, e4, b5, b6, w0, a1, n1, a2, a3, a4, n5, a5, a6, rfl⟩, fun e => ?_, fun m hm h7 hl => B.some hm h7 hl⟩
  subst e
  exact B.none
end Sb


set_option Elab.async false
set_option linter.all false
set_option maxRecDepth 100000
set_option maxHeartbeats 8000000
namespace Sb
open PySem L2
local macro_rules | `(tactic| walk_at "nrm") => `(tactic| try dsimp only [L2.start, List.map, List.length_cons, List.length_nil, List.cons_append, List.nil_append, List.replicate, Nat.reduceAdd, Nat.reduceSub, List.set_cons_zero, List.set_cons_succ, wipe])
/-! ### the law -/
def spLaw (K : PySem.W.Frag) : Sp := fun vs H Q _ => ∃ (a : Addr) (ns : List Int), vs = [.ref a] ∧ SqL K H a (ns.map V.int) ∧ ns.length ≤ 63 ∧ ∀ H', Q (.bl true) H'
theorem law_in {K : PySem.W.Frag} {H : Hp} {a : Addr} {ns : List Int} (hS : SqL K H a (ns.map V.int)) (hl : ns.length ≤ 63) : spLaw K [.ref a] H (fun v _ => v = .bl true) fun _ _ _ => False := ⟨a, ns, rfl, hS, hl, fun _ => rfl⟩
theorem ix7 : ∀ m : Nat, m < 7 → ixN 7 (m : Int) = some m
  | 0, _ => rfl
  | 1, _ => rfl
  | 2, _ => rfl
  | 3, _ => rfl
  | 4, _ => rfl
  | 5, _ => rfl
  | 6, _ => rfl
theorem at7 : ∀ m : Nat, m < 7 → ∃ z : Str, Lns[m]? = some z ∧ atI (Lns.map V.str) (m : Int) = some (.str z)
  | 0, _ => ⟨_, rfl, rfl⟩
  | 1, _ => ⟨_, rfl, rfl⟩
  | 2, _ => ⟨_, rfl, rfl⟩
  | 3, _ => ⟨_, rfl, rfl⟩
  | 4, _ => ⟨_, rfl, rfl⟩
  | 5, _ => ⟨_, rfl, rfl⟩
  | 6, _ => ⟨_, rfl, rfl⟩
abbrev iv (bad : List Nat) : List V := (bad.map fun b : Nat => (b : Int)).map V.int
theorem iv_snoc (bad : List Nat) (m : Nat) : iv (bad ++ [m]) = iv bad ++ [V.int (m : Int)] := by
  show ((bad ++ [m]).map _).map V.int = _
  rw [List.map_append, List.map_append]
  rfl
section
variable {P : Program} {w : World} {K : PySem.W.Frag} {mg : Str → Option Value} {base : Heap}
theorem ok_law (T : Top K mg) : FnOk P w K mg base CX0 6 (He.ga K "law") T.fd_law ps_law (spLaw K) := by
  refine T.F_law.ok sc_law (fun vs H Q E h => ?_) (fun cdv A outer s H vs Q E hr h => ?_)
  · obtain ⟨a, ns, rfl, _⟩ := h
    rfl
  · obtain ⟨a, ns, rfl, hS, hlen, k⟩ := h
    refine ⟨_, PSs.nox (pss_cons ((ps_set (i := 1) sc_law.nd rfl (Or.inl rfl) (pe_lst (pa_cons pe_str (pa_cons pe_str (pa_cons pe_str (pa_cons pe_str (pa_cons pe_str (pa_cons pe_str (pa_cons pe_str pa_nil))))))))))
      (pss_cons (ps_for PassesOwn.never rfl (pi_list (pe_op op_cat (pe_slice sl_list (pv 0) po_none (po_some pe_int)) (pe_lst (pa_cons pe_int (pa_cons pe_int pa_nil))))) (pg_name (i := 2) sc_law.nd rfl (Or.inl rfl))
        (pss_cons ((ps_set (i := 3) sc_law.nd rfl (Or.inl rfl) ((pe_call (ok_well T) (hr.mono (by decide)) rfl T.g__law_well T.F__law_well.kp (b__law_well T) .nil pass0 (pa_cons (pv 2) pa_nil)))))
      (pss_cons ((ps_set (i := 4) sc_law.nd rfl (Or.inl rfl) (pe_tupZ (pa_cons pe_str (pa_cons (pe_tupZ (pa_cons pe_str (pa_cons pe_str pa_nil))) (pa_cons (pe_tupZ (pa_cons pe_str pa_nil)) (pa_cons (pe_tupZ (pa_cons pe_str (pa_cons pe_str pa_nil))) (pa_cons (pe_tupZ (pa_cons pe_str pa_nil)) (pa_cons (pe_cmpR op_eq pe_int pe_int (nomark _)) (pa_cons (pe_cmpR op_eq pe_int pe_int (nomark _)) pa_nil))))))))))
      (pss_cons ((ps_if (pt_cmpR op_ne (pe_call (ok_said T) (hr.mono (by decide)) rfl T.g__law_said T.F__law_said.kp (b__law_said T) .nil pass0 (pa_cons (pv 4) pa_nil)) pe_str (nomark _)) (pss_one (ps_ret pe_bl)) pss_nil))
      (pss_one (ps_for PassesOwn.never rfl (pi_range1 rfl T.n_range (pa_cons pe_int pa_nil)) (pg_name (i := 5) sc_law.nd rfl (Or.inl rfl))
          (pss_cons ((ps_set (i := 6) sc_law.nd rfl (Or.inl rfl) (pe_callTy call_list_of (by rfl) T.n_list (by decide +kernel) (pa_cons (pv 4) pa_nil))))
      (pss_cons ((ps_set (i := 7) sc_law.nd rfl (Or.inl rfl) (pe_lst pa_nil)))
      (pss_cons (ps_for PassesOwn.never rfl (pi_range1 rfl T.n_range (pa_cons (pe_op op_add pe_int (pe_call (ok_draw T) (hr.mono (by decide)) rfl T.g__law_draw T.F__law_draw.kp (b__law_draw T) .nil pass0 (pa_cons (pv 3) (pa_cons pe_int pa_nil)))) pa_nil)) (pg_name (i := 8) sc_law.nd rfl (Or.inl rfl))
            (pss_cons ((ps_set (i := 9) sc_law.nd rfl (Or.inl rfl) ((pe_call (ok_draw T) (hr.mono (by decide)) rfl T.g__law_draw T.F__law_draw.kp (b__law_draw T) .nil pass0 (pa_cons (pv 3) (pa_cons pe_int pa_nil))))))
      (pss_cons (ps_asg (pe_call (ok_odd T) (hr.mono (by decide)) rfl T.g__law_odd T.F__law_odd.kp (b__law_odd T) .nil pass0 (pa_cons (pv 3) (pa_cons (pv 9) pa_nil))) (pg_sub (pv 6) (pv 9) set_list))
      (pss_one (ps_expr (pe_bm PySem.F.plainAttrs_list PySem.F.slot_list_append PySem.F.type_list_append mt_append (pv 7) (pa_cons (pv 9) pa_nil)))))))
      (pss_one ((ps_if (pt_cmpR op_ne (pe_call (ok_said T) (hr.mono (by decide)) rfl T.g__law_said T.F__law_said.kp (b__law_said T) .nil pass0 (pa_cons (pe_callTy call_tupZ (by rfl) T.n_tuple (by decide +kernel) (pa_cons (pv 6) pa_nil)) pa_nil)) (pe_ix ix_list (pv 1) (pe_callB (cr_min rfl) (by rfl) T.n_min (by decide +kernel) (pa_cons (pv 7) pa_nil)) (fun _ _ => rfl)) (nomark _)) (pss_one (ps_ret pe_bl)) pss_nil))))))))))))
      (pss_one (ps_ret pe_bl)))), ?_⟩
    walk_at "nrm"
    refine ⟨by show 7 ≤ sizeLine; decide, fun p0 hp0 => ?_⟩
    have S00 := sta0 H
    obtain ⟨F0, S0, g0, l0⟩ := S00.mkF hp0 (.lst [.str "name", .str "needs", .str "defines", .str "uses", .str "weak", .str "eager", .str "own_first"])
    have hS := (Gr.new (o := HO.lst [.str "name", .str "needs", .str "defines", .str "uses", .str "weak", .str "eager", .str "own_first"]) hp0).sqL hS
    have l0 : Has F0 p0 (.lst (Lns.map V.str)) := l0
    generalize upd _ p0 _ = H0 at S0 hS ⊢
    walk_at "nrm"
    refine ⟨_, rfl, _, rfl, a, _, rfl, hS, fun p1 hp1 => ?_⟩
    obtain ⟨F1, S1, g1, l1⟩ := S0.mkF hp1 (.lst (cutV (ns.map V.int) none (some 10)))
    generalize upd _ p1 _ = H1 at S1 ⊢
    refine ⟨by show 2 ≤ sizeLine; decide, fun p2 hp2 => ?_⟩
    obtain ⟨F2, S2, g2, l2⟩ := S1.mkF hp2 (.lst [.int 0, .int 1])
    generalize upd _ p2 _ = H2 at S2 ⊢
    have l1 := l1.up g2
    refine ⟨p1, p2, _, _, rfl, rfl, S2.f l1.1, S2.f l2.1, ?_, fun p3 hp3 => ?_⟩
    · have z := cut_le (ns.map V.int) none (some 10)
      rw [List.length_map] at z
      exact sz (by show (cutV (ns.map V.int) none (some 10)).length + 2 ≤ 100000; omega)
    obtain ⟨F3, S3, g3, l3⟩ := S2.mkF hp3 (.lst (cutV (ns.map V.int) none (some 10) ++ [.int 0, .int 1]))
    generalize upd _ p3 _ = H3 at S3 ⊢
    have hints : ∀ x ∈ cutV (ns.map V.int) none (some 10) ++ [V.int 0, V.int 1], ∃ i : Int, x = .int i := by
      intro x hx
      rcases List.mem_append.mp hx with hx | hx
      · obtain ⟨i, _, rfl⟩ := List.mem_map.mp (cut_mem hx)
        exact ⟨i, rfl⟩
      · simp only [List.mem_cons, List.mem_nil_iff, or_false] at hx
        rcases hx with hx | hx
        · exact ⟨0, hx⟩
        · exact ⟨1, hx⟩
    generalize cutV (ns.map V.int) none (some 10) ++ [V.int 0, V.int 1] = cells at l3 hints ⊢
    have l0 := l0.up (g1.trans (g2.trans g3))
    clear S00 S0 S1 S2 l1 l2 g0 g1 g2 g3 hS
    refine ⟨p3, rfl, ⟨cells, sq (S3.f l3.1)⟩, for_list (K := K) (a := p3) (xs := cells) (fun i σ H' => ∃ v2 v3 v4 v5 v6 v7 v8 v9 : Option V, σ = [some (.ref a), some (.ref p0), v2, v3, v4, v5, v6, v7, v8, v9] ∧ Sta F3 [] H')
      ⟨none, none, none, none, none, none, none, none, rfl, S3⟩ (fun i σ H' _ ⟨_, _, _, _, _, _, _, _, _, S⟩ => sq (S.f l3.1)) ?_ (fun σ H' ⟨_, _, _, _, _, _, _, _, _, _⟩ => k H')⟩
    rintro i y σ H4 hy ⟨v2, v3, v4, v5, v6, v7, v8, v9, rfl, S4⟩
    obtain ⟨c, rfl⟩ := hints y (List.mem_of_getElem? hy)
    show tSeq _ _ _ [some (.ref a), some (.ref p0), some (.int c), v3, v4, v5, v6, v7, v8, v9] H4
    refine ⟨_, rfl, F3, [], c, rfl, S4, fun w0 o0 H5 W5 S5 => ?_⟩
    walk_at "nrm"
    refine ⟨by show 2 ≤ sizeLine; decide, newT_sta (K := K) S5 fun t1 F6 H6 g6 pt1 S6 => ?_⟩
    refine ⟨by show 1 ≤ sizeLine; decide, newT_sta (K := K) S6 fun t2 F7 H7 g7 pt2 S7 => ?_⟩
    refine ⟨by show 2 ≤ sizeLine; decide, newT_sta (K := K) S7 fun t3 F8 H8 g8 pt3 S8 => ?_⟩
    refine ⟨by show 1 ≤ sizeLine; decide, newT_sta (K := K) S8 fun t4 F9 H9 g9 pt4 S9 => ?_⟩
    refine ⟨rfl, rfl, by show 7 ≤ sizeLine; decide, newT_sta (K := K) S9 fun tg F10 H10 g10 ptg S10 => ?_⟩
    walk_at "nrm"
    have gd : Gd K F10 t1 t2 t3 t4 := ⟨pt1.up (g7.trans (g8.trans (g9.trans g10))), pt2.up (g8.trans (g9.trans g10)), pt3.up (g9.trans g10), pt4.up g10⟩
    have eb1 : decide (V.int 1 = V.int 1) = true := by decide
    have eb0 : decide (V.int 1 = V.int 0) = false := by decide
    rw [eb1, eb0] at ptg
    have ptg : PT K F10 tg (gdL t1 t2 t3 t4) := ptg
    have gs := g6.trans (g7.trans (g8.trans (g9.trans g10)))
    clear S5 S6 S7 S8 S9 pt1 pt2 pt3 pt4 g6 g7 g8 g9 g10
    obtain ⟨y0, y1, y2, y3, y4, y5, y6, ey, fl, hin, hnone, _⟩ := row_lib (bad := []) RowIs.gd gd
    have ptg2 := ptg
    rw [ey] at ptg2
    have hf := hnone rfl
    subst hf
    refine ⟨_, rfl, F10, [(w0, o0)], tg, y0, y1, y2, y3, y4, y5, y6, none, rfl, S10, ptg2, hin, fun F11 H11 g11 S11 => ?_⟩
    refine ⟨rfl, false, rfl, ?_⟩
    refine ite2 (fun e => by cases e) (fun _ => ?_)
    have gd := gd.up g11
    have ptg := ptg.up g11
    have gs := gs.trans g11
    have l0 := l0.up gs
    clear S10 ptg2 hin hnone ey g11
    refine ⟨4, rfl, by decide, by decide, for_range (lo := 0) (n := (4 : Int).toNat) (fun i σ H' => ∃ (F' : Hp) (o' : HO) (v5 v6 v7 v8 v9 : Option V), σ = [some (.ref a), some (.ref p0), some (.int c), some (.ref w0), some (.ref tg), v5, v6, v7, v8, v9] ∧ Gr F11 F' ∧ Well (5 * i) o' ∧ Sta F' [(w0, o')] H')
      ⟨F11, o0, _, _, _, _, _, rfl, Gr.refl _, W5, S11⟩ ?_ ?_⟩
    · rintro j σ H12 hj ⟨F12, o12, v5, v6, v7, v8, v9, rfl, g12, W12, S12⟩
      show tSeq _ _ _ [some (.ref a), some (.ref p0), some (.int c), some (.ref w0), some (.ref tg), some (.int (0 + (j : Int))), v6, v7, v8, v9] H12
      have gd := gd.up g12
      have ptg := ptg.up g12
      have l0 := l0.up g12
      refine ⟨_, rfl, tg, _, rfl, .inr (ptg.at S12).sqT, fun pr hpr => ?_⟩
      have S13 := (S12.newL hpr (.lst (gdL t1 t2 t3 t4))).swap
      generalize upd _ pr _ = H13 at S13 ⊢
      walk_at "nrm"
      refine ⟨by show 0 ≤ sizeLine; decide, fun pb hpb => ?_⟩
      have S14 := (S13.newL hpb (.lst (iv []))).swap
      have e14 : upd H13 pb (.lst (iv [])) = upd H13 pb (.lst []) := rfl
      rw [e14] at S14
      generalize upd _ pb _ = H14 at S14 ⊢
      clear S12 S13 e14
      walk_at "nrm"
      refine ⟨_, rfl, F12, _, w0, o12, 5 * j, 2, rfl, S14, W12, by omega, by decide, by decide, fun o15 d H15 W15 d0 d1 S15 => ⟨_, _, rfl, rfl, _, rfl, by omega, by omega, ?_⟩⟩
      refine for_range (lo := 0) (n := (1 + d).toNat) (fun q σ H' => ∃ (F' : Hp) (o' : HO) (bad : List Nat) (ys : List V) (v8 v9 : Option V), σ = [some (.ref a), some (.ref p0), some (.int c), some (.ref w0), some (.ref tg), some (.int (0 + (j : Int))), some (.ref pr), some (.ref pb), v8, v9] ∧ Gr F12 F' ∧ Well (5 * j + 1 + 2 * q) o' ∧
          bad.length = q ∧ (∀ b ∈ bad, b < 7) ∧ RowIs K F' t1 t2 t3 t4 bad ys ∧ Sta F' [(w0, o'), (pb, .lst (iv bad)), (pr, .lst ys)] H')
        ⟨F12, o15, [], _, _, _, rfl, Gr.refl _, W15, rfl, (fun b hb => by cases hb), RowIs.gd, S15⟩ ?_ ?_
      · rintro q σ H16 hq ⟨F16, o16, bad, ys, v8, v9, rfl, g16, W16, hbl, hb7, hrow, S16⟩
        show tSeq _ _ _ [some (.ref a), some (.ref p0), some (.int c), some (.ref w0), some (.ref tg), some (.int (0 + (j : Int))), some (.ref pr), some (.ref pb), some (.int (0 + (q : Int))), v9] H16
        refine ⟨_, rfl, F16, _, w0, o16, _, 7, rfl, S16, W16, by omega, by decide, by decide, fun o17 dd H17 W17 e0 e1 S17 => ?_⟩
        obtain ⟨m, rfl, hm⟩ : ∃ m : Nat, dd = (m : Int) ∧ m < 7 := ⟨dd.toNat, by omega, by omega⟩
        walk_at "nrm"
        refine ⟨_, rfl, _, rfl, F16, _, w0, o17, _, m, rfl, hm, S17, W17, by omega, fun y o18 F18 H18 g18 ho W18 S18 => ?_⟩
        refine ⟨_, rfl, _, rfl, pr, ys, _, m, rfl, rfl, S18.tl.tl.hd, by rw [hrow.1]; exact ix7 m hm, ?_⟩
        have S19 := (S18.perm (List.perm_append_comm (l₁ := [(pr, HO.lst ys)]) (l₂ := [(w0, o18), (pb, HO.lst (iv bad))]))).set (.lst (ys.set m y))
        generalize upd _ pr _ = H19 at S19 ⊢
        have S19 : Sta F18 [(pr, HO.lst (ys.set m y)), (w0, o18), (pb, HO.lst (iv bad))] H19 := S19
        have S20 : Sta F18 [(pb, .lst (iv bad)), (pr, .lst (ys.set m y)), (w0, o18)] H19 := S19.perm (List.perm_append_comm (l₁ := [(pb, HO.lst (iv bad))]) (l₂ := [(pr, HO.lst (ys.set m y)), (w0, o18)]))
        refine ⟨_, rfl, .inl ⟨rfl, _, sq S20.hd⟩, _, rfl, pb, _, _, rfl, rfl, S20.hd, ?_, ?_⟩
        · rw [List.length_map, List.length_map, hbl]
          exact szl (by omega)
        · have S21 := S20.set (.lst (iv bad ++ [V.int (m : Int)]))
          rw [← iv_snoc] at S21
          rw [← iv_snoc]
          refine ⟨F18, o18, bad ++ [m], ys.set m y, _, _, rfl, g16.trans g18, W18.mono (by omega), by rw [List.length_append, hbl]; rfl, ?_, (hrow.up g18).set ho, S21.perm (List.perm_append_comm (l₁ := [(w0, o18)]) (l₂ := [(pb, HO.lst (iv (bad ++ [m]))), (pr, .lst (ys.set m y))]))⟩
          intro b hb
          rcases List.mem_append.mp hb with hb | hb
          · exact hb7 b hb
          · rw [List.mem_singleton.mp hb]
            exact hm
      · rintro σ H16 ⟨F16, o16, bad, ys, v8, v9, rfl, g16, W16, hbl, hb7, hrow, S16⟩
        have gd := gd.up g16
        have l0 := l0.up g16
        obtain ⟨y0, y1, y2, y3, y4, y5, y6, rfl, fl, hin, _, hfl⟩ := row_lib hrow gd
        refine ⟨_, rfl, pr, _, rfl, sq S16.tl.tl.hd, newT_sta (K := K) S16 fun pt F17 H17 g17 hpt S17 => ?_⟩
        refine ⟨F17, _, pt, y0, y1, y2, y3, y4, y5, y6, fl, rfl, S17, hpt, hin.up g17, fun F18 H18 g18 S18 => ?_⟩
        refine ⟨_, rfl, _, rfl, pb, bad.map (fun b : Nat => (b : Int)), rfl, sq S18.tl.hd, by rw [List.length_map, hbl]; omega, fun mn hmn hle => ?_⟩
        obtain ⟨m, hm, rfl⟩ := List.mem_map.mp hmn
        obtain ⟨z, hz1, hz2⟩ := at7 m (hb7 m hm)
        have hfl := hfl m hm (hb7 m hm) fun b hb => by
          have := hle _ (List.mem_map.mpr ⟨b, hb, rfl⟩)
          omega
        rw [hz1] at hfl
        subst hfl
        refine ⟨p0, _, _, _, rfl, rfl, S18.sqL (l0.up (g17.trans g18)).sqL, hz2, rfl, false, ?_, ?_⟩
        · show V.bl (!decide (V.str z = V.str z)) = _
          rw [decide_eq_true rfl]
          rfl
        refine ite2 (fun e => by cases e) (fun _ => ?_)
        exact ⟨F18, o16, _, _, _, _, _, rfl, g12.trans (g16.trans (g17.trans g18)), W16.mono (by omega), (S18.perm (List.perm_append_comm (l₁ := [(pb, HO.lst (iv bad)), (pr, HO.lst [y0, y1, y2, y3, y4, y5, y6])]) (l₂ := [(w0, o16)]))).tl.tl⟩
    · rintro σ H12 ⟨F12, o12, v5, v6, v7, v8, v9, rfl, g12, W12, S12⟩
      exact ⟨_, _, _, _, _, _, _, _, rfl, S12.tl.sub (gs.trans g12)⟩
end
end Sb


set_option Elab.async false
set_option linter.all false
set_option maxRecDepth 100000
set_option maxHeartbeats 0
namespace Sb
open PySem L2 PySem.Spec PyProof.Rows
abbrev R : PySem.W.OpenRow := PySem.W.OpenLaw.row PySem.Challenge.rw_scopebind_k02_invalid_libraries
abbrev hk : PySem.W.Hook := hookB 5 fa fn exB
def ob (s : PySem.W.SharedT) : He.AlD × Bool := (He.obsDG 5 fa fn (HandSHeadRun.getT s), exB (He.frG (HandSHeadRun.getT s) (He.asD (HandSHeadRun.getT s) 5)))
theorem ob_eq (s : PySem.W.SharedT) : ob s = hk.obs s.abs := by
  have e : HandSHeadRun.getT s = s.abs.heap.get? := funext fun a => HandSHeadRun.getT_eq s a
  unfold ob
  rw [e]
  rfl
def names : List PySem.Str := ["LoadError", "NoLibrary", "LONGEST", "is_word", "are_words", "MOST_NEEDS", "MOST_SYMBOLS", "Library", "_law_cell_at", "_law_well", "_law_draw", "_law_one", "_law_odd", "_law_said"]
theorem run (w : World) : HandSHeadRun.RunEq R (PySem.W.view R.prog [18]) hk ob 20000 names w := by
  intro os
  kernel_rfl
end Sb
open PySem PySem.W PySem.Calls PyProof.Rows
theorem PySem.Challenge.cw_scopebind_k02_invalid_libraries_holds : PySem.Challenge.rw_scopebind_k02_invalid_libraries.Holds := by
  w_on; o_law
  refine HandSHeadRun.head_any (r := OpenLaw.row PySem.Challenge.rw_scopebind_k02_invalid_libraries) (q := view (OpenLaw.row PySem.Challenge.rw_scopebind_k02_invalid_libraries).prog [18]) (H := Sb.hk) (ob := Sb.ob) (M := 20000) (loose := Sb.names) (d := HandSHeadRun.topDef (OpenLaw.row PySem.Challenge.rw_scopebind_k02_invalid_libraries).prog 18) (kwd := []) Sb.ob_eq
    (by kernel_rfl) (fun s => by kernel_rfl) Sb.run (by kernel_rfl) (by kernel_rfl) (by kernel_rfl) (by rfl) (by first | assumption | decide +kernel) (by decide +kernel) ⟨rfl, rfl, rfl, rfl, rfl, by decide +kernel⟩ ?hw ?hc
  case hw => w_witness2
  case hc =>
    refine L2.walk_ofE (l := PySem.Challenge.rw_scopebind_k02_invalid_libraries) (n := 63) (k := 6) (x := "_law_script") (CX := L2.CX0) rfl (by decide) (by kernel_rfl) ⟨rfl, by decide, by decide⟩ ?F (fun _ _ _ _ z => z)
    intro w mg fa h Y G hmg0
    obtain ⟨K, KX, c, ex⟩ := Y
    have hmg : mg ("law" : PySem.Str) = some (.ref fa) := by
      have e : (HandSHeadRun.topDef (OpenLaw.row PySem.Challenge.rw_scopebind_k02_invalid_libraries).prog 18).name = ("law" : PySem.Str) := by kernel_rfl
      rw [← e]
      exact hmg0
    obtain ⟨T⟩ := Sb.top_ex KX G c ex
    have e := hmg.symm.trans T.g_law
    cases e
    have b := L2.FunD.bindsA (ps := ["_law_script"]) T.F_law fun _ _ _ _ _ _ us hl => match us, hl with | [_], _ => rfl
    exact ⟨K, T.fd_law, Sb.spLaw K, KX, fun s v => b s [v] rfl, fun H a ns hl hO hS => Sb.law_in hS hl, fun base _ _ => Sb.ok_law T⟩

