import PyProof.Rows.All
import Wide.All
import OpenK.AllK
import Wide.FinOn
import HandS.ForMost
import HandS.ForExc
import HandS.Defaults
import HandS.IsInst
import HandS.ExcInit
import HandS.ExcField
import HandS.DictComp
import HandS.Walk
import HandS.Style
import HandS.MakeKwOnly
import HandS.TryMany
import KE.KExcIs
import HandS.HeadHook2
import KE.DataFind
import KE.KRevSl
import HandS.OwnEq
import HandS.TupAny
import HandS.Evl
import KE.KStateDown
import Lean
import HandS.Head0
import HandS.Head1
import HandS.Head2
import HandS.HeadEnd
import HandS.HeadHook1
import PySem.Challenge.RW_scopebind_k01_libraries_and_values
set_option Elab.async false
set_option linter.all false
set_option maxRecDepth 100000
set_option maxHeartbeats 4000000
namespace Sb
open PySem L2
open PySem L2



/-- F grows -/
def Gr (F F' : Hp) : Prop := ∀ a o, F a = some o → F' a = some o
theorem Gr.refl (F : Hp) : Gr F F := fun _ _ h => h
theorem Gr.trans {A B C : Hp} (h : Gr A B) (g : Gr B C) : Gr A C := fun a o e => g a o (h a o e)
theorem Gr.new {F : Hp} {p : Addr} {o : HO} (h : F p = none) : Gr F (upd F p o) := fun a u e => by
  rw [upd_ne (ne_of_none e h)]
  exact e

structure Has (F : Hp) (p : Addr) (o : HO) : Prop where
  h : F p = some o
theorem Has.up {F F' : Hp} {p : Addr} {o : HO} (h : Has F p o) (g : Gr F F') : Has F' p o := ⟨g _ _ h.1⟩
structure Sta (F : Hp) (L : List (Addr × HO)) (H : Hp) : Prop where
  fr : Gr F H
  own : ∀ a o, (a, o) ∈ L → H a = some o ∧ F a = none
  nd : (L.map (·.1)).Nodup

section
variable {F : Hp} {L : List (Addr × HO)} {H : Hp} {a p : Addr} {o u : HO}
theorem Sta.f (s : Sta F L H) (h : F a = some o) : H a = some o := s.fr a o h
theorem Sta.l (s : Sta F L H) (h : (a, o) ∈ L) : H a = some o := (s.own a o h).1
theorem Sta.hd (s : Sta F ((a, o) :: L) H) : H a = some o := s.l (List.mem_cons_self ..)
theorem Sta.noF (s : Sta F L H) (h : H p = none) : F p = none := by
  cases e : F p with
  | none => rfl
  | some x => rw [s.fr p x e] at h; cases h
theorem Sta.noL (s : Sta F L H) (h : H p = none) : p ∉ L.map (·.1) := fun m => by
  obtain ⟨⟨b, x⟩, hm, e⟩ := List.mem_map.mp m
  have e' : b = p := e
  subst e'
  rw [s.l hm] at h
  cases h
/-- a new object, owned -/
theorem Sta.newL (s : Sta F L H) (h : H p = none) (o : HO) : Sta F ((p, o) :: L) (upd H p o) := by
  refine ⟨fun b x e => ?_, fun b x m => ?_, ?_⟩
  · rw [upd_ne (ne_of_none (s.fr b x e) h)]
    exact s.fr b x e
  · cases m with
    | head => exact ⟨upd_same, s.noF h⟩
    | tail _ m =>
      obtain ⟨e1, e2⟩ := s.own b x m
      exact ⟨by rw [upd_ne (ne_of_none e1 h)]; exact e1, e2⟩
  · show (p :: L.map (·.1)).Nodup
    exact List.nodup_cons.mpr ⟨s.noL h, s.nd⟩
/-- a new object that never changes -/
theorem Sta.newF (s : Sta F L H) (h : H p = none) (o : HO) : Sta (upd F p o) L (upd H p o) := by
  refine ⟨fun b x e => ?_, fun b x m => ?_, s.nd⟩
  · by_cases q : b = p
    · subst q
      rw [upd_same] at e ⊢
      exact e
    · rw [upd_ne q] at e ⊢
      exact s.fr b x e
  · obtain ⟨e1, e2⟩ := s.own b x m
    have q : b ≠ p := ne_of_none e1 h
    exact ⟨by rw [upd_ne q]; exact e1, by rw [upd_ne q]; exact e2⟩
/-- a new object, forgotten -/
theorem Sta.newX (s : Sta F L H) (h : H p = none) (o : HO) : Sta F L (upd H p o) := by
  refine ⟨fun b x e => ?_, fun b x m => ?_, s.nd⟩
  · rw [upd_ne (ne_of_none (s.fr b x e) h)]
    exact s.fr b x e
  · obtain ⟨e1, e2⟩ := s.own b x m
    exact ⟨by rw [upd_ne (ne_of_none e1 h)]; exact e1, e2⟩
/-- a new object that never changes, its state by a name -/
theorem Sta.mkF (s : Sta F L H) (h : H p = none) (o : HO) : ∃ F', Sta F' L (upd H p o) ∧ Gr F F' ∧ Has F' p o := ⟨_, s.newF h o, Gr.new (s.noF h), ⟨upd_same⟩⟩
theorem Sta.noHd (s : Sta F ((a, o) :: L) H) : a ∉ L.map (·.1) := (List.nodup_cons.mp (show (a :: L.map (·.1)).Nodup from s.nd)).1
theorem Sta.ndTl (s : Sta F ((a, o) :: L) H) : (L.map (·.1)).Nodup := (List.nodup_cons.mp (show (a :: L.map (·.1)).Nodup from s.nd)).2
/-- the first owned object changes -/
theorem Sta.set (s : Sta F ((a, o) :: L) H) (u : HO) : Sta F ((a, u) :: L) (upd H a u) := by
  have na := (s.own a o (List.mem_cons_self ..)).2
  refine ⟨fun b x e => ?_, fun b x m => ?_, s.nd⟩
  · rw [upd_ne (ne_of_none e na)]
    exact s.fr b x e
  · cases m with
    | head => exact ⟨upd_same, na⟩
    | tail _ m =>
      obtain ⟨e1, e2⟩ := s.own b x (List.mem_cons_of_mem _ m)
      have q : b ≠ a := fun z => s.noHd (List.mem_map.mpr ⟨(b, x), m, z⟩)
      exact ⟨by rw [upd_ne q]; exact e1, e2⟩
/-- the first owned object is let go: it never changes again | it is forgotten -/
theorem Sta.freeze (s : Sta F ((a, o) :: L) H) : Sta (upd F a o) L H := by
  refine ⟨fun b x e => ?_, fun b x m => ?_, s.ndTl⟩
  · by_cases q : b = a
    · subst q
      rw [upd_same] at e
      cases e
      exact s.hd
    · rw [upd_ne q] at e
      exact s.fr b x e
  · obtain ⟨e1, e2⟩ := s.own b x (List.mem_cons_of_mem _ m)
    have q : b ≠ a := fun z => s.noHd (List.mem_map.mpr ⟨(b, x), m, z⟩)
    exact ⟨e1, by rw [upd_ne q]; exact e2⟩
theorem Sta.hdF (s : Sta F ((a, o) :: L) H) : F a = none := (s.own a o (List.mem_cons_self ..)).2
theorem Sta.tl (s : Sta F ((a, o) :: L) H) : Sta F L H := ⟨s.fr, fun b x m => s.own b x (List.mem_cons_of_mem _ m), s.ndTl⟩
theorem Sta.perm {L' : List (Addr × HO)} (s : Sta F L H) (e : L'.Perm L) : Sta F L' H :=
  ⟨s.fr, fun b x m => s.own b x (e.mem_iff.mp m), (e.map _).nodup_iff.mpr s.nd⟩
theorem Sta.swap {x y : Addr × HO} (s : Sta F (x :: y :: L) H) : Sta F (y :: x :: L) H := s.perm (List.Perm.swap ..)
theorem Sta.sub {F' : Hp} (s : Sta F L H) (g : Gr F' F) : Sta F' L H := by
  refine ⟨g.trans s.fr, fun b x m => ?_, s.nd⟩
  obtain ⟨e1, e2⟩ := s.own b x m
  refine ⟨e1, ?_⟩
  cases q : F' b with
  | none => rfl
  | some z => rw [g b z q] at e2; cases e2
/-- an owned object changes, wherever it stands -/
theorem Sta.put {A B : List (Addr × HO)} (s : Sta F (A ++ (a, o) :: B) H) (u : HO) : Sta F (A ++ (a, u) :: B) (upd H a u) := by
  have e : ∀ x : Addr × HO, List.Perm (x :: (A ++ B)) (A ++ x :: B) := fun x => List.perm_middle.symm
  exact ((s.perm (e _)).set u).perm (e _).symm
theorem Sta.ne (s : Sta F ((a, o) :: L) H) (h : F p = some u) : p ≠ a := ne_of_none h s.hdF
end
/-- a list | a tuple, to be read -/
theorem sq {K : PySem.W.Frag} {H : Hp} {p : Addr} {xs : List V} (h : H p = some (.lst xs)) : SqL K H p xs := .inl (.inl h)
theorem st {K : PySem.W.Frag} {H : Hp} {p : Addr} {xs : List V} (h : H p = some (.tup xs)) : SqT K H p xs := .inl (.inl h)
theorem sz {n : Nat} (h : n ≤ 100000) : n ≤ sizeLine := Nat.le_trans h (by decide)
theorem szl {n : Nat} (h : n < 100000) : n < sizeLine := Nat.lt_of_lt_of_le h (by decide)

end Sb
namespace Sb
open PySem L2

open PySem L2 PySem.Spec PyProof.Rows

/-- what the top says of an own error class at C -/
def excB (K : PySem.W.Frag) (C : Addr) : Bool :=
  (match K.lookup C with
    | some ⟨.type t, _, .cls cd, sl⟩ => decide (t = "type") && (match cd.mro, sl.toList with
      | .ref C' :: bm, [k0, k1, k2, k3, some (.builtin n), k5] => decide (C' = C) && decide (n = "ValueError.__new__") && cd.hasDict && !cd.hasDel && PySem.HandSPX.refsVE bm
      | _, _ => false)
    | _ => false) &&
  (decide (PySem.W.findIn K (.ref C) "__setattr__" = some (some (.builtin "object.__setattr__"))) &&
  (decide (PySem.W.subIn K (.ref C) (.type "BaseException") = some true) &&
  (decide (PySem.W.typeIn K (.ref C) = some (.type "type")) &&
  (PySem.W.keepIn K (.ref C) &&
  (xfB K C &&
  (decide (PySem.W.findIn K (.ref C) "__class__" = some (some (.builtin "object.__class__"))) &&
  (decide (PySem.W.specialIn K (.builtin "object.__class__") "__get__" = some (some (.builtin "getset_descriptor.__get__"))) &&
  (decide (PySem.W.takesIn K (.builtin "object.__class__") = some true) &&
   decide (PySem.W.mroIn K C (.type "object") = some true)))))))))
structure ExcK (K : PySem.W.Frag) (C : Addr) : Prop where
  ox : OexC K C
  xf : XfC K C
  ha : PySem.W.findIn K (.ref C) "__class__" = some (some (.builtin "object.__class__"))
  hn : PySem.W.specialIn K (.builtin "object.__class__") "__get__" = some (some (.builtin "getset_descriptor.__get__"))
  ht : PySem.W.takesIn K (.builtin "object.__class__") = some true
  hm : PySem.W.mroIn K C (.type "object") = some true
theorem and2 {a b : Bool} (h : (a && b) = true) : a = true ∧ b = true := Bool.and_eq_true_iff.mp h
theorem excB_ok {K : PySem.W.Frag} {C : Addr} (h : excB K C = true) : ExcK K C := by
  obtain ⟨h0, h⟩ := and2 h
  obtain ⟨h1, h⟩ := and2 h
  obtain ⟨h2, h⟩ := and2 h
  obtain ⟨h3, h⟩ := and2 h
  obtain ⟨h4, h⟩ := and2 h
  obtain ⟨h5, h⟩ := and2 h
  obtain ⟨h6, h⟩ := and2 h
  obtain ⟨h7, h⟩ := and2 h
  obtain ⟨h8, h9⟩ := and2 h
  refine ⟨⟨?_, of_decide_eq_true h1, of_decide_eq_true h2, of_decide_eq_true h3, h4⟩, xfB_ok h5, of_decide_eq_true h6, of_decide_eq_true h7, of_decide_eq_true h8, of_decide_eq_true h9⟩
  split at h0
  · rename_i t dd cd sl hl
    obtain ⟨ht, h0⟩ := and2 h0
    split at h0
    · rename_i C' bm k0 k1 k2 k3 n k5 hm hs
      obtain ⟨h0, hv⟩ := and2 h0
      obtain ⟨h0, hd⟩ := and2 h0
      obtain ⟨h0, hx⟩ := and2 h0
      obtain ⟨hc, hn⟩ := and2 h0
      have e1 := of_decide_eq_true ht
      have e2 := of_decide_eq_true hc
      have e3 := of_decide_eq_true hn
      subst e1 e2 e3
      obtain ⟨nm, bs, mro, ns, q, hdct, sn, sub, ab, col, del⟩ := cd
      dsimp only at hm hx hd
      subst hm hx
      have e4 : del = false := by cases del with
        | true => cases hd
        | false => rfl
      subst e4
      have e5 : sl = #[k0, k1, k2, k3, some (.builtin "ValueError.__new__"), k5] := Array.toList_inj.mp hs
      subst e5
      exact ⟨_, _, _, _, _, _, _, _, _, _, _, _, _, _, _, hl, hv⟩
    · cases h0
  · cases h0

/-- the error of the class at C with the field f = v, as a value: at a, its dict at d -/
def Err (H : Hp) (a C d : Addr) (f : Str) (v : V) : Prop := H a = some (exo a C (some d)) ∧ H d = some (exd d [(f, v)])

section
variable {X : Cx} {o e : Expr} {es : List Expr} {to te : TE} {ta : TA} {f : Str} {p p' p1 p2 pos : Pos}
/-- C(e, ..) as a value, C's own __init__ keeping sp -/
def tMkV (C : Addr) (sp : Sp) (dvs : List V) (E : XK) (ta : TA) : TE := fun σ H Q => ta σ H fun vs H1 => vs.length ≤ 1000 ∧ ∀ a, H1 a = none → sp (.ref a :: (vs ++ dvs)) (upd H1 a (exo a C none)) (fun v H2 => v = .non ∧ Q (.ref a) H2) E
theorem pe_mkV {CX : CXT} {x : Str} {C fI : Addr} {k : Nat} {fd : FuncData} {ps : List Str} {sp : Sp} {ds : List Value} {dvs : List V} {E : XK} (T : OexC X.K C) (iC : PySem.W.findIn X.K (.ref C) "__init__" = some (some (.ref fI))) (tI : PySem.W.typeIn X.K (.ref fI) = some (.type "function"))
    (F1 : FnOk X.prog X.w X.K X.mg X.base CX k fI fd ps sp) (hr : Room (k + 1) X.A) (hb : Binds X.K fd ps ds) (hd : Vals dvs ds) (hx : Passes CX X E) (hg : Gl X x) (hm : X.mg x = some (.ref C)) (ha : PA X (e :: es) ta)
    (hdb : (x == ("__debug__" : Str)) = false := by decide) (he : starEach (e :: es) X.env = (false, eval e X.env) :: starEach es X.env := by rfl) (hpl : (backTo pos (starEach es X.env)).any (·.1) = false := by rfl) :
    PE X (.Call (.Name x p) (e :: es) [] pos) (tMkV C sp dvs E ta) := by
  refine ⟨fun pins s σ H Q I h => ?_⟩
  obtain ⟨nm, q, N, bs, bm, sn, sub, ab, col, dd, k0, k1, k2, k3, k5, hC, hbm⟩ := T.cls
  refine wpAny_Call_Name_kw (ld_glob I hg hm ?_ hdb)
  refine PySem.W.callWith_K (h₀ := X.base) I.ok.mod.kin T.kC (thn (ha.run pos pins s σ H _ I h) fun us s1 ⟨vs, H1, I1, r1, hz, q1⟩ => ⟨I1.kIn, ?_⟩) he hpl
  show wpAny _ _ (call (.ref C) us) _ _ _
  obtain ⟨hp, g, dr, tk, os⟩ := s1
  have hsz : hp.objs.size ≤ hp.objs.size + 1 := Nat.le_succ _
  have hn : H1 (hp.objs.size + 1) = none := I1.hok.fresh hsz
  have hq := q1 (hp.objs.size + 1) hn
  have kk : ∀ b o, hp.get? b = some o → ((hp.push (PySem.W.kdv_tup us)).push (PySem.HandSPX.excO C hp.objs.size)).get? b = some o := fun b o e => Heap.get?_push_of_some _ (Heap.get?_push_of_some _ e)
  have hget : ((hp.push (PySem.W.kdv_tup us)).push (PySem.HandSPX.excO C hp.objs.size)).get? (hp.objs.size + 1) = some (PySem.HandSPX.excO C hp.objs.size) := by heap_get
  have I2 : Inv X pins σ (upd H1 (hp.objs.size + 1) (exo (hp.objs.size + 1) C none)) ⟨(hp.push (PySem.W.kdv_tup us)).push (PySem.HandSPX.excO C hp.objs.size), g, dr, tk, os⟩ :=
    I1.laid (t' := tk) (a := hp.objs.size + 1) (o := exo (hp.objs.size + 1) C none) (h' := (hp.push (PySem.W.kdv_tup us)).push (PySem.HandSPX.excO C hp.objs.size)) kk hsz (exo_ok hget)
  have r2 : Vals (V.ref (hp.objs.size + 1) :: (vs ++ dvs)) (Value.ref (hp.objs.size + 1) :: (us ++ ds)) := .cons rfl (r1.append hd)
  have hl : (Value.ref (hp.objs.size + 1) :: us ++ ds).length = ps.length := by
    have e := r2.length
    rw [F1.len _ _ _ _ hq] at e
    exact e.symm
  have hus : us.length ≤ sizeLine := by
    rw [← Paired.length r1, sizeLine_eq]
    omega
  refine wpAny_call (PySem.HandSPX.call_own F.excBase_ValueError (fun Y => PySem.HandSPX.refsVE_contains Y bm hbm) (I1.kIn _ _ hC) (PySem.W.looks_findIn I1.kIn iC) (fun self => PySem.W.bind_fn I1.kIn self tI) hus
    (codeAny_mono (F1.run _ X.stack _ _ ⟨Value.ref (hp.objs.size + 1) :: us, []⟩ (Value.ref (hp.objs.size + 1) :: (us ++ ds)) _ _ E (hr.make C us []) (I2.env0.make C us []) (hb _ (Value.ref (hp.objs.size + 1) :: us) I2.kIn hl) r2 hq) fun r s' hq' => ?_))
  cases r with
  | error er => exact hx pins σ _ _ er s' I2 hq'
  | ok fl =>
    cases fl with
    | ret u =>
      obtain ⟨v, H2, J, rv, ev, q2⟩ := (I2.after hq' : EP X pins σ _ u s')
      subst ev
      obtain rfl : u = Value.none := rv
      exact ⟨rfl, .ref (hp.objs.size + 1), H2, J, rfl, q2⟩
    | next => exact False.elim hq'
    | brk => exact False.elim hq'
    | cont => exact False.elim hq'
/-- e.f, e an error that is a value -/
def tErF (K : PySem.W.Frag) (f : Str) (te : TE) : TE := fun σ H Q => te σ H fun x H1 => ∃ (a C d : Addr) (v : V), x = .ref a ∧ Err H1 a C d f v ∧ XfC K C ∧ PySem.W.findIn K (.ref C) f = some none ∧ Q v H1
theorem pe_erF (he : PE X e te) (hb : attributeBase e f X.env (eval e X.env) = eval e X.env := by rfl) : PE X (.Attribute e f pos) (tErF X.K f te) := by
  refine ⟨fun pins s σ H Q I h => ?_⟩
  refine attr_of hb (thn (he.run pins s σ H _ I h) fun u s1 hh => ?_)
  obtain ⟨x, H1, I1, rx, a, C, d, v, ex, ⟨ea, ed⟩, T, hno, q⟩ := hh
  subst ex
  obtain rfl : u = Value.ref a := rx
  obtain ⟨t1, ha⟩ := exo_at I1.hok ea
  obtain ⟨mA, hns, hr⟩ := exd_at I1.hok ed
  obtain ⟨od, ho, hl⟩ := lookIn_ns hns
  have l : List.lookup f [(f, v)] = some v := by simp [List.lookup]
  obtain ⟨u, hu, ru⟩ := RelO.some_of (v := v) (o := mA f) (by rw [← l]; exact hr f)
  have J : PySem.W.InstAt s1.heap a _ C (some od) := ⟨ha, rfl, rfl, ho⟩
  exact HandSPX.exc_get I1.kIn J T.ga T.gg T.exC (PySem.W.findObj_own T.hdC hno rfl (by rw [hl, hu])) (handed_of ru) ⟨v, H1, I1.tok _, ru, q⟩
/-- isinstance(e, c), e an error that is a value -/
def rIsV (K : PySem.W.Frag) : List V → Hp → VK → Prop := fun xs H Q => ∃ (a C d : Addr) (f : Str) (y c : V) (u : Value) (b : Bool), xs = [.ref a, c] ∧ ClsV c u ∧ Err H a C d f y ∧ ExcK K C ∧ PySem.W.kitOne K (.ref C) u = some b ∧ Q (.bl b) H
theorem call_isV : CallR X (.builtin "isinstance") (rIsV X.K) := by
  intro pins s σ H xs us Q I r h
  obtain ⟨a, C, d, f, y, c, u, b, rfl, k, ⟨ea, ed⟩, T, e, q⟩ := h
  obtain ⟨u1, u2, rfl, r1, r2⟩ := vals2 r
  have e2 := k.eq r2
  subst e2
  obtain rfl : u1 = Value.ref a := r1
  obtain ⟨t1, ha⟩ := exo_at I.hok ea
  obtain ⟨mA, hns, hr⟩ := exd_at I.hok ed
  obtain ⟨od, ho, hl⟩ := lookIn_ns hns
  have J : PySem.W.InstAt s.heap a _ C (some od) := ⟨ha, rfl, rfl, ho⟩
  have hc : (PySem.W.clsIn X.K C).isSome = true := by
    have h0 := T.xf.hdC
    unfold PySem.W.hasDictIn at h0
    cases q : PySem.W.clsIn X.K C with
    | none => rw [q] at h0; cases h0
    | some _ => rfl
  exact PySem.W.kia_one (PySem.W.kitx_exc (ox := { cls := .ref C, dict := some d, data := .fields #[.ref t1, .none, .none, .none, .bool false, .none] }) (od := some od) hc T.xf.ga T.xf.gg T.xf.exC T.ha T.hn T.ht T.hm) I.kIn J e (fun z => nomatch z) fun tk => ⟨.bl b, H, I.tok tk, rfl, q⟩
end

/-! the head's further facts -/
def hookB (n : Nat) (fa : List He.Fa) (fn : List He.DefD) (ex : PySem.W.Frag → Bool) : PySem.W.Hook where
  α := He.AlD × Bool
  obs := fun s => (He.obsDG n fa fn s.heap.get?, ex (He.frG s.heap.get? (He.asD s.heap.get? n)))
  val := fun _ => (He.valD fn, true)
  says := fun _ h => ∃ K : PySem.W.Frag, K.In h ∧ He.SaysD fa fn K ∧ ex K = true
  of := fun _ _ e => ⟨_, He.frG_in, congrArg Prod.fst e, congrArg Prod.snd e⟩
  keeps := fun _ _ _ ⟨K, hK, c⟩ k => ⟨K, PySem.W.Frag.In.keeps hK k, c⟩
/-- what isinstance asks of an own class -/
structure OwnK (K : PySem.W.Frag) (C : Addr) : Prop where
  ha : PySem.W.findIn K (.ref C) "__class__" = some (some (.builtin "object.__class__"))
  hn : PySem.W.specialIn K (.builtin "object.__class__") "__get__" = some (some (.builtin "getset_descriptor.__get__"))
  ht : PySem.W.takesIn K (.builtin "object.__class__") = some true
  hm : PySem.W.mroIn K C (.type "object") = some true
  kt : ∀ t ∈ ["NoneType", "int", "str", "bool", "list", "tuple", "dict"], PySem.W.kitOne K (.type t) (.ref C) = some false
  kc : ∀ t ∈ ["NoneType", "int", "str", "bool", "list", "tuple", "dict"], PySem.W.kitOne K (.ref C) (.type t) = some false
def ownB (K : PySem.W.Frag) (C : Addr) : Bool :=
  decide (PySem.W.findIn K (.ref C) "__class__" = some (some (.builtin "object.__class__"))) &&
  (decide (PySem.W.specialIn K (.builtin "object.__class__") "__get__" = some (some (.builtin "getset_descriptor.__get__"))) &&
  (decide (PySem.W.takesIn K (.builtin "object.__class__") = some true) &&
  (decide (PySem.W.mroIn K C (.type "object") = some true) &&
  ((["NoneType", "int", "str", "bool", "list", "tuple", "dict"].all fun t => decide (PySem.W.kitOne K (.type t) (.ref C) = some false)) &&
   (["NoneType", "int", "str", "bool", "list", "tuple", "dict"].all fun t => decide (PySem.W.kitOne K (.ref C) (.type t) = some false))))))
theorem ownB_ok {K : PySem.W.Frag} {C : Addr} (h : ownB K C = true) : OwnK K C := by
  obtain ⟨h1, h⟩ := and2 h
  obtain ⟨h2, h⟩ := and2 h
  obtain ⟨h3, h⟩ := and2 h
  obtain ⟨h4, h⟩ := and2 h
  obtain ⟨h5, h6⟩ := and2 h
  exact ⟨of_decide_eq_true h1, of_decide_eq_true h2, of_decide_eq_true h3, of_decide_eq_true h4, fun t ht => of_decide_eq_true (List.all_eq_true.mp h5 t ht), fun t ht => of_decide_eq_true (List.all_eq_true.mp h6 t ht)⟩
/-- the object that a keyword-only default of a def is -/
def kwAt (f : Str × Option Str) (x : Str) (K : PySem.W.Frag) : Addr := match K.lookup (He.fAd K f) with
  | some ⟨_, _, .func fd, _⟩ => (match fd.kwdefaults with
    | .ref D => (match PySem.W.nsIn K D x with
      | some (some (.ref a)) => a
      | _ => 0)
    | _ => 0)
  | _ => 0
/-- an empty tuple of the top's -/
def emptyB (K : PySem.W.Frag) (a : Addr) : Bool := match K.lookup a with
  | some ⟨.type c, none, .seq its _, _⟩ => decide (c = "tuple") && its.isEmpty
  | _ => false
theorem emptyB_ok {K : PySem.W.Frag} {a : Addr} (h : emptyB K a = true) (H : Hp) : SqT K H a [] := by
  unfold emptyB at h
  split at h
  · rename_i c its n sl hl
    obtain ⟨h1, h2⟩ := and2 h
    have e1 := of_decide_eq_true h1
    have e2 := Array.isEmpty_iff.mp h2
    subst e1 e2
    exact .inr ⟨_, #[], n, hl, rfl, rfl, Nat.zero_le _, .nil⟩
  · cases h
/-! sundries -/
/-- either of two rules for an operator -/
theorem op_or {X : Cx} {f : Value → Value → Sem Value} {r1 r2 : R2} (h1 : OpR X f r1) (h2 : OpR X f r2) : OpR X f (fun x y H Q => r1 x y H Q ∨ r2 x y H Q) := by
  intro pins s σ H x y v u Q I rx ry h
  rcases h with h | h
  · exact h1 pins s σ H x y v u Q I rx ry h
  · exact h2 pins s σ H x y v u Q I rx ry h
theorem atI_in {xs : List V} {d : Int} (h0 : 0 ≤ d) (h1 : d < xs.length) : ∃ x, x ∈ xs ∧ atI xs d = some x := by
  have hlt : d.toNat < xs.length := by omega
  have e : ((d.toNat : Nat) : Int) = d := by omega
  refine ⟨xs[d.toNat], List.getElem_mem _, ?_⟩
  have q : atI xs ((d.toNat : Nat) : Int) = some xs[d.toNat] := atI_nat (by simp [hlt])
  rw [e] at q
  exact q
theorem sta0 (H : Hp) : Sta (fun _ => none) [] H := ⟨(fun _ _ h => by cases h), (fun _ _ h => by cases h), List.nodup_nil⟩
theorem cut_le (xs : List V) (lo hi : Option Int) : (cutV xs lo hi).length ≤ xs.length := by
  unfold cutV
  rw [List.length_take, List.length_drop]
  omega
theorem cut_mem {xs : List V} {lo hi : Option Int} {x : V} (h : x ∈ cutV xs lo hi) : x ∈ xs := List.mem_of_mem_drop (List.mem_of_mem_take h)
theorem lay_list : ∀ {ds : List PyData}, (∀ d ∈ ds, PyData.canLay0 d = true ∧ PyData.depth d = 0) → PyData.canLayAll0 ds = true ∧ PyData.depthAll ds = 0
  | [], _ => ⟨by simp [PyData.canLayAll0], by simp [PyData.depthAll]⟩
  | d :: ds, h => by
    obtain ⟨h1, h2⟩ := h d (List.mem_cons_self ..)
    obtain ⟨h3, h4⟩ := lay_list fun z hz => h z (List.mem_cons_of_mem _ hz)
    exact ⟨by simp [PyData.canLayAll0, h1, h3], by simp [PyData.depthAll, h2, h4]⟩
theorem shaped_list {ds : List PyData} (h : ∀ d ∈ ds, PyData.canLay0 d = true ∧ PyData.depth d = 0) : SeqAt.shaped (.list ds) = true := by
  obtain ⟨h1, h2⟩ := lay_list h
  unfold SeqAt.shaped
  simp [PyData.canLay0, PyData.depth, h1, h2]
/-- x != x is False, whatever is drawn -/
def SameV (K : PySem.W.Frag) (H : Hp) (x : V) : Prop := ∃ d, Dp K H x d ∧ SeqAt.shaped d = true
def OwnD (H : Hp) (x : V) : Prop := ∃ a, x = .ref a ∧ H a = some (.dK [])
theorem same_ne {K : PySem.W.Frag} {H : Hp} {x : V} {Q : VK} (h : SameV K H x) (k : Q (.bl false) H) : rNeD K x x H Q := by
  obtain ⟨d, h1, h2⟩ := h
  refine ⟨d, d, h1, h1, h2, h2, ?_⟩
  have e : PyData.eqv d d = true := SeqAt.eqv_refl d (SeqAt.canLay_of_shaped h2)
  rw [e]
  exact k
theorem dict_ne {H : Hp} {x : V} {Q : VK} (h : OwnD H x) (k : Q (.bl false) H) : rNeDA x x H Q := by
  obtain ⟨a, rfl, h⟩ := h
  exact ⟨a, a, [], [], rfl, rfl, h, h, rfl, (fun p hp => by cases hp), k⟩
/-- bools, one by one -/
theorem dp_bools {K : PySem.W.Frag} {H : Hp} : ∀ (bs : List Bool), DpAll K H (bs.map V.bl) (bs.map PyData.bool)
  | [] => .nil
  | b :: bs => .cons (.bl b) (dp_bools bs)
theorem lay_bools (bs : List Bool) : ∀ d ∈ bs.map PyData.bool, PyData.canLay0 d = true ∧ PyData.depth d = 0 := by
  intro d hd
  obtain ⟨y, hy, rfl⟩ := List.mem_map.mp hd
  exact ⟨rfl, rfl⟩


/-- a well: three whole numbers; drawn from at most n times -/
def Well (n : Nat) (o : HO) : Prop := ∃ a b c : Int, o = .lst [.int a, .int b, .int c] ∧ 0 ≤ b ∧ b < 2147483647 ∧ 0 ≤ c ∧ c ≤ n
theorem fmodP {x m : Int} (h : 0 < m) : 0 ≤ x.fmod m ∧ x.fmod m < m := ⟨Int.fmod_nonneg_of_pos x h, Int.fmod_lt_of_pos x h⟩
theorem Well.mono {n m : Nat} {o : HO} (h : Well n o) (e : n ≤ m) : Well m o := by
  obtain ⟨a, b, c, h0, h1, h2, h3, h4⟩ := h
  exact ⟨a, b, c, h0, h1, h2, h3, by omega⟩
/-- to be read, whatever the heap grows to -/
theorem Gr.sqL {K : PySem.W.Frag} {F F' : Hp} {a : Addr} {xs : List V} (g : Gr F F') (h : SqL K F a xs) : SqL K F' a xs := by
  rcases h with (h | ⟨o, h⟩) | h
  · exact .inl (.inl (g _ _ h))
  · exact .inl (.inr ⟨o, g _ _ h⟩)
  · exact .inr h
theorem Gr.sqT {K : PySem.W.Frag} {F F' : Hp} {a : Addr} {xs : List V} (g : Gr F F') (h : SqT K F a xs) : SqT K F' a xs := by
  rcases h with (h | ⟨o, h⟩) | h
  · exact .inl (.inl (g _ _ h))
  · exact .inl (.inr ⟨o, g _ _ h⟩)
  · exact .inr h
theorem Sta.sqL {K : PySem.W.Frag} {F H : Hp} {L : List (Addr × HO)} {a : Addr} {xs : List V} (S : Sta F L H) (h : SqL K F a xs) : SqL K H a xs := Gr.sqL S.fr h
theorem Sta.sqT {K : PySem.W.Frag} {F H : Hp} {L : List (Addr × HO)} {a : Addr} {xs : List V} (S : Sta F L H) (h : SqT K F a xs) : SqT K H a xs := Gr.sqT S.fr h
theorem Has.sqT {K : PySem.W.Frag} {F : Hp} {a : Addr} {xs : List V} (h : Has F a (.tup xs)) : SqT K F a xs := .inl (.inl h.1)
theorem Has.sqL {K : PySem.W.Frag} {F : Hp} {a : Addr} {xs : List V} (h : Has F a (.lst xs)) : SqL K F a xs := .inl (.inl h.1)
/-- a tuple's type -/
theorem ty_tup {K : PySem.W.Frag} {H : Hp} {a : Addr} {xs : List V} (h : SqT K H a xs) : TyX K H (.ref a) (.type "tuple") := by
  rcases h with (h | ⟨o, h⟩) | ⟨o, its, n, h1, h2, _⟩
  · exact .base (.tup h)
  · exact .fTuple h
  · exact .kTuple h1 h2
theorem Gr.tyX {K : PySem.W.Frag} {F F' : Hp} {x : V} {t : Value} (g : Gr F F') (h : TyX K F x t) : TyX K F' x t := by
  cases h with
  | base b =>
    cases b with
    | non => exact .base .non
    | bl y => exact .base (.bl y)
    | int i => exact .base (.int i)
    | str y => exact .base (.str y)
    | flt y => exact .base (.flt y)
    | lst e => exact .base (.lst (g _ _ e))
    | frz e => exact .base (.frz (g _ _ e))
    | tup e => exact .base (.tup (g _ _ e))
    | dK e => exact .base (.dK (g _ _ e))
    | dT e => exact .base (.dT (g _ _ e))
    | ins e cl ha hn htk hm => exact .base (.ins (g _ _ e) cl ha hn htk hm)
  | byt y => exact .byt y
  | set e => exact .set (g _ _ e)
  | kList e c => exact .kList e c
  | kTuple e c => exact .kTuple e c
  | kDict e c => exact .kDict e c
  | fTuple e => exact .fTuple (g _ _ e)
  | fDict e => exact .fDict (g _ _ e)
end Sb


set_option Elab.async false
set_option linter.all false
set_option maxRecDepth 100000
set_option maxHeartbeats 4000000
namespace Sb
open PySem L2 PySem.Spec PyProof.Rows
/-! ### plain tuples: the very object is known, it has no dict -/
def PT (K : PySem.W.Frag) (H : Hp) (a : Addr) (xs : List V) : Prop :=
  (∃ o, H a = some (.frz o (.tup xs)) ∧ o.cls = .type "tuple" ∧ o.dict = none) ∨
  (∃ (o : Obj) (its : Array Value) (n : Nat), K.lookup a = some o ∧ o.cls = .type "tuple" ∧ o.dict = none ∧ o.data = .seq its n ∧ its.size ≤ sizeLine ∧ Vals xs its.toList)
theorem PT.sqT {K : PySem.W.Frag} {H : Hp} {a : Addr} {xs : List V} (h : PT K H a xs) : SqT K H a xs := by
  rcases h with ⟨o, h, _⟩ | ⟨o, its, n, h1, h2, _, h3, h4, h5⟩
  · exact .inl (.inr ⟨o, h⟩)
  · exact .inr ⟨o, its, n, h1, h2, h3, h4, h5⟩
theorem PT.up {K : PySem.W.Frag} {F F' : Hp} {a : Addr} {xs : List V} (h : PT K F a xs) (g : Gr F F') : PT K F' a xs := by
  rcases h with ⟨o, h, r⟩ | h
  · exact .inl ⟨o, g _ _ h, r⟩
  · exact .inr h
theorem PT.at {K : PySem.W.Frag} {F H : Hp} {L : List (Addr × HO)} {a : Addr} {xs : List V} (h : PT K F a xs) (S : Sta F L H) : PT K H a xs := h.up S.fr
theorem emptyB_pt {K : PySem.W.Frag} {a : Addr} (h : emptyB K a = true) (H : Hp) : PT K H a [] := by
  unfold emptyB at h
  split at h
  · rename_i c its n sl hl
    obtain ⟨h1, h2⟩ := and2 h
    have e1 := of_decide_eq_true h1
    have e2 := Array.isEmpty_iff.mp h2
    subst e1 e2
    exact .inr ⟨_, #[], n, hl, rfl, rfl, rfl, Nat.zero_le _, .nil⟩
  · cases h
theorem Sta.mkT {K : PySem.W.Frag} {F H : Hp} {L : List (Addr × HO)} {p : Addr} {o : Obj} {xs : List V} (s : Sta F L H) (h : H p = none) (hc : o.cls = .type "tuple") (hd : o.dict = none) :
    ∃ F', Sta F' L (upd H p (.frz o (.tup xs))) ∧ Gr F F' ∧ PT K F' p xs := ⟨_, s.newF h _, Gr.new (s.noF h), .inl ⟨o, upd_same, hc, hd⟩⟩
/-- what follows a new plain tuple -/
def NewT (xs : List V) (H : Hp) (Q : VK) : Prop := ∀ (p : Addr) (o : Obj), o.cls = .type "tuple" → o.dict = none → H p = none → Q (.ref p) (upd H p (.frz o (.tup xs)))
section
variable {X : Cx} {pins : List (Addr × Obj)} {σ : L2.St} {H : Hp} {s : Shared}
theorem newT_run {h' : Heap} {tk : Nat} {its : List Value} {xs : List V} {Q : VK} (I : Inv X pins σ H { s with heap := h', toks := tk }) (r : Vals xs its) (hz : xs.length ≤ sizeLine) (q : NewT xs H Q) :
    EP X pins σ Q (.ref h'.objs.size) { s with heap := h'.push { cls := .type "tuple", data := .seq its.toArray }, toks := tk } := by
  have hp : H h'.objs.size = none := I.hok.fresh (Nat.le_refl _)
  have hg := Heap.get?_push_size h' (o := ({ cls := .type "tuple", data := .seq its.toArray } : Obj)) rfl
  exact ⟨.ref h'.objs.size, _, I.laid (t' := tk) (o := .frz { cls := .type "tuple", data := .seq its.toArray } (.tup xs)) (fun b u e => Heap.get?_push_of_some _ e) (Nat.le_refl _)
    ⟨hg, hz, its, r, ⟨_, hg, rfl, _, rfl⟩⟩, rfl, q _ _ rfl rfl hp⟩
/-- (a, b, ..) -/
def tTupZ (t : TA) : TE := fun σ H Q => t σ H fun xs H1 => xs.length ≤ sizeLine ∧ NewT xs H1 Q
theorem pe_tupZ {es : List Expr} {t : TA} {pos : Pos} {x1} (h : PA X es t) : PE X (.Tuple es x1 pos) (tTupZ t) := by
  refine ⟨fun pins s σ H Q I hq => ?_⟩
  refine wpAny_Tuple_spliced (thn (h.run pos pins s σ H _ I hq) fun us s1 ⟨xs, H1, I1, r, z, q⟩ => ⟨by rw [← r.length]; exact z, ?_⟩)
  exact newT_run (s := s1) I1 r z q
/-- tuple(a list) -/
theorem call_tupZ : CallR X (.type "tuple") (fun xs H Q => ∃ p ys, xs = [.ref p] ∧ SqL X.K H p ys ∧ NewT ys H Q) := by
  intro pins s σ H xs us Q I r h
  obtain ⟨p, ys, rfl, hq, q⟩ := h
  obtain ⟨u, rfl, rx⟩ := vals1 r
  cases rx
  obtain ⟨its, r', pl, hz⟩ := I.list hq
  have hlen := r'.length
  refine call_tuple_list pl.isList (fun h' kp => ?_) (by simp only [List.size_toArray] <;> omega)
  exact newT_run (s := s) (I.kept (t' := s.toks) kp) r' hz q
/-- t + u, neither empty (u empty: t itself) -/
def rCatZ (K : PySem.W.Frag) : R2 := fun x y H Q => ∃ a b xs ys, x = .ref a ∧ y = .ref b ∧ SqT K H a xs ∧ SqT K H b ys ∧ xs ≠ [] ∧ ys ≠ [] ∧ xs.length + ys.length ≤ sizeLine ∧ NewT (xs ++ ys) H Q
theorem op_catZ : OpR X (binaryOp .Add) (rCatZ X.K) := by
  intro pins s σ H x y v u Q I rx ry h
  obtain ⟨a, b, xs, ys, rfl, rfl, ha, hb, hx, hy, hz, q⟩ := h
  cases rx
  cases ry
  obtain ⟨its, r1, p1, _⟩ := I.tuple ha
  obtain ⟨its2, r2, p2, _⟩ := I.tuple hb
  refine HT.cat_tup p1 p2 (fun z => hx (r1.nil_iff.mp z)) (fun z => absurd (r2.nil_iff.mp z) hy) (fun z => ?_) (by rw [← r1.length, ← r2.length]; exact hz)
  have e : its.toArray ++ its2.toArray = (its ++ its2).toArray := by simp
  have q' := newT_run (s := s) (h' := s.heap) (tk := s.toks) I (r1.append r2) (by rw [List.length_append]; exact hz) q
  first
    | exact q'
    | (rw [e]; exact q')
/-- t[lo:hi], not the whole -/
def rSlZ (K : PySem.W.Frag) : V → Option Int → Option Int → Hp → VK → Prop := fun x lo hi H Q => ∃ a xs, x = .ref a ∧ SqT K H a xs ∧ ¬ (HT.sIx xs.length 0 lo = 0 ∧ HT.sIx xs.length xs.length hi = xs.length) ∧ NewT (cutV xs lo hi) H Q
theorem sl_tupZ : SlR X (rSlZ X.K) := by
  intro pins s σ H x v vl vu lo hi sl Q I rx hs pl pu h
  obtain ⟨a, xs, rfl, hx, hw, q⟩ := h
  cases rx
  obtain ⟨its, r, ht, hz⟩ := I.tuple hx
  have hlen : its.toArray.size = xs.length := by rw [List.size_toArray]; exact r.length.symm
  refine ⟨"tuple", _, PyProof.Rows.slot_tuple_getitem.lookup, ht.typeIs, ?_⟩
  refine HT.getItem_tuple_cut ht hs pl pu (by rw [hlen]; exact hw) ?_ (by rw [hlen]; exact hz)
  rw [hlen]
  exact newT_run (s := s) (h' := s.heap) (tk := s.toks) I ((r.drop (HT.sIx xs.length 0 lo)).take (HT.sIx xs.length xs.length hi - HT.sIx xs.length 0 lo)) (Nat.le_trans (cutV_length xs lo hi) hz) q
/-! ### a method of a plain tuple -/
def tBMP (K : PySem.W.Frag) (r : V → List V → Hp → VK → Prop) (to : TE) (t : TA) : TE := fun σ H Q => to σ H fun x H1 => (∃ a xs, x = .ref a ∧ PT K H1 a xs) ∧ t σ H1 fun ys H2 => r x ys H2 Q
theorem pe_bmP {o e : Expr} {es : List Expr} {to : TE} {t : TA} {name : Str} {apos cpos : Pos} {id : String} {r : V → List V → Hp → VK → Prop} (pa : PlainAttrs "tuple") (slot : Slot "tuple" name id) (hty : typeOf (.builtin id) = pure (.type "method_descriptor")) (hm : MtR X id r) (ho : PE X o to) (ha : PA X (e :: es) t)
    (hbase : attributeBase o name X.env (eval o X.env) = eval o X.env := by rfl)
    (hfew : ((backTo cpos (starEach (e :: es) X.env)).all (fun x => !x.1) && (backToKw cpos (keywordEach [] X.env)).all (fun x => x.1.isSome)
      && decide ((e :: es).length + ([] : List Keyword).length + (if ([] : List Keyword).isEmpty then 0 else 1) < 30)) = true := by rfl)
    (hline : (apos.endLine == cpos.line) = true := by rfl) (hs : starEach (e :: es) X.env = (false, eval e X.env) :: starEach es X.env := by rfl) (hplain : (backTo cpos (starEach es X.env)).any (·.1) = false := by rfl) :
    PE X (.Call (.Attribute o name apos) (e :: es) [] cpos) (tBMP X.K r to t) := by
  refine ⟨fun pins s σ H Q I h => ?_⟩
  refine wpAny_Call_method_late hbase hfew hline rfl (thn (ho.run pins s σ H _ I h) fun v s1 ⟨x, H1, I1, r1, ⟨a, xs, ex, ty⟩, q1⟩ => ?_)
  subst ex
  obtain rfl : v = Value.ref a := r1
  have hob : ∃ ob, s1.heap.get? a = some ob ∧ ob.cls = .type "tuple" ∧ ob.dict = none := by
    rcases ty with ⟨ob, h1, h2, h3⟩ | ⟨ob, its, n, h1, h2, h3, _⟩
    · exact ⟨ob, (show ObjOk X.prog X.w H1 s1.heap a (.frz ob (.tup xs)) from I1.hok a _ h1).1, h2, h3⟩
    · exact ⟨ob, I1.kIn a ob h1, h2, h3⟩
  obtain ⟨ob, g1, g2, g3⟩ := hob
  refine ⟨"tuple", id, pa, slot, hty, ⟨ob, g1, g2⟩, (fun b eb => by cases eb; exact ⟨ob, g1, g3⟩), ?_⟩
  have hA := ha.run cpos pins s1 σ H1 _ I1 q1
  rw [hs] at hA ⊢
  refine Calls.callWith_builtin (by show (false || (backTo cpos (starEach es X.env)).any (·.1)) = false; rw [hplain] <;> rfl) (Calls.evalArgs_plain ?_)
  exact thn hA fun us s2 ⟨vs, H2, I2, r2, q2⟩ => hm pins s2 σ H2 (.ref a) vs (.ref a) us Q I2 rfl r2 q2
/-- t.count(a text), t of texts -/
def rTCount (K : PySem.W.Frag) : V → List V → Hp → VK → Prop := fun x xs H Q => ∃ (a : Addr) (z : Str) (ws : List Str), x = .ref a ∧ xs = [.str z] ∧ SqT K H a (ws.map V.str) ∧ Q (.int ((ws.count z : Nat) : Int)) H
theorem dp_strs {K : PySem.W.Frag} {H : Hp} : ∀ (ws : List Str), DpAll K H (ws.map V.str) (ws.map PyData.str)
  | [] => .nil
  | z :: ws => .cons (.str z) (dp_strs ws)
theorem plain_strs : ∀ (ws : List Str), PyData.plainAll (ws.map PyData.str) = true
  | [] => rfl
  | z :: ws => by
    show (PyData.plain (.str z) && PyData.plainAll (ws.map PyData.str)) = true
    rw [plain_strs ws]
    rfl
theorem depth_strs : ∀ (ws : List Str), PyData.depthAll (ws.map PyData.str) = 0
  | [] => rfl
  | z :: ws => by
    show max (PyData.depth (.str z)) (PyData.depthAll (ws.map PyData.str)) = 0
    rw [depth_strs ws]
    rfl
theorem count_strs (z : Str) : ∀ (ws : List Str), (ws.map PyData.str).countP (fun y => PyData.eqv y (.str z)) = ws.count z
  | [] => rfl
  | x :: ws => by
    rw [List.map_cons, List.countP_cons, List.count_cons, count_strs z ws]
    have e : PyData.eqv (.str x) (.str z) = (x == z) := by simp [PyData.eqv]
    rw [e]
theorem mt_tcount (hu : X.A.units + 65 < cLine) : MtR X "tuple.count" (rTCount X.K) := by
  intro pins s σ H x xs v us Q I rx rxs h
  obtain ⟨a, z, ws, rfl, rfl, hx, q⟩ := h
  obtain rfl : v = Value.ref a := rx
  obtain ⟨u, rfl, ru⟩ := vals1 rxs
  obtain ⟨its, r, ht, hz⟩ := I.tuple hx
  obtain ⟨as, h4⟩ := Dp.readsAll I (ws.map PyData.str) (ws.map V.str) its (dp_strs ws) r
  obtain ⟨bs, h5⟩ := Dp.reads I (.str z) (.str z) u (.str z) ru
  refine PySem.SeqAt.count_tuple_data (vs := its.toArray) ht h4 h5 (plain_strs ws) rfl (by rw [depth_strs]; show X.A.units + 1 + min 0 0 < cLine; omega) ?_
  rw [count_strs]
  exact ⟨.int ((ws.count z : Nat) : Int), H, I.tok _, ⟨_, rfl⟩, q⟩
/-! ### xs[::e], e is 1 or -1 -/
theorem pick_one (items : Array Value) : slicePick items none none (some 1) = items.toList.toArray := by
  have e : slicePick items none none (some 1) = slicePick items none none none := rfl
  rw [e, slicePick_all, Array.toArray_toList]
def tStepL (K : PySem.W.Frag) (te ti : TE) : TE := fun σ H Q => te σ H fun x H1 => ti σ H1 fun i H2 => ∃ a xs, x = .ref a ∧ SqL K H2 a xs ∧ ((i = .int 1 ∧ ∀ p, H2 p = none → Q (.ref p) (upd H2 p (.lst xs))) ∨ (i = .int (-1) ∧ ∀ p, H2 p = none → Q (.ref p) (upd H2 p (.lst xs.reverse))))
theorem pe_stepL {e i : Expr} {te ti : TE} {p3 pos : Pos} (he : PE X e te) (hi : PE X i ti) : PE X (.Subscript e (.Slice none none (some i) p3) pos) (tStepL X.K te ti) := by
  refine ⟨fun pins s σ H Q I h => ?_⟩
  refine Subscript_ (thn (he.run pins s σ H _ I h) fun v s1 ⟨x, H1, I1, r1, q1⟩ => ?_)
  refine wpAny_Slice (thn (po_none.run pins s1 σ H1 (fun o H2 => o = none ∧ H2 = H1) I1 ⟨rfl, rfl⟩) fun vl s2 ⟨l, H2, I2, pl, el, e2⟩ => ?_)
  subst el e2
  refine thn (po_none.run pins s2 σ H2 (fun o H3 => o = none ∧ H3 = H2) I2 ⟨rfl, rfl⟩) fun vu s3 ⟨u, H3, I3, pu, eu, e3⟩ => ?_
  subst eu e3
  rw [evalPart_some]
  refine thn (hi.run pins s3 σ H3 _ I3 q1) fun vs s4 ⟨y, H4, I4, r4, q4⟩ => ?_
  obtain ⟨a, xs, ex, hx, q⟩ := q4
  subst ex
  obtain rfl : v = Value.ref a := r1
  have I5 : Inv X pins σ H4 { s4 with heap := s4.heap.push { cls := .type "slice", data := .fields #[vl, vu, vs] } } := I4.kept (t' := s4.toks) fun b ob q => Heap.get?_push_of_some _ q
  obtain ⟨its, r, ht, hz⟩ := I5.list hx
  have hlen := r.length
  show wpAny (model X.prog X.w) X.A (subscriptTail e (.Slice none none (some i) p3) (.ref a) (.ref s4.heap.objs.size)) (EP X pins σ Q) X.xe { s4 with heap := s4.heap.push { cls := .type "slice", data := .fields #[vl, vu, vs] } }
  refine tail_any (ops := [.ref a, .ref s4.heap.objs.size]) ht.isList.typeIs (PySem.slot_list_getitem.lookup) ?_ (by with_unfolding_all rfl)
  rcases q with ⟨ey, q⟩ | ⟨ey, q⟩
  · subst ey
    obtain ⟨t, rfl⟩ := r4
    refine wpAny_getItem_list_slice ht.isList (Heap.IsSliceOf.new _ vl vu _) pl pu (.int 1 t) (by decide) ?_ (by rw [List.size_toArray]; omega)
    rw [pick_one]
    refine ⟨.ref _, _, I5.laid (t' := s4.toks) (o := .lst xs) (fun b ob q => Heap.get?_push_of_some _ q) (Nat.le_refl _) ?_, rfl, q _ (I5.hok.fresh (Nat.le_refl _))⟩
    exact ⟨hz, _, 0, r, Heap.get?_push_size _ rfl⟩
  · subst ey
    obtain ⟨t, rfl⟩ := r4
    refine wpAny_getItem_list_slice ht.isList (Heap.IsSliceOf.new _ vl vu _) pl pu (.int (-1) t) (by decide) ?_ (by rw [List.size_toArray]; omega)
    rw [PySem.W.krv_pick]
    refine ⟨.ref _, _, I5.laid (t' := s4.toks) (o := .lst xs.reverse) (fun b ob q => Heap.get?_push_of_some _ q) (Nat.le_refl _) ?_, rfl, q _ (I5.hok.fresh (Nat.le_refl _))⟩
    exact ⟨by rw [List.length_reverse]; exact hz, _, 0, r.reverse, Heap.get?_push_size _ rfl⟩
/-! ### own special methods: ==, in, not in, o[i], len -/
/-- a == b, a's class has its own __eq__, which answers a bool -/
def rEqO (K : PySem.W.Frag) (sp : Sp) (f : Addr) (E : XK) : R2 := fun x y H Q => ∃ (a C dx : Addr) (fs : List (Str × V)) (t : Value), x = .ref a ∧ H a = some (.ins C dx fs) ∧ TyX K H y t ∧ PySem.W.notFirst K C t = true ∧
  PySem.W.findIn K (.ref C) "__eq__" = some (some (.ref f)) ∧ PySem.W.isFn K (.ref f) = true ∧ sp [x, y] H (fun v H' => (∃ b, v = .bl b) ∧ Q v H') E
theorem op_eqO {CX : CXT} {k : Nat} {f : Addr} {fd : FuncData} {ps : List Str} {sp : Sp} {E : XK} (F : FnOk X.prog X.w X.K X.mg X.base CX k f fd ps sp) (hr : Room k X.A) (hb : Binds X.K fd ps []) (hx : Passes CX X E) :
    OpR X (compareOp .Eq) (rEqO X.K sp f E) := by
  intro pins s σ H x y v u Q I rx ry h
  obtain ⟨a, C, dx, fs, t, rfl, ha, ty, hn, hs, hf, hq⟩ := h
  obtain rfl : v = Value.ref a := rx
  obtain ⟨mA, J, _⟩ := ins_get I.hok ha
  obtain ⟨od, J, _⟩ := J.look
  obtain ⟨m, hF⟩ := I.fr
  obtain ⟨P, Z, p, hne⟩ := kit_of I ry ty
  refine PySem.W.cmp_ofEq (PySem.W.cmp_K (op := .Eq) hr.units0 hF I.ok.mod.kin J (Z.ty _ _ I.kIn p) hn hs hf ?_)
  refine wpAny_mono (run_fn (us := [.ref a, u]) (vs := [.ref a, y]) F hr hb .nil hx I (.cons rfl (.cons ry .nil)) hq) (fun w s' hw => ?_) fun _ _ z => z
  obtain ⟨z, H', I', rz, ⟨b, ez⟩, hq'⟩ := hw
  subst ez
  obtain rfl : w = Value.bool b := rz
  exact ⟨.bl b, H', I', rfl, hq'⟩
/-- y in a, y not in a: a's class has its own __contains__, which answers a bool -/
def rInO (K : PySem.W.Frag) (neg : Bool) (sp : Sp) (f : Addr) (E : XK) : R2 := fun y x H Q => ∃ (a C dx : Addr) (fs : List (Str × V)), x = .ref a ∧ H a = some (.ins C dx fs) ∧
  PySem.W.findIn K (.ref C) "__contains__" = some (some (.ref f)) ∧ PySem.W.isFn K (.ref f) = true ∧ sp [x, y] H (fun v H' => ∃ b, v = .bl b ∧ Q (.bl (if neg then !b else b)) H') E
theorem op_inO {CX : CXT} {k : Nat} {f : Addr} {fd : FuncData} {ps : List Str} {sp : Sp} {E : XK} (F : FnOk X.prog X.w X.K X.mg X.base CX k f fd ps sp) (hr : Room k X.A) (hb : Binds X.K fd ps []) (hx : Passes CX X E) :
    OpR X (compareOp .In) (rInO X.K false sp f E) := by
  intro pins s σ H y x u v Q I ry rx h
  obtain ⟨a, C, dx, fs, rfl, ha, hs, hf, hq⟩ := h
  obtain rfl : v = Value.ref a := rx
  obtain ⟨mA, J, _⟩ := ins_get I.hok ha
  obtain ⟨od, J, _⟩ := J.look
  obtain ⟨m, hF⟩ := I.fr
  refine PySem.W.in_K hF I.ok.mod.kin J hs hf ?_
  refine wpAny_mono (run_fn (us := [.ref a, u]) (vs := [.ref a, y]) F hr hb .nil hx I (.cons rfl (.cons ry .nil)) hq) (fun w s' hw => ?_) fun _ _ z => z
  obtain ⟨z, H', I', rz, b, ez, hq'⟩ := hw
  subst ez
  obtain rfl : w = Value.bool b := rz
  exact wpAny_truthy_bool ⟨.bl b, H', I', rfl, hq'⟩
theorem op_notinO {CX : CXT} {k : Nat} {f : Addr} {fd : FuncData} {ps : List Str} {sp : Sp} {E : XK} (F : FnOk X.prog X.w X.K X.mg X.base CX k f fd ps sp) (hr : Room k X.A) (hb : Binds X.K fd ps []) (hx : Passes CX X E) :
    OpR X (compareOp .NotIn) (rInO X.K true sp f E) := by
  intro pins s σ H y x u v Q I ry rx h
  obtain ⟨a, C, dx, fs, rfl, ha, hs, hf, hq⟩ := h
  obtain rfl : v = Value.ref a := rx
  obtain ⟨mA, J, _⟩ := ins_get I.hok ha
  obtain ⟨od, J, _⟩ := J.look
  obtain ⟨m, hF⟩ := I.fr
  refine PySem.W.notIn_K hF I.ok.mod.kin J hs hf ?_
  refine wpAny_mono (run_fn (us := [.ref a, u]) (vs := [.ref a, y]) F hr hb .nil hx I (.cons rfl (.cons ry .nil)) hq) (fun w s' hw => ?_) fun _ _ z => z
  obtain ⟨z, H', I', rz, b, ez, hq'⟩ := hw
  subst ez
  obtain rfl : w = Value.bool b := rz
  exact wpAny_truthy_bool ⟨.bl (!b), H', I', rfl, hq'⟩
end
theorem room65 {k : Nat} {A : Around} (hr : Room k A) : A.units + 65 < cLine := by
  have := hr.un
  omega
/-! ### == and != of plain data, whatever its texts -/
def rEqP (K : PySem.W.Frag) (neg : Bool) : R2 := fun x y H Q => ∃ d e, Dp K H x d ∧ Dp K H y e ∧ d.plain = true ∧ e.plain = true ∧ d.depth ≤ 64 ∧ Q (.bl (if neg then !PyData.eqv d e else PyData.eqv d e)) H
section
variable {X : Cx}
theorem op_eqP (hu : X.A.units + 64 < cLine) : OpR X (compareOp .Eq) (rEqP X.K false) := by
  intro pins s σ H x y v u Q I rx ry h
  obtain ⟨d, e, hd, he, pd, pe, dd, q⟩ := h
  obtain ⟨as, h1⟩ := Dp.reads I d x v hd rx
  obtain ⟨bs, h2⟩ := Dp.reads I e y u he ry
  exact PySem.SeqAt.eq_plain h1 h2 pd pe (by omega) ⟨.bl _, H, I, rfl, q⟩
theorem op_neP (hu : X.A.units + 64 < cLine) : OpR X (compareOp .NotEq) (rEqP X.K true) := by
  intro pins s σ H x y v u Q I rx ry h
  obtain ⟨d, e, hd, he, pd, pe, dd, q⟩ := h
  obtain ⟨as, h1⟩ := Dp.reads I d x v hd rx
  obtain ⟨bs, h2⟩ := Dp.reads I e y u he ry
  exact PySem.SeqAt.ne_plain h1 h2 pd pe (by omega) ⟨.bl _, H, I, rfl, q⟩
end
mutual
theorem Dp.upG {K : PySem.W.Frag} {F F' : Hp} (g : Gr F F') : ∀ (d : PyData) (v : V), Dp K F v d → Dp K F' v d
  | .none, _, h => by cases h; exact .non
  | .bool b, _, h => by cases h; exact .bl b
  | .int i, _, h => by cases h; exact .int i
  | .str z, _, h => by cases h; exact .str z
  | .list ds, _, h => by
    cases h with
    | lst hs ha => exact .lst (g.sqL hs) (DpAll.upG g ds _ ha)
  | .tuple ds, _, h => by
    cases h with
    | tup hs ha => exact .tup (g.sqT hs) (DpAll.upG g ds _ ha)
  | .dict _, _, h => by cases h
theorem DpAll.upG {K : PySem.W.Frag} {F F' : Hp} (g : Gr F F') : ∀ (ds : List PyData) (vs : List V), DpAll K F vs ds → DpAll K F' vs ds
  | [], _, h => by cases h; exact .nil
  | d :: ds, _, h => by
    cases h with
    | cons h1 h2 => exact .cons (Dp.upG g d _ h1) (DpAll.upG g ds _ h2)
end
theorem eqvAll_strs : ∀ (ws vs : List Str), PyData.eqvAll (ws.map PyData.str) (vs.map PyData.str) = decide (ws = vs)
  | [], [] => by simp [PyData.eqvAll]
  | [], _ :: _ => by simp [PyData.eqvAll]
  | _ :: _, [] => by simp [PyData.eqvAll]
  | w :: ws, v :: vs => by
    show PyData.eqvAll (.str w :: ws.map PyData.str) (.str v :: vs.map PyData.str) = _
    rw [PyData.eqvAll, eqvAll_strs ws vs]
    have e : PyData.eqv (.str w) (.str v) = decide (w = v) := by
      have e1 : PyData.eqv (.str w) (.str v) = (w == v) := by simp [PyData.eqv]
      rw [e1]
      by_cases q : w = v <;> simp [q]
    rw [e]
    by_cases h1 : w = v
    · subst h1
      by_cases h2 : ws = vs
      · subst h2; simp
      · simp [h2]
    · simp [h1]
theorem eqv_tup (xs ys : List PyData) : PyData.eqv (.tuple xs) (.tuple ys) = PyData.eqvAll xs ys := by rw [PyData.eqv]
theorem inV_strs (z : Str) : ∀ (ws : List Str), inV (.str z) (ws.map V.str) = decide (z ∈ ws)
  | [] => by simp [inV]
  | w :: ws => by
    have ih := inV_strs z ws
    unfold inV at ih ⊢
    rw [List.map_cons, List.any_cons, ih]
    have e : eqV (.str w) (.str z) = decide (w = z) := by
      by_cases q : w = z
      · subst q; simp [eqV]
      · simp [eqV, q]
    rw [e]
    by_cases h1 : w = z
    · subst h1; simp
    · have h2 : ¬ z = w := fun q => h1 q.symm
      by_cases h3 : z ∈ ws
      · simp [h3]
      · simp [h1, h2, h3]
theorem flat_strs (ws : List Str) : (ws.map V.str).all flatV = true := by
  rw [List.all_map]
  exact List.all_eq_true.mpr fun x _ => rfl
theorem putF_new {f : Str} {v : V} : ∀ {fs : List (Str × V)}, (fs.all fun q => decide (q.1 ≠ f)) = true → putF f v fs = fs ++ [(f, v)]
  | [], _ => rfl
  | (g, x) :: r, h => by
    rw [List.all_cons, Bool.and_eq_true] at h
    have h1 : ¬ g = f := by simpa using h.1
    show (if g = f then (g, v) :: r else (g, x) :: putF f v r) = _
    rw [if_neg h1, putF_new h.2]
    rfl
theorem putF_k {f : Str} {v : V} {fs : List (Str × V)} (ks : List Str) (hk : fs.map (·.1) = ks) (h : (ks.all fun g => decide (g ≠ f)) = true) : putF f v fs = fs ++ [(f, v)] := by
  refine putF_new ?_
  rw [← hk, List.all_map] at h
  exact h
/-- a new instance: its dict, itself -/
theorem Sta.mkI {F H : Hp} {L : List (Addr × HO)} {x dx C : Addr} (s : Sta F L H) (hx : H x = none) (hd : H dx = none) (ne : dx ≠ x) :
    ∃ F', Sta F' ((x, .ins C dx []) :: L) (upd (upd H dx (.own x)) x (.ins C dx [])) ∧ Gr F F' ∧ Has F' dx (.own x) := by
  have s1 := s.newF hd (.own x)
  have hx1 : upd H dx (.own x) x = none := by rw [upd_ne (Ne.symm ne)]; exact hx
  exact ⟨_, s1.newL hx1 _, Gr.new (s.noF hd), ⟨upd_same⟩⟩
theorem Sta.frz {F H : Hp} {L : List (Addr × HO)} {a : Addr} {o : HO} (s : Sta F ((a, o) :: L) H) : ∃ F', Sta F' L H ∧ Gr F F' ∧ Has F' a o := ⟨_, s.freeze, Gr.new s.hdF, ⟨upd_same⟩⟩
end Sb


set_option Elab.async false
set_option linter.all false
set_option maxRecDepth 100000
set_option maxHeartbeats 4000000
namespace Sb
open PySem L2 PySem.Spec PyProof.Rows
section
variable {X : Cx}
/-- t + u of plain tuples, whatever they hold -/
def rCatZA (K : PySem.W.Frag) : R2 := fun x y H Q => ∃ a b xs ys, x = .ref a ∧ y = .ref b ∧ PT K H a xs ∧ PT K H b ys ∧ xs.length + ys.length ≤ sizeLine ∧
  (xs = [] → Q (.ref b) H) ∧ (xs ≠ [] → ys = [] → Q (.ref a) H) ∧ (xs ≠ [] → ys ≠ [] → NewT (xs ++ ys) H Q)
theorem op_catZA : OpR X (binaryOp .Add) (rCatZA X.K) := by
  intro pins s σ H x y v u Q I rx ry h
  obtain ⟨a, b, xs, ys, rfl, rfl, ha, hb, hz, q1, q2, q3⟩ := h
  by_cases hx : xs = []
  · subst hx
    obtain rfl : v = Value.ref a := rx
    obtain rfl : u = Value.ref b := ry
    obtain ⟨its, r1, p1, _⟩ := I.tuple ha.sqT
    obtain ⟨its2, r2, p2, _⟩ := I.tuple hb.sqT
    have e : its = [] := r1.nil_iff.mpr rfl
    subst e
    exact L2.cat_tup0 p1 p2 ⟨.ref b, H, I, rfl, q1 rfl⟩
  · by_cases hy : ys = []
    · subst hy
      obtain rfl : v = Value.ref a := rx
      obtain rfl : u = Value.ref b := ry
      obtain ⟨its, r1, p1, _⟩ := I.tuple ha.sqT
      obtain ⟨its2, r2, p2, _⟩ := I.tuple hb.sqT
      have e : its2 = [] := r2.nil_iff.mpr rfl
      refine HT.cat_tup p1 p2 (fun z => hx (r1.nil_iff.mp z)) (fun _ => ⟨.ref a, H, I, rfl, q2 hx rfl⟩) (fun z => absurd e z) (by rw [← r1.length, ← r2.length]; exact hz)
    · exact op_catZ pins s σ H _ _ v u Q I rx ry ⟨a, b, xs, ys, rfl, rfl, ha.sqT, hb.sqT, hx, hy, hz, q3 hx hy⟩
/-- t[lo:hi] of a plain tuple: the whole is t itself -/
def rSlZA (K : PySem.W.Frag) : V → Option Int → Option Int → Hp → VK → Prop := fun x lo hi H Q => ∃ a xs, x = .ref a ∧ PT K H a xs ∧
  ((HT.sIx xs.length 0 lo = 0 ∧ HT.sIx xs.length xs.length hi = xs.length) → Q (.ref a) H) ∧ (¬ (HT.sIx xs.length 0 lo = 0 ∧ HT.sIx xs.length xs.length hi = xs.length) → NewT (cutV xs lo hi) H Q)
theorem sl_tupZA : SlR X (rSlZA X.K) := by
  intro pins s σ H x v vl vu lo hi sl Q I rx hs pl pu h
  obtain ⟨a, xs, rfl, hx, q1, q2⟩ := h
  by_cases hw : HT.sIx xs.length 0 lo = 0 ∧ HT.sIx xs.length xs.length hi = xs.length
  · obtain rfl : v = Value.ref a := rx
    obtain ⟨its, r, ht, hz⟩ := I.tuple hx.sqT
    have hlen : its.toArray.size = xs.length := by rw [List.size_toArray]; exact r.length.symm
    exact ⟨"tuple", _, PyProof.Rows.slot_tuple_getitem.lookup, ht.typeIs, getItem_tuple_whole ht hs pl pu (by rw [hlen]; exact hw) ⟨.ref a, H, I, rfl, q1 hw⟩⟩
  · exact sl_tupZ pins s σ H _ v vl vu lo hi sl Q I rx hs pl pu ⟨a, xs, rfl, hx.sqT, hw, q2 hw⟩
end
section
variable {K : PySem.W.Frag} {F H : Hp} {L : List (Addr × HO)} {xs ys : List V} {Q : VK} {a b : Addr}
theorem newT_sta (S : Sta F L H) (k : ∀ (p : Addr) (F' H' : Hp), Gr F F' → PT K F' p xs → Sta F' L H' → Q (.ref p) H') : NewT xs H Q := fun p o hc hd hp => by
  obtain ⟨F', S', g, hP⟩ := S.mkT (K := K) (xs := xs) hp hc hd
  exact k p F' _ g hP S'
theorem cat_sta (S : Sta F L H) (pa : PT K F a xs) (pb : PT K F b ys) (hz : xs.length + ys.length ≤ 100000) (k : ∀ (p : Addr) (F' H' : Hp), Gr F F' → PT K F' p (xs ++ ys) → Sta F' L H' → Q (.ref p) H') : rCatZA K (.ref a) (.ref b) H Q := by
  refine ⟨a, b, xs, ys, rfl, rfl, pa.at S, pb.at S, sz hz, fun e => ?_, fun _ e => ?_, fun _ _ => newT_sta S k⟩
  · subst e
    exact k b F H (Gr.refl F) pb S
  · subst e
    refine k a F H (Gr.refl F) ?_ S
    rw [List.append_nil]
    exact pa
theorem cut_whole {xs : List V} {lo hi : Option Int} (h : HT.sIx xs.length 0 lo = 0 ∧ HT.sIx xs.length xs.length hi = xs.length) : cutV xs lo hi = xs := by
  unfold cutV
  rw [h.1, h.2, List.drop_zero, Nat.sub_zero, List.take_length]
theorem slice_sta {lo hi : Option Int} (S : Sta F L H) (pa : PT K F a xs) (k : ∀ (p : Addr) (F' H' : Hp), Gr F F' → PT K F' p (cutV xs lo hi) → Sta F' L H' → Q (.ref p) H') : rSlZA K (.ref a) lo hi H Q := by
  refine ⟨a, xs, rfl, pa.at S, fun w => ?_, fun _ => newT_sta S k⟩
  refine k a F H (Gr.refl F) ?_ S
  rw [cut_whole w]
  exact pa
end
end Sb


set_option Elab.async false
set_option linter.all false
set_option maxRecDepth 100000
set_option maxHeartbeats 4000000
namespace Sb
open PySem L2
def top (i : Nat) : Stmt := PySem.Challenge.pw_scopebind_k01_libraries_and_values.main.body.getD i (.Pass ⟨0, 0, 0, 0⟩)
abbrev s_NoLibrary___init__ : Stmt := inClass (top 2) 0
abbrev ps_NoLibrary___init__ : List Str := ["self", "part"]
abbrev ns_NoLibrary___init__ : List Str := ["self", "part"]
theorem sc_NoLibrary___init__ : FnScope ["self", "part"] ["self", "part"] (defScope s_NoLibrary___init__) := ⟨rfl, rfl, rfl, by decide +kernel, rfl, by decide +kernel, by decide +kernel⟩
def d_NoLibrary___init__ : He.DefD := ⟨("NoLibrary", some "__init__"), "__init__", "NoLibrary.__init__", defArgs s_NoLibrary___init__, defBody s_NoLibrary___init__, defScope s_NoLibrary___init__, [], []⟩
abbrev s_is_word : Stmt := top 5
abbrev ps_is_word : List Str := ["thing"]
abbrev ns_is_word : List Str := ["thing", "letter"]
theorem sc_is_word : FnScope ["thing", "letter"] ["thing"] (defScope s_is_word) := ⟨rfl, rfl, rfl, by decide +kernel, rfl, by decide +kernel, by decide +kernel⟩
def d_is_word : He.DefD := ⟨("is_word", none), "is_word", "is_word", defArgs s_is_word, defBody s_is_word, defScope s_is_word, [], []⟩
abbrev s_are_words : Stmt := top 6
abbrev ps_are_words : List Str := ["thing", "most"]
abbrev ns_are_words : List Str := ["thing", "most", "item", "word"]
theorem sc_are_words : FnScope ["thing", "most", "item", "word"] ["thing", "most"] (defScope s_are_words) := ⟨rfl, rfl, rfl, by decide +kernel, rfl, by decide +kernel, by decide +kernel⟩
def d_are_words : He.DefD := ⟨("are_words", none), "are_words", "are_words", defArgs s_are_words, defBody s_are_words, defScope s_are_words, [], []⟩
abbrev s_Library___init__ : Stmt := inClass (top 10) 0
abbrev ps_Library___init__ : List Str := ["self", "name", "needs", "defines", "uses", "weak", "eager", "own_first"]
abbrev ns_Library___init__ : List Str := ["self", "name", "needs", "defines", "uses", "weak", "eager", "own_first", "symbol"]
theorem sc_Library___init__ : FnScope ["self", "name", "needs", "defines", "uses", "weak", "eager", "own_first", "symbol"] ["self", "name", "needs", "defines", "uses", "weak", "eager", "own_first"] (defScope s_Library___init__) := ⟨rfl, rfl, rfl, by decide +kernel, rfl, by decide +kernel, by decide +kernel⟩
def d_Library___init__ : He.DefD := ⟨("Library", some "__init__"), "__init__", "Library.__init__", defArgs s_Library___init__, defBody s_Library___init__, defScope s_Library___init__, [], [("needs", .adr (kwAt ("Library", some "__init__") "needs")), ("defines", .adr (kwAt ("Library", some "__init__") "defines")), ("uses", .adr (kwAt ("Library", some "__init__") "uses")), ("weak", .adr (kwAt ("Library", some "__init__") "weak")), ("eager", .bl false), ("own_first", .bl false)]⟩
abbrev s_Library___eq__ : Stmt := inClass (top 10) 1
abbrev ps_Library___eq__ : List Str := ["self", "other"]
abbrev ns_Library___eq__ : List Str := ["self", "other"]
theorem sc_Library___eq__ : FnScope ["self", "other"] ["self", "other"] (defScope s_Library___eq__) := ⟨rfl, rfl, rfl, by decide +kernel, rfl, by decide +kernel, by decide +kernel⟩
def d_Library___eq__ : He.DefD := ⟨("Library", some "__eq__"), "__eq__", "Library.__eq__", defArgs s_Library___eq__, defBody s_Library___eq__, defScope s_Library___eq__, [], []⟩
abbrev s__law_cell_at : Stmt := top 12
abbrev ps__law_cell_at : List Str := ["_law_script", "_law_k"]
abbrev ns__law_cell_at : List Str := ["_law_script", "_law_k"]
theorem sc__law_cell_at : FnScope ["_law_script", "_law_k"] ["_law_script", "_law_k"] (defScope s__law_cell_at) := ⟨rfl, rfl, rfl, by decide +kernel, rfl, by decide +kernel, by decide +kernel⟩
def d__law_cell_at : He.DefD := ⟨("_law_cell_at", none), "_law_cell_at", "_law_cell_at", defArgs s__law_cell_at, defBody s__law_cell_at, defScope s__law_cell_at, [], []⟩
abbrev s__law_well : Stmt := top 13
abbrev ps__law_well : List Str := ["_law_cell"]
abbrev ns__law_well : List Str := ["_law_cell"]
theorem sc__law_well : FnScope ["_law_cell"] ["_law_cell"] (defScope s__law_well) := ⟨rfl, rfl, rfl, by decide +kernel, rfl, by decide +kernel, by decide +kernel⟩
def d__law_well : He.DefD := ⟨("_law_well", none), "_law_well", "_law_well", defArgs s__law_well, defBody s__law_well, defScope s__law_well, [], []⟩
abbrev s__law_draw : Stmt := top 14
abbrev ps__law_draw : List Str := ["_law_well_here", "_law_many"]
abbrev ns__law_draw : List Str := ["_law_well_here", "_law_many", "_law_digit", "_law_prime", "_law_number"]
theorem sc__law_draw : FnScope ["_law_well_here", "_law_many", "_law_digit", "_law_prime", "_law_number"] ["_law_well_here", "_law_many"] (defScope s__law_draw) := ⟨rfl, rfl, rfl, by decide +kernel, rfl, by decide +kernel, by decide +kernel⟩
def d__law_draw : He.DefD := ⟨("_law_draw", none), "_law_draw", "_law_draw", defArgs s__law_draw, defBody s__law_draw, defScope s__law_draw, [], []⟩
abbrev s__law_one : Stmt := top 15
abbrev ps__law_one : List Str := ["_law_well_here", "_law_some"]
abbrev ns__law_one : List Str := ["_law_well_here", "_law_some"]
theorem sc__law_one : FnScope ["_law_well_here", "_law_some"] ["_law_well_here", "_law_some"] (defScope s__law_one) := ⟨rfl, rfl, rfl, by decide +kernel, rfl, by decide +kernel, by decide +kernel⟩
def d__law_one : He.DefD := ⟨("_law_one", none), "_law_one", "_law_one", defArgs s__law_one, defBody s__law_one, defScope s__law_one, [], []⟩
abbrev s__law_words : Stmt := top 16
abbrev ps__law_words : List Str := ["_law_well_here", "_law_most", "_law_lead"]
abbrev ns__law_words : List Str := ["_law_well_here", "_law_most", "_law_lead", "_law_count", "_law_k"]
theorem sc__law_words : FnScope ["_law_well_here", "_law_most", "_law_lead", "_law_count", "_law_k"] ["_law_well_here", "_law_most", "_law_lead"] (defScope s__law_words) := ⟨rfl, rfl, rfl, by decide +kernel, rfl, by decide +kernel, by decide +kernel⟩
def d__law_words : He.DefD := ⟨("_law_words", none), "_law_words", "_law_words", defArgs s__law_words, defBody s__law_words, defScope s__law_words, [], []⟩
abbrev s__law_values : Stmt := top 17
abbrev ps__law_values : List Str := ["_law_well_here"]
abbrev ns__law_values : List Str := ["_law_well_here", "_law_used", "_law_loose", "_law_name", "_law_first", "_law_symbol"]
theorem sc__law_values : FnScope ["_law_well_here", "_law_used", "_law_loose", "_law_name", "_law_first", "_law_symbol"] ["_law_well_here"] (defScope s__law_values) := ⟨rfl, rfl, rfl, by decide +kernel, rfl, by decide +kernel, by decide +kernel⟩
def d__law_values : He.DefD := ⟨("_law_values", none), "_law_values", "_law_values", defArgs s__law_values, defBody s__law_values, defScope s__law_values, [], []⟩
abbrev s__law_made : Stmt := top 18
abbrev ps__law_made : List Str := ["_law_row"]
abbrev ns__law_made : List Str := ["_law_row", "_law_name", "_law_near", "_law_made_here", "_law_used", "_law_loose", "_law_soon", "_law_mine"]
theorem sc__law_made : FnScope ["_law_row", "_law_name", "_law_near", "_law_made_here", "_law_used", "_law_loose", "_law_soon", "_law_mine"] ["_law_row"] (defScope s__law_made) := ⟨rfl, rfl, rfl, by decide +kernel, rfl, by decide +kernel, by decide +kernel⟩
def d__law_made : He.DefD := ⟨("_law_made", none), "_law_made", "_law_made", defArgs s__law_made, defBody s__law_made, defScope s__law_made, [], []⟩
abbrev s__law_read : Stmt := top 19
abbrev ps__law_read : List Str := ["_law_one_here"]
abbrev ns__law_read : List Str := ["_law_one_here"]
theorem sc__law_read : FnScope ["_law_one_here"] ["_law_one_here"] (defScope s__law_read) := ⟨rfl, rfl, rfl, by decide +kernel, rfl, by decide +kernel, by decide +kernel⟩
def d__law_read : He.DefD := ⟨("_law_read", none), "_law_read", "_law_read", defArgs s__law_read, defBody s__law_read, defScope s__law_read, [], []⟩
abbrev s_law : Stmt := top 20
abbrev ps_law : List Str := ["_law_script"]
abbrev ns_law : List Str := ["_law_script", "_law_cell", "_law_well_here", "_law_row", "_law_one_here", "_law_read_here", "_law_at", "_law_longer", "_law_changed", "_law_other", "_law_loose", "_law_some", "_law_symbol", "_law_thing"]
theorem sc_law : FnScope ["_law_script", "_law_cell", "_law_well_here", "_law_row", "_law_one_here", "_law_read_here", "_law_at", "_law_longer", "_law_changed", "_law_other", "_law_loose", "_law_some", "_law_symbol", "_law_thing"] ["_law_script"] (defScope s_law) := ⟨rfl, rfl, rfl, by decide +kernel, rfl, by decide +kernel, by decide +kernel⟩
def d_law : He.DefD := ⟨("law", none), "law", "law", defArgs s_law, defBody s_law, defScope s_law, [], []⟩
def fn : List He.DefD := [d_NoLibrary___init__, d_is_word, d_are_words, d_Library___init__, d_Library___eq__, d__law_cell_at, d__law_well, d__law_draw, d__law_one, d__law_words, d__law_values, d__law_made, d__law_read, d_law]
def fa : List He.Fa := [.glo "LoadError", .glo "NoLibrary", .int "LONGEST" 12, .glo "is_word", .glo "are_words", .int "MOST_NEEDS" 12, .int "MOST_SYMBOLS" 20, .glo "Library", .glo "_law_cell_at", .glo "_law_well", .glo "_law_draw", .glo "_law_one", .glo "_law_words", .glo "_law_values", .glo "_law_made", .glo "_law_read", .glo "law", .free "ValueError", .free "all", .free "any", .free "bool", .free "int", .free "isinstance", .free "len", .free "range", .free "str", .free "tuple", .meth "NoLibrary" "__init__", .meth "Library" "__init__", .meth "Library" "__eq__", .cls "Library", .mkr "Library", .noat "Library" "name", .noat "Library" "needs", .noat "Library" "defines", .noat "Library" "uses", .noat "Library" "weak", .noat "Library" "eager", .noat "Library" "own_first", .noat "NoLibrary" "part", .exm "LoadError" "LoadError" true, .exm "LoadError" "NoLibrary" false, .exm "NoLibrary" "LoadError" true, .exm "NoLibrary" "NoLibrary" true]
def exB (K : PySem.W.Frag) : Bool :=
  (["LoadError", "NoLibrary"].all fun x => excB K (He.ga K x)) && ((["Library"].all fun x => ownB K (He.ga K x)) && ((["Library"].all fun x => ["Library"].all fun y => decide (PySem.W.kitOne K (.ref (He.ga K x)) (.ref (He.ga K y)) = some (decide (x = y)))) && (([kwAt ("Library", some "__init__") "needs", kwAt ("Library", some "__init__") "defines", kwAt ("Library", some "__init__") "uses", kwAt ("Library", some "__init__") "weak"].all fun p => emptyB K (p K)) && (([("LoadError", "LoadError", true), ("LoadError", "NoLibrary", false), ("NoLibrary", "LoadError", true), ("NoLibrary", "NoLibrary", true)].all fun p => decide (PySem.W.kitOne K (.ref (He.ga K p.1)) (.ref (He.ga K p.2.1)) = some p.2.2)) && ((["LoadError", "NoLibrary"].all fun x => decide (PySem.W.kitOne K (.ref (He.ga K x)) (.type "ValueError") = some true)))))))
/-- what the top says -/
structure Top (K : PySem.W.Frag) (mg : Str → Option Value) where
  fd_NoLibrary___init__ : FuncData
  F_NoLibrary___init__ : FunD K d_NoLibrary___init__.name d_NoLibrary___init__.qual (defArgs s_NoLibrary___init__) (defBody s_NoLibrary___init__) (defScope s_NoLibrary___init__) [] (d_NoLibrary___init__.kws K) (He.fAd K d_NoLibrary___init__.at_) fd_NoLibrary___init__
  fd_is_word : FuncData
  F_is_word : FunD K d_is_word.name d_is_word.qual (defArgs s_is_word) (defBody s_is_word) (defScope s_is_word) [] (d_is_word.kws K) (He.fAd K d_is_word.at_) fd_is_word
  fd_are_words : FuncData
  F_are_words : FunD K d_are_words.name d_are_words.qual (defArgs s_are_words) (defBody s_are_words) (defScope s_are_words) [] (d_are_words.kws K) (He.fAd K d_are_words.at_) fd_are_words
  fd_Library___init__ : FuncData
  F_Library___init__ : FunD K d_Library___init__.name d_Library___init__.qual (defArgs s_Library___init__) (defBody s_Library___init__) (defScope s_Library___init__) [] (d_Library___init__.kws K) (He.fAd K d_Library___init__.at_) fd_Library___init__
  fd_Library___eq__ : FuncData
  F_Library___eq__ : FunD K d_Library___eq__.name d_Library___eq__.qual (defArgs s_Library___eq__) (defBody s_Library___eq__) (defScope s_Library___eq__) [] (d_Library___eq__.kws K) (He.fAd K d_Library___eq__.at_) fd_Library___eq__
  fd__law_cell_at : FuncData
  F__law_cell_at : FunD K d__law_cell_at.name d__law_cell_at.qual (defArgs s__law_cell_at) (defBody s__law_cell_at) (defScope s__law_cell_at) [] (d__law_cell_at.kws K) (He.fAd K d__law_cell_at.at_) fd__law_cell_at
  fd__law_well : FuncData
  F__law_well : FunD K d__law_well.name d__law_well.qual (defArgs s__law_well) (defBody s__law_well) (defScope s__law_well) [] (d__law_well.kws K) (He.fAd K d__law_well.at_) fd__law_well
  fd__law_draw : FuncData
  F__law_draw : FunD K d__law_draw.name d__law_draw.qual (defArgs s__law_draw) (defBody s__law_draw) (defScope s__law_draw) [] (d__law_draw.kws K) (He.fAd K d__law_draw.at_) fd__law_draw
  fd__law_one : FuncData
  F__law_one : FunD K d__law_one.name d__law_one.qual (defArgs s__law_one) (defBody s__law_one) (defScope s__law_one) [] (d__law_one.kws K) (He.fAd K d__law_one.at_) fd__law_one
  fd__law_words : FuncData
  F__law_words : FunD K d__law_words.name d__law_words.qual (defArgs s__law_words) (defBody s__law_words) (defScope s__law_words) [] (d__law_words.kws K) (He.fAd K d__law_words.at_) fd__law_words
  fd__law_values : FuncData
  F__law_values : FunD K d__law_values.name d__law_values.qual (defArgs s__law_values) (defBody s__law_values) (defScope s__law_values) [] (d__law_values.kws K) (He.fAd K d__law_values.at_) fd__law_values
  fd__law_made : FuncData
  F__law_made : FunD K d__law_made.name d__law_made.qual (defArgs s__law_made) (defBody s__law_made) (defScope s__law_made) [] (d__law_made.kws K) (He.fAd K d__law_made.at_) fd__law_made
  fd__law_read : FuncData
  F__law_read : FunD K d__law_read.name d__law_read.qual (defArgs s__law_read) (defBody s__law_read) (defScope s__law_read) [] (d__law_read.kws K) (He.fAd K d__law_read.at_) fd__law_read
  fd_law : FuncData
  F_law : FunD K d_law.name d_law.qual (defArgs s_law) (defBody s_law) (defScope s_law) [] (d_law.kws K) (He.fAd K d_law.at_) fd_law
  g_LoadError : mg "LoadError" = some (.ref (He.ga K "LoadError"))
  g_NoLibrary : mg "NoLibrary" = some (.ref (He.ga K "NoLibrary"))
  i_LONGEST : ∃ t, mg "LONGEST" = some (.int 12 t)
  g_is_word : mg "is_word" = some (.ref (He.ga K "is_word"))
  g_are_words : mg "are_words" = some (.ref (He.ga K "are_words"))
  i_MOST_NEEDS : ∃ t, mg "MOST_NEEDS" = some (.int 12 t)
  i_MOST_SYMBOLS : ∃ t, mg "MOST_SYMBOLS" = some (.int 20 t)
  g_Library : mg "Library" = some (.ref (He.ga K "Library"))
  g__law_cell_at : mg "_law_cell_at" = some (.ref (He.ga K "_law_cell_at"))
  g__law_well : mg "_law_well" = some (.ref (He.ga K "_law_well"))
  g__law_draw : mg "_law_draw" = some (.ref (He.ga K "_law_draw"))
  g__law_one : mg "_law_one" = some (.ref (He.ga K "_law_one"))
  g__law_words : mg "_law_words" = some (.ref (He.ga K "_law_words"))
  g__law_values : mg "_law_values" = some (.ref (He.ga K "_law_values"))
  g__law_made : mg "_law_made" = some (.ref (He.ga K "_law_made"))
  g__law_read : mg "_law_read" = some (.ref (He.ga K "_law_read"))
  g_law : mg "law" = some (.ref (He.ga K "law"))
  n_ValueError : mg "ValueError" = none
  n_all : mg "all" = none
  n_any : mg "any" = none
  n_bool : mg "bool" = none
  n_int : mg "int" = none
  n_isinstance : mg "isinstance" = none
  n_len : mg "len" = none
  n_range : mg "range" = none
  n_str : mg "str" = none
  n_tuple : mg "tuple" = none
  m_NoLibrary___init__ : Meth K (He.ga K "NoLibrary") "__init__" (He.ma K (He.ga K "NoLibrary") "__init__")
  m_Library___init__ : Meth K (He.ga K "Library") "__init__" (He.ma K (He.ga K "Library") "__init__")
  m_Library___eq__ : Meth K (He.ga K "Library") "__eq__" (He.ma K (He.ga K "Library") "__eq__")
  c_Library : Cls K (He.ga K "Library")
  mk_Library : Mk K (He.ga K "Library") (He.ma K (He.ga K "Library") "__init__")
  na_Library_name : PySem.W.findIn K (.ref (He.ga K "Library")) "name" = some none
  na_Library_needs : PySem.W.findIn K (.ref (He.ga K "Library")) "needs" = some none
  na_Library_defines : PySem.W.findIn K (.ref (He.ga K "Library")) "defines" = some none
  na_Library_uses : PySem.W.findIn K (.ref (He.ga K "Library")) "uses" = some none
  na_Library_weak : PySem.W.findIn K (.ref (He.ga K "Library")) "weak" = some none
  na_Library_eager : PySem.W.findIn K (.ref (He.ga K "Library")) "eager" = some none
  na_Library_own_first : PySem.W.findIn K (.ref (He.ga K "Library")) "own_first" = some none
  na_NoLibrary_part : PySem.W.findIn K (.ref (He.ga K "NoLibrary")) "part" = some none
  exm_LoadError_LoadError : PySem.W.exmOne K (.ref (He.ga K "LoadError")) (.ref (He.ga K "LoadError")) = some true
  exm_LoadError_NoLibrary : PySem.W.exmOne K (.ref (He.ga K "LoadError")) (.ref (He.ga K "NoLibrary")) = some false
  exm_NoLibrary_LoadError : PySem.W.exmOne K (.ref (He.ga K "NoLibrary")) (.ref (He.ga K "LoadError")) = some true
  exm_NoLibrary_NoLibrary : PySem.W.exmOne K (.ref (He.ga K "NoLibrary")) (.ref (He.ga K "NoLibrary")) = some true
  e_LoadError : ExcK K (He.ga K "LoadError")
  kv_LoadError : PySem.W.kitOne K (.ref (He.ga K "LoadError")) (.type "ValueError") = some true
  e_NoLibrary : ExcK K (He.ga K "NoLibrary")
  kv_NoLibrary : PySem.W.kitOne K (.ref (He.ga K "NoLibrary")) (.type "ValueError") = some true
  o_Library : OwnK K (He.ga K "Library")
  k_Library_Library : PySem.W.kitOne K (.ref (He.ga K "Library")) (.ref (He.ga K "Library")) = some true
  kw_Library_needs : ∀ H, PT K H (kwAt ("Library", some "__init__") "needs" K) []
  kw_Library_defines : ∀ H, PT K H (kwAt ("Library", some "__init__") "defines" K) []
  kw_Library_uses : ∀ H, PT K H (kwAt ("Library", some "__init__") "uses" K) []
  kw_Library_weak : ∀ H, PT K H (kwAt ("Library", some "__init__") "weak" K) []
  ke_LoadError_LoadError : PySem.W.kitOne K (.ref (He.ga K "LoadError")) (.ref (He.ga K "LoadError")) = some true
  ke_LoadError_NoLibrary : PySem.W.kitOne K (.ref (He.ga K "LoadError")) (.ref (He.ga K "NoLibrary")) = some false
  ke_NoLibrary_LoadError : PySem.W.kitOne K (.ref (He.ga K "NoLibrary")) (.ref (He.ga K "LoadError")) = some true
  ke_NoLibrary_NoLibrary : PySem.W.kitOne K (.ref (He.ga K "NoLibrary")) (.ref (He.ga K "NoLibrary")) = some true
theorem top_ex {K : PySem.W.Frag} {h : Heap} {mg : Str → Option Value} (X : K.In h) (G : h.Ns mainGlobals mg) (c : He.SaysD fa fn K) (ex : exB K = true) : Nonempty (Top K mg) := by
  obtain ⟨x1, ex⟩ := and2 ex
  obtain ⟨x2, ex⟩ := and2 ex
  obtain ⟨x3, ex⟩ := and2 ex
  obtain ⟨x4, ex⟩ := and2 ex
  obtain ⟨x5, ex⟩ := and2 ex
  have x6 := ex
  obtain ⟨fd0, E0⟩ := c.def_ 0 (d := d_NoLibrary___init__) rfl
  obtain ⟨fd1, E1⟩ := c.def_ 1 (d := d_is_word) rfl
  obtain ⟨fd2, E2⟩ := c.def_ 2 (d := d_are_words) rfl
  obtain ⟨fd3, E3⟩ := c.def_ 3 (d := d_Library___init__) rfl
  obtain ⟨fd4, E4⟩ := c.def_ 4 (d := d_Library___eq__) rfl
  obtain ⟨fd5, E5⟩ := c.def_ 5 (d := d__law_cell_at) rfl
  obtain ⟨fd6, E6⟩ := c.def_ 6 (d := d__law_well) rfl
  obtain ⟨fd7, E7⟩ := c.def_ 7 (d := d__law_draw) rfl
  obtain ⟨fd8, E8⟩ := c.def_ 8 (d := d__law_one) rfl
  obtain ⟨fd9, E9⟩ := c.def_ 9 (d := d__law_words) rfl
  obtain ⟨fd10, E10⟩ := c.def_ 10 (d := d__law_values) rfl
  obtain ⟨fd11, E11⟩ := c.def_ 11 (d := d__law_made) rfl
  obtain ⟨fd12, E12⟩ := c.def_ 12 (d := d__law_read) rfl
  obtain ⟨fd13, E13⟩ := c.def_ 13 (d := d_law) rfl
  exact ⟨{
    fd_NoLibrary___init__ := fd0
    F_NoLibrary___init__ := E0
    fd_is_word := fd1
    F_is_word := E1
    fd_are_words := fd2
    F_are_words := E2
    fd_Library___init__ := fd3
    F_Library___init__ := E3
    fd_Library___eq__ := fd4
    F_Library___eq__ := E4
    fd__law_cell_at := fd5
    F__law_cell_at := E5
    fd__law_well := fd6
    F__law_well := E6
    fd__law_draw := fd7
    F__law_draw := E7
    fd__law_one := fd8
    F__law_one := E8
    fd__law_words := fd9
    F__law_words := E9
    fd__law_values := fd10
    F__law_values := E10
    fd__law_made := fd11
    F__law_made := E11
    fd__law_read := fd12
    F__law_read := E12
    fd_law := fd13
    F_law := E13
    g_LoadError := He.glo_ok X G (c.fact 0 (f := .glo "LoadError") rfl)
    g_NoLibrary := He.glo_ok X G (c.fact 1 (f := .glo "NoLibrary") rfl)
    i_LONGEST := He.int_ok X G (c.fact 2 (f := .int "LONGEST" 12) rfl)
    g_is_word := He.glo_ok X G (c.fact 3 (f := .glo "is_word") rfl)
    g_are_words := He.glo_ok X G (c.fact 4 (f := .glo "are_words") rfl)
    i_MOST_NEEDS := He.int_ok X G (c.fact 5 (f := .int "MOST_NEEDS" 12) rfl)
    i_MOST_SYMBOLS := He.int_ok X G (c.fact 6 (f := .int "MOST_SYMBOLS" 20) rfl)
    g_Library := He.glo_ok X G (c.fact 7 (f := .glo "Library") rfl)
    g__law_cell_at := He.glo_ok X G (c.fact 8 (f := .glo "_law_cell_at") rfl)
    g__law_well := He.glo_ok X G (c.fact 9 (f := .glo "_law_well") rfl)
    g__law_draw := He.glo_ok X G (c.fact 10 (f := .glo "_law_draw") rfl)
    g__law_one := He.glo_ok X G (c.fact 11 (f := .glo "_law_one") rfl)
    g__law_words := He.glo_ok X G (c.fact 12 (f := .glo "_law_words") rfl)
    g__law_values := He.glo_ok X G (c.fact 13 (f := .glo "_law_values") rfl)
    g__law_made := He.glo_ok X G (c.fact 14 (f := .glo "_law_made") rfl)
    g__law_read := He.glo_ok X G (c.fact 15 (f := .glo "_law_read") rfl)
    g_law := He.glo_ok X G (c.fact 16 (f := .glo "law") rfl)
    n_ValueError := He.free_ok X G (c.fact 17 (f := .free "ValueError") rfl)
    n_all := He.free_ok X G (c.fact 18 (f := .free "all") rfl)
    n_any := He.free_ok X G (c.fact 19 (f := .free "any") rfl)
    n_bool := He.free_ok X G (c.fact 20 (f := .free "bool") rfl)
    n_int := He.free_ok X G (c.fact 21 (f := .free "int") rfl)
    n_isinstance := He.free_ok X G (c.fact 22 (f := .free "isinstance") rfl)
    n_len := He.free_ok X G (c.fact 23 (f := .free "len") rfl)
    n_range := He.free_ok X G (c.fact 24 (f := .free "range") rfl)
    n_str := He.free_ok X G (c.fact 25 (f := .free "str") rfl)
    n_tuple := He.free_ok X G (c.fact 26 (f := .free "tuple") rfl)
    m_NoLibrary___init__ := He.meth_ok (c.fact 27 (f := .meth "NoLibrary" "__init__") rfl)
    m_Library___init__ := He.meth_ok (c.fact 28 (f := .meth "Library" "__init__") rfl)
    m_Library___eq__ := He.meth_ok (c.fact 29 (f := .meth "Library" "__eq__") rfl)
    c_Library := He.cls_ok (c.fact 30 (f := .cls "Library") rfl)
    mk_Library := He.mkr_ok (c.fact 31 (f := .mkr "Library") rfl)
    na_Library_name := He.noat_ok (c.fact 32 (f := .noat "Library" "name") rfl)
    na_Library_needs := He.noat_ok (c.fact 33 (f := .noat "Library" "needs") rfl)
    na_Library_defines := He.noat_ok (c.fact 34 (f := .noat "Library" "defines") rfl)
    na_Library_uses := He.noat_ok (c.fact 35 (f := .noat "Library" "uses") rfl)
    na_Library_weak := He.noat_ok (c.fact 36 (f := .noat "Library" "weak") rfl)
    na_Library_eager := He.noat_ok (c.fact 37 (f := .noat "Library" "eager") rfl)
    na_Library_own_first := He.noat_ok (c.fact 38 (f := .noat "Library" "own_first") rfl)
    na_NoLibrary_part := He.noat_ok (c.fact 39 (f := .noat "NoLibrary" "part") rfl)
    exm_LoadError_LoadError := He.exm_ok (c.fact 40 (f := .exm "LoadError" "LoadError" true) rfl)
    exm_LoadError_NoLibrary := He.exm_ok (c.fact 41 (f := .exm "LoadError" "NoLibrary" false) rfl)
    exm_NoLibrary_LoadError := He.exm_ok (c.fact 42 (f := .exm "NoLibrary" "LoadError" true) rfl)
    exm_NoLibrary_NoLibrary := He.exm_ok (c.fact 43 (f := .exm "NoLibrary" "NoLibrary" true) rfl)
    e_LoadError := excB_ok (List.all_eq_true.mp x1 "LoadError" (by simp))
    kv_LoadError := of_decide_eq_true (List.all_eq_true.mp x6 "LoadError" (by simp))
    e_NoLibrary := excB_ok (List.all_eq_true.mp x1 "NoLibrary" (by simp))
    kv_NoLibrary := of_decide_eq_true (List.all_eq_true.mp x6 "NoLibrary" (by simp))
    o_Library := ownB_ok (List.all_eq_true.mp x2 "Library" (by simp))
    k_Library_Library := of_decide_eq_true (List.all_eq_true.mp (List.all_eq_true.mp x3 "Library" (by simp)) "Library" (by simp))
    kw_Library_needs := fun H => emptyB_pt (List.all_eq_true.mp x4 (kwAt ("Library", some "__init__") "needs") (by simp)) H
    kw_Library_defines := fun H => emptyB_pt (List.all_eq_true.mp x4 (kwAt ("Library", some "__init__") "defines") (by simp)) H
    kw_Library_uses := fun H => emptyB_pt (List.all_eq_true.mp x4 (kwAt ("Library", some "__init__") "uses") (by simp)) H
    kw_Library_weak := fun H => emptyB_pt (List.all_eq_true.mp x4 (kwAt ("Library", some "__init__") "weak") (by simp)) H
    ke_LoadError_LoadError := of_decide_eq_true (List.all_eq_true.mp x5 ("LoadError", "LoadError", true) (by simp))
    ke_LoadError_NoLibrary := of_decide_eq_true (List.all_eq_true.mp x5 ("LoadError", "NoLibrary", false) (by simp))
    ke_NoLibrary_LoadError := of_decide_eq_true (List.all_eq_true.mp x5 ("NoLibrary", "LoadError", true) (by simp))
    ke_NoLibrary_NoLibrary := of_decide_eq_true (List.all_eq_true.mp x5 ("NoLibrary", "NoLibrary", true) (by simp))
  }⟩
theorem b_NoLibrary___init__ {K : PySem.W.Frag} {mg : Str → Option Value} (T : Top K mg) : Binds K T.fd_NoLibrary___init__ ps_NoLibrary___init__ [] := T.F_NoLibrary___init__.bindsN fun _ _ _ _ _ _ us hl => match us, hl with | [_, _], _ => rfl
theorem b_is_word {K : PySem.W.Frag} {mg : Str → Option Value} (T : Top K mg) : Binds K T.fd_is_word ps_is_word [] := T.F_is_word.bindsN fun _ _ _ _ _ _ us hl => match us, hl with | [_], _ => rfl
theorem b_are_words {K : PySem.W.Frag} {mg : Str → Option Value} (T : Top K mg) : Binds K T.fd_are_words ps_are_words [] := T.F_are_words.bindsN fun _ _ _ _ _ _ us hl => match us, hl with | [_, _], _ => rfl
theorem b_Library___eq__ {K : PySem.W.Frag} {mg : Str → Option Value} (T : Top K mg) : Binds K T.fd_Library___eq__ ps_Library___eq__ [] := T.F_Library___eq__.bindsN fun _ _ _ _ _ _ us hl => match us, hl with | [_, _], _ => rfl
theorem b__law_cell_at {K : PySem.W.Frag} {mg : Str → Option Value} (T : Top K mg) : Binds K T.fd__law_cell_at ps__law_cell_at [] := T.F__law_cell_at.bindsN fun _ _ _ _ _ _ us hl => match us, hl with | [_, _], _ => rfl
theorem b__law_well {K : PySem.W.Frag} {mg : Str → Option Value} (T : Top K mg) : Binds K T.fd__law_well ps__law_well [] := T.F__law_well.bindsN fun _ _ _ _ _ _ us hl => match us, hl with | [_], _ => rfl
theorem b__law_draw {K : PySem.W.Frag} {mg : Str → Option Value} (T : Top K mg) : Binds K T.fd__law_draw ps__law_draw [] := T.F__law_draw.bindsN fun _ _ _ _ _ _ us hl => match us, hl with | [_, _], _ => rfl
theorem b__law_one {K : PySem.W.Frag} {mg : Str → Option Value} (T : Top K mg) : Binds K T.fd__law_one ps__law_one [] := T.F__law_one.bindsN fun _ _ _ _ _ _ us hl => match us, hl with | [_, _], _ => rfl
theorem b__law_words {K : PySem.W.Frag} {mg : Str → Option Value} (T : Top K mg) : Binds K T.fd__law_words ps__law_words [] := T.F__law_words.bindsN fun _ _ _ _ _ _ us hl => match us, hl with | [_, _, _], _ => rfl
theorem b__law_values {K : PySem.W.Frag} {mg : Str → Option Value} (T : Top K mg) : Binds K T.fd__law_values ps__law_values [] := T.F__law_values.bindsN fun _ _ _ _ _ _ us hl => match us, hl with | [_], _ => rfl
theorem b__law_made {K : PySem.W.Frag} {mg : Str → Option Value} (T : Top K mg) : Binds K T.fd__law_made ps__law_made [] := T.F__law_made.bindsN fun _ _ _ _ _ _ us hl => match us, hl with | [_], _ => rfl
theorem b__law_read {K : PySem.W.Frag} {mg : Str → Option Value} (T : Top K mg) : Binds K T.fd__law_read ps__law_read [] := T.F__law_read.bindsN fun _ _ _ _ _ _ us hl => match us, hl with | [_], _ => rfl
theorem b_law {K : PySem.W.Frag} {mg : Str → Option Value} (T : Top K mg) : Binds K T.fd_law ps_law [] := T.F_law.bindsN fun _ _ _ _ _ _ us hl => match us, hl with | [_], _ => rfl
end Sb


set_option Elab.async false
set_option linter.all false
set_option maxRecDepth 100000
set_option maxHeartbeats 8000000
namespace Sb
open PySem L2
local macro_rules | `(tactic| walk_at "nrm") => `(tactic| try dsimp only [L2.start, List.map, List.length_cons, List.length_nil, List.cons_append, List.nil_append, List.replicate, Nat.reduceAdd, Nat.reduceSub, List.set_cons_zero, List.set_cons_succ, wipe])
/-! ### the draws: a well, one draw, one of a list -/
def spDraw : Sp := fun vs H Q _ => ∃ (F : Hp) (L : List (Addr × HO)) (w : Addr) (o : HO) (n : Nat) (m : Int), vs = [.ref w, .int m] ∧ Sta F ((w, o) :: L) H ∧ Well n o ∧ n < 1000000 ∧ 0 < m ∧ m < 1000000 ∧
  ∀ (o' : HO) (d : Int) (H' : Hp), Well (n + 1) o' → 0 ≤ d → d < m → Sta F ((w, o') :: L) H' → Q (.int d) H'
def spWell : Sp := fun vs H Q _ => ∃ (F : Hp) (L : List (Addr × HO)) (x : Int), vs = [.int x] ∧ Sta F L H ∧
  ∀ (p : Addr) (o : HO) (H' : Hp), Well 0 o → Sta F ((p, o) :: L) H' → Q (.ref p) H'
def spOne (K : PySem.W.Frag) : Sp := fun vs H Q _ => ∃ (F : Hp) (L : List (Addr × HO)) (w p : Addr) (o : HO) (n : Nat) (xs : List V), vs = [.ref w, .ref p] ∧ Sta F ((w, o) :: L) H ∧ Well n o ∧ n < 999999 ∧ SqL K F p xs ∧ 0 < xs.length ∧ xs.length < 1000 ∧
  ∀ (x : V) (o' : HO) (H' : Hp), x ∈ xs → Well (n + 1) o' → Sta F ((w, o') :: L) H' → Q x H'
section
variable {P : Program} {w : World} {K : PySem.W.Frag} {mg : Str → Option Value} {base : Heap}
theorem ok_draw (T : Top K mg) : FnOk P w K mg base CX0 1 (He.ga K "_law_draw") T.fd__law_draw ps__law_draw spDraw := by
  refine T.F__law_draw.ok sc__law_draw (fun vs H Q E h => ?_) (fun cdv A outer s H vs Q E hr h => ?_)
  · obtain ⟨F, L, w, o, n, m, rfl, _⟩ := h
    rfl
  · obtain ⟨F, L, w, o, n, m, rfl, S, ⟨a, b, c, rfl, b0, b1, c0, c1⟩, hn, m0, m1, k⟩ := h
    refine ⟨_, PSs.nox (pss_cons (ps_if (pt_cmpR op_gt (pe_ix ix_list (pv 0) pe_int (fun _ _ => rfl)) pe_int (nomark _))
        (pss_cons (ps_set (i := 2) sc__law_draw.nd rfl (Or.inl rfl) (pe_op op_modN (pe_ix ix_list (pv 0) pe_int (fun _ _ => rfl)) (pv 1)))
          (pss_cons (ps_asg (pe_op op_fdivN (pe_ix ix_list (pv 0) pe_int (fun _ _ => rfl)) (pv 1)) (pg_sub (pv 0) pe_int set_list))
          (pss_one (ps_ret (pv 2))))) pss_nil)
      (pss_cons (ps_asg (pe_op op_add (pe_ix ix_list (pv 0) pe_int (fun _ _ => rfl)) pe_int) (pg_sub (pv 0) pe_int set_list))
      (pss_cons (ps_set (i := 3) sc__law_draw.nd rfl (Or.inl rfl) (pe_ix ix_list (pe_lst (pa_cons pe_int (pa_cons pe_int (pa_cons pe_int (pa_cons pe_int (pa_cons pe_int (pa_cons pe_int (pa_cons pe_int pa_nil))))))))
          (pe_op op_modN (pe_ix ix_list (pv 0) pe_int (fun _ _ => rfl)) pe_int) (fun _ _ => rfl)))
      (pss_cons (ps_set (i := 4) sc__law_draw.nd rfl (Or.inl rfl) (pe_op op_modN (pe_op op_pow (pe_op op_add (pe_op op_add (pe_ix ix_list (pv 0) pe_int (fun _ _ => rfl)) (pe_op op_mul pe_int (pe_ix ix_list (pv 0) pe_int (fun _ _ => rfl)))) pe_int) pe_int) (pv 3)))
      (pss_cons (ps_set (i := 4) sc__law_draw.nd rfl (Or.inl rfl) (pe_op op_modN (pe_op op_mul (pe_op op_add (pv 4) (pe_ix ix_list (pv 0) pe_int (fun _ _ => rfl))) (pe_op op_add (pe_op op_fdivN (pv 4) pe_int) pe_int)) (pv 3)))
      (pss_one (ps_ret (pe_op op_modN (pe_op op_fdivN (pv 4) pe_int) (pv 1))))))))), ?_⟩
    refine ⟨_, rfl, w, _, _, _, rfl, rfl, sq S.hd, rfl, _, _, rfl, rfl, _, rfl, ?_⟩
    refine ite2 (fun h0 => ?_) (fun h0 => ?_)
    · refine ⟨_, rfl, w, _, _, _, rfl, rfl, sq S.hd, rfl, _, rfl, _, _, rfl, rfl, (by omega), ?_⟩
      refine ⟨_, rfl, w, _, _, _, rfl, rfl, sq S.hd, rfl, _, rfl, _, _, rfl, rfl, (by constructor <;> omega), ?_⟩
      refine ⟨_, rfl, w, _, _, 0, rfl, rfl, S.hd, rfl, ?_⟩
      refine ⟨_, rfl, ?_⟩
      obtain ⟨d0, d1⟩ := fmodP (x := a) m0
      exact k _ _ _ ⟨_, b, c, rfl, b0, b1, c0, by omega⟩ d0 d1 (S.set _)
    · refine ⟨_, rfl, w, _, _, _, rfl, rfl, sq S.hd, rfl, _, _, rfl, rfl, ?_⟩
      refine ⟨_, rfl, w, _, _, 2, rfl, rfl, S.hd, rfl, ?_⟩
      have S1 := S.set (.lst [.int a, .int b, .int (c + 1)])
      obtain ⟨i0, i1⟩ := fmodP (x := c + 1) (m := 7) (by decide)
      refine ⟨(by show 7 ≤ sizeLine; decide), fun p hp => ?_⟩
      have S2 := S1.newX hp (.lst [.int 2147483647, .int 2147483629, .int 2147483587, .int 2147483579, .int 2147483563, .int 2147483549, .int 2147483543])
      have pr : ∃ q : Int, atI [V.int 2147483647, .int 2147483629, .int 2147483587, .int 2147483579, .int 2147483563, .int 2147483549, .int 2147483543] ((c + 1).fmod 7) = some (.int q) ∧ 0 < q ∧ q ≤ 2147483647 := by
        generalize (c + 1).fmod 7 = i at i0 i1
        obtain rfl | rfl | rfl | rfl | rfl | rfl | rfl : i = 0 ∨ i = 1 ∨ i = 2 ∨ i = 3 ∨ i = 4 ∨ i = 5 ∨ i = 6 := by omega
        all_goals exact ⟨_, rfl, by decide, by decide⟩
      obtain ⟨q, hq, q0, q1⟩ := pr
      refine ⟨_, rfl, w, _, _, _, rfl, rfl, sq S2.hd, rfl, _, _, rfl, rfl, (by show (7 : Int) ≠ 0; decide), ?_⟩
      refine ⟨p, _, _, _, rfl, rfl, sq upd_same, hq, ?_⟩
      refine ⟨_, rfl, w, _, _, _, rfl, rfl, sq S2.hd, rfl, _, rfl, w, _, _, _, rfl, rfl, sq S2.hd, rfl, _, _, rfl, rfl, (by left; decide), ?_⟩
      refine ⟨_, _, rfl, rfl, _, _, rfl, rfl, _, _, rfl, rfl, ⟨by decide, by decide, by show (b + 7919 * (c + 1) + 1).natAbs < 2 ^ 64; omega⟩, ?_⟩
      refine ⟨_, rfl, _, _, rfl, rfl, (by omega), ?_⟩
      generalize (b + 7919 * (c + 1) + 1) ^ (5 : Int).toNat = z
      obtain ⟨z0, z1⟩ := fmodP (x := z) q0
      refine ⟨_, rfl, _, rfl, w, _, _, _, rfl, rfl, sq S2.hd, rfl, _, _, rfl, rfl, ?_⟩
      refine ⟨_, rfl, _, _, rfl, rfl, (by constructor <;> decide), _, _, rfl, rfl, _, _, rfl, rfl, (by left; constructor <;> omega), ?_⟩
      refine ⟨_, rfl, _, _, rfl, rfl, (by omega), ?_⟩
      refine ⟨_, rfl, _, _, rfl, rfl, (by constructor <;> decide), _, rfl, _, _, rfl, rfl, (by omega), ?_⟩
      refine k _ _ _ ⟨a, b, c + 1, rfl, b0, b1, by omega, by omega⟩ (fmodP m0).1 (fmodP m0).2 S2
theorem ok_well (T : Top K mg) : FnOk P w K mg base CX0 1 (He.ga K "_law_well") T.fd__law_well ps__law_well spWell := by
  refine T.F__law_well.ok sc__law_well (fun vs H Q E h => ?_) (fun cdv A outer s H vs Q E hr h => ?_)
  · obtain ⟨F, L, x, rfl, _⟩ := h
    rfl
  · obtain ⟨F, L, x, rfl, S, k⟩ := h
    refine ⟨_, PSs.nox (pss_one (ps_ret (pe_lst (pa_cons (pe_op op_mul (pv 0) (pe_callTy call_int1 (by rfl) T.n_int PyProof.Rows.boot_int (pa_cons (pe_cmpR op_ge (pv 0) (pe_op op_pow pe_int pe_int) (nomark _)) pa_nil)))
      (pa_cons (pe_op op_modN (pv 0) pe_int) (pa_cons pe_int pa_nil)))))), ?_⟩
    refine ⟨_, rfl, _, rfl, _, _, rfl, rfl, ⟨by decide, by decide, by decide⟩, _, _, rfl, rfl, .inr ⟨_, rfl, ?_⟩⟩
    refine ⟨_, _, rfl, rfl, .inr (by split <;> decide), ?_⟩
    refine ⟨_, rfl, _, _, rfl, rfl, (by show (2147483647 : Int) ≠ 0; decide), ?_⟩
    refine ⟨by show 3 ≤ sizeLine; decide, fun p hp => ?_⟩
    obtain ⟨h0, h1⟩ := fmodP (x := x) (m := 2147483647) (by decide)
    exact k p _ _ ⟨_, _, _, rfl, h0, h1, by decide, by decide⟩ (S.newL hp _)
theorem ok_one (T : Top K mg) : FnOk P w K mg base CX0 2 (He.ga K "_law_one") T.fd__law_one ps__law_one (spOne K) := by
  refine T.F__law_one.ok sc__law_one (fun vs H Q E h => ?_) (fun cdv A outer s H vs Q E hr h => ?_)
  · obtain ⟨F, L, w, p, o, n, xs, rfl, _⟩ := h
    rfl
  · obtain ⟨F, L, w, p, o, n, xs, rfl, S, W, hn, hp, x0, x1, k⟩ := h
    refine ⟨_, PSs.nox (pss_one (ps_ret (pe_ix ix_list (pv 1) (pe_call (ok_draw T) hr rfl T.g__law_draw T.F__law_draw.kp (b__law_draw T) .nil pass0 (pa_cons (pv 0) (pa_cons (pe_callB call_len (by rfl) T.n_len PySem.boot_len (pa_cons (pv 1) pa_nil)) pa_nil))) (fun _ _ => rfl)))), ?_⟩
    refine ⟨_, rfl, _, rfl, _, rfl, _, xs.length, rfl, .inl ⟨_, S.sqL hp, rfl⟩, ?_⟩
    refine ⟨F, L, w, o, n, _, rfl, S, W, by omega, by omega, by omega, fun o' d H' W' d0 d1 S' => ?_⟩
    obtain ⟨x, hx, ha⟩ := atI_in (xs := xs) d0 d1
    exact ⟨p, xs, d, x, rfl, rfl, S'.sqL hp, ha, k x o' H' hx W' S'⟩
end
end Sb


set_option Elab.async false
set_option linter.all false
set_option maxRecDepth 100000
set_option maxHeartbeats 8000000
namespace Sb
open PySem L2
local macro_rules | `(tactic| walk_at "nrm") => `(tactic| try dsimp only [L2.start, List.map, List.length_cons, List.length_nil, List.cons_append, List.nil_append, List.replicate, Nat.reduceAdd, Nat.reduceSub, List.set_cons_zero, List.set_cons_succ, wipe])
/-! ### is_word, are_words -/
def letB (c : Nat) : Bool := !decide ([c] < ("a" : Str).cps.toList) && !decide (("z" : Str).cps.toList < [c])
def wordB (z : Str) : Bool := decide (1 ≤ z.length) && decide (z.length ≤ 12) && z.cps.toList.all letB
def isW : V → Bool
  | .str z => wordB z
  | _ => false
/-- a thing that is_word may be asked about -/
def WT (K : PySem.W.Frag) (F : Hp) (x : V) : Prop := ∃ (t : Value) (b : Bool), TyX K F x t ∧ PySem.W.kitOne K t (.type "str") = some b ∧ (b = true → ∃ z : Str, x = .str z ∧ z.length ≤ 100000) ∧ (b = false → isW x = false)
theorem WT.up {K : PySem.W.Frag} {F F' : Hp} {x : V} (h : WT K F x) (g : Gr F F') : WT K F' x := by
  obtain ⟨t, b, h1, h2⟩ := h
  exact ⟨t, b, g.tyX h1, h2⟩
theorem WT.str {K : PySem.W.Frag} {F : Hp} {z : Str} (h : z.length ≤ 100000) : WT K F (.str z) := ⟨_, true, .base (.str z), kit_ty (by decide +kernel), fun _ => ⟨z, rfl, h⟩, fun e => by cases e⟩
def spIsWord (K : PySem.W.Frag) : Sp := fun vs H Q _ => ∃ (F : Hp) (L : List (Addr × HO)) (x : V), vs = [x] ∧ Sta F L H ∧ WT K F x ∧ ∀ H', Sta F L H' → Q (.bl (isW x)) H'
theorem all_map (f : Nat → Bool) (l : List Nat) : (l.map f).all id = l.all f := by rw [List.all_map]; rfl
section
variable {P : Program} {w : World} {K : PySem.W.Frag} {mg : Str → Option Value} {base : Heap}
theorem ok_is_word (T : Top K mg) : FnOk P w K mg base CX0 1 (He.ga K "is_word") T.fd_is_word ps_is_word (spIsWord K) := by
  obtain ⟨tL, hL⟩ := T.i_LONGEST
  refine T.F_is_word.ok sc_is_word (fun vs H Q E h => ?_) (fun cdv A outer s H vs Q E hr h => ?_)
  · obtain ⟨F, L, x, rfl, _⟩ := h
    rfl
  · obtain ⟨F, L, x, rfl, S, ⟨t, b, hty, hk, hb1, hb0⟩, k⟩ := h
    refine ⟨_, PSs.nox (pss_cons (ps_if (PW.pt (pw_or (pt_not (pt_val (pe_callB call_isi (by rfl) T.n_isinstance (by decide +kernel) (pa_cons (pv 0) (pa_cons (pe_bltn (v := .ty "str") (by rfl) T.n_str (by decide +kernel) rfl) pa_nil)))))
        (pw_or1 (pt_not (pt_chain op_le op_le pe_int (pe_callB call_len (by rfl) T.n_len PySem.boot_len (pa_cons (pv 0) pa_nil)) (pe_glob (v := .int 12) rfl hL ⟨_, rfl⟩)))))) (pss_one (ps_ret pe_bl)) pss_nil)
      (pss_one (ps_ret (pe_callB (cr_all rfl) (by rfl) T.n_all (by decide +kernel) (pa_cons (pe_lc (own := [("letter", 1)]) (g := gName 1) rfl sc_is_word.nd (pi_str (pv 0))
        (blkOk_by (N := ["thing", "letter"]) (sc := defScope s_is_word) (by decide +kernel)) (fun _ _ _ _ _ => pg_name (i := 1) sc_is_word.nd rfl (Or.inl rfl)) (fun _ _ _ _ _ => pts_nil) (fun _ _ _ _ _ => pe_chain op_le_str op_le_str pe_str (pv 1) pe_str)) pa_nil))))), ?_⟩
    walk_at "nrm"
    refine ⟨_, rfl, x, _, t, _, b, rfl, .ty _, Gr.tyX S.fr hty, hk, _, rfl, ?_⟩
    cases b with
    | false =>
      have e := hb0 rfl
      have q := k H S
      rw [e] at q
      exact q
    | true =>
      obtain ⟨z, rfl, hz⟩ := hb1 rfl
      refine iteF ?_
      refine ⟨_, rfl, _, z.length, rfl, ⟨sz hz, rfl⟩, _, _, rfl, rfl, _, rfl, ?_⟩
      have e1 : decide ((1 : Int) ≤ (z.length : Int)) = decide (1 ≤ z.length) := by congr 1; exact propext ⟨fun h => by omega, fun h => by omega⟩
      have e2 : decide ((z.length : Int) ≤ 12) = decide (z.length ≤ 12) := by congr 1; exact propext ⟨fun h => by omega, fun h => by omega⟩
      have qF : (decide (1 ≤ z.length) && decide (z.length ≤ 12)) = false → Q (.bl false) H := fun e => by
        have q := k H S
        have e' : isW (.str z) = false := by
          show (decide (1 ≤ z.length) && decide (z.length ≤ 12) && z.cps.toList.all letB) = false
          rw [e]
          rfl
        rw [e'] at q
        exact q
      rw [e1]
      by_cases h1 : 1 ≤ z.length
      · rw [decide_eq_true h1]
        refine ⟨_, _, rfl, rfl, ?_⟩
        refine ⟨_, congrArg V.bl e2, ?_⟩
        by_cases h2 : z.length ≤ 12
        · rw [decide_eq_true h2]
          refine iteF ?_
          refine ⟨_, rfl, z, rfl, fun D hD => ?_⟩
          have hn : z.cps.size = z.cps.toList.length := by simp
          refine lc_it walk_str (fun i H' => Sta F ((D, .lst ((z.cps.toList.take i).map fun c => V.bl (letB c))) :: L) H') (by
            rw [List.take_zero]
            exact S.newL hD (.lst [])) (fun _ _ _ _ => True.intro) ?_ ?_
          · rintro i y H1 H2 hi S1 ⟨rfl, c, hc, rfl⟩
            refine ⟨rfl, ?_⟩
            walk_at "nrm"
            have hcl : z.cps.toList[i]? = some c := by simpa using hc
            have et : (z.cps.toList.take (i + 1)).map (fun c => V.bl (letB c)) = (z.cps.toList.take i).map (fun c => V.bl (letB c)) ++ [V.bl (letB c)] := by
              rw [List.take_add_one, hcl, List.map_append]
              rfl
            have hlen : ((z.cps.toList.take i).map fun c => V.bl (letB c)).length < sizeLine := by
              rw [List.length_map, List.length_take]
              have : z.cps.toList.length ≤ 12 := by rw [← hn]; exact h2
              exact szl (by omega)
            have nx : ∀ v : Bool, v = letB c → Sta F ((D, .lst ((z.cps.toList.take (i + 1)).map fun c => V.bl (letB c))) :: L) (upd H2 D (.lst ((z.cps.toList.take i).map (fun c => V.bl (letB c)) ++ [V.bl v]))) := fun v e => by
              rw [e, et]
              exact S1.set _
            refine ⟨_, rfl, _, _, rfl, rfl, _, rfl, ?_⟩
            refine ite2 (fun hx => ?_) (fun hx => ?_)
            · refine ⟨_, _, rfl, rfl, _, S1.hd, hlen, nx _ ?_⟩
              unfold letB
              rw [show (!decide ([c] < ("a" : Str).cps.toList)) = true from hx, Bool.true_and]
            · refine ⟨_, S1.hd, hlen, nx _ ?_⟩
              unfold letB
              rw [show (!decide ([c] < ("a" : Str).cps.toList)) = false from Bool.eq_false_iff.mpr hx, Bool.false_and]
          · intro H1 S1
            rw [hn, List.take_length] at S1
            refine ⟨D, z.cps.toList.map letB, rfl, ?_, ?_⟩
            · have e : (z.cps.toList.map letB).map V.bl = z.cps.toList.map fun c => V.bl (letB c) := by rw [List.map_map]; rfl
              rw [e]
              exact sq S1.hd
            · have q := k H1 S1.tl
              have e' : isW (.str z) = (z.cps.toList.map letB).all id := by
                show (decide (1 ≤ z.length) && decide (z.length ≤ 12) && z.cps.toList.all letB) = _
                rw [decide_eq_true h1, decide_eq_true h2, all_map]
                rfl
              rw [e'] at q
              exact q
        · rw [decide_eq_false h2]
          exact qF (by rw [decide_eq_false h2, Bool.and_false])
      · rw [decide_eq_false h1]
        refine iteF ?_
        refine ⟨_, rfl, ?_⟩
        exact qF (by rw [decide_eq_false h1, Bool.false_and])
/-- a tuple's items, words or not; as many as there may be; none twice -/
def areW (xs : List V) (m : Int) : Bool := decide ((xs.length : Int) ≤ m) && (xs.all isW && xs.all fun x => decide (xs.count x = 1))
/-- a thing that are_words may be asked about, and the answer -/
def AW (K : PySem.W.Frag) (F : Hp) (x : V) (m : Int) (r : Bool) : Prop := ∃ (t : Value) (b : Bool), TyX K F x t ∧ PySem.W.kitOne K t (.type "tuple") = some b ∧
  (b = false → r = false) ∧ (b = true → ∃ a xs, x = .ref a ∧ PT K F a xs ∧ xs.length ≤ 1000 ∧ (∀ y ∈ xs, WT K F y) ∧ r = areW xs m)
theorem AW.up {K : PySem.W.Frag} {F F' : Hp} {x : V} {m : Int} {r : Bool} (h : AW K F x m r) (g : Gr F F') : AW K F' x m r := by
  obtain ⟨t, b, h1, h2, h3, h4⟩ := h
  refine ⟨t, b, g.tyX h1, h2, h3, fun e => ?_⟩
  obtain ⟨a, xs, q1, q2, q3, q4, q5⟩ := h4 e
  exact ⟨a, xs, q1, q2.up g, q3, fun y hy => (q4 y hy).up g, q5⟩
def spAreWords (K : PySem.W.Frag) : Sp := fun vs H Q _ => ∃ (F : Hp) (L : List (Addr × HO)) (x : V) (m : Int) (r : Bool), vs = [x, .int m] ∧ Sta F L H ∧ AW K F x m r ∧ ∀ H', Sta F L H' → Q (.bl r) H'
theorem words_strs {xs : List V} (h : xs.all isW = true) : ∃ ws : List Str, xs = ws.map V.str := by
  induction xs with
  | nil => exact ⟨[], rfl⟩
  | cons x xs ih =>
    rw [List.all_cons, Bool.and_eq_true] at h
    obtain ⟨ws, rfl⟩ := ih h.2
    cases x with
    | str z => exact ⟨z :: ws, rfl⟩
    | _ => exact absurd h.1 (by simp [isW])
theorem count_str (z : Str) : ∀ (ws : List Str), (ws.map V.str).count (.str z) = ws.count z
  | [] => rfl
  | x :: ws => by
    rw [List.map_cons, List.count_cons, List.count_cons, count_str z ws]
    have e : (V.str x == V.str z) = (x == z) := by
      by_cases q : x = z
      · subst q; simp
      · have h1 : (x == z) = false := by simpa using q
        have h2 : (V.str x == V.str z) = false := by simpa using q
        rw [h1, h2]
    rw [e]
theorem take_map_all {α : Type} (f : α → Bool) (xs : List α) : (xs.map f).all id = xs.all f := by rw [List.all_map]; rfl
theorem ok_are_words (T : Top K mg) : FnOk P w K mg base CX0 2 (He.ga K "are_words") T.fd_are_words ps_are_words (spAreWords K) := by
  refine T.F_are_words.ok sc_are_words (fun vs H Q E h => ?_) (fun cdv A outer s H vs Q E hr h => ?_)
  · obtain ⟨F, L, x, m, r, rfl, _⟩ := h
    rfl
  · obtain ⟨F, L, x, m, r, rfl, S, ⟨t, b, hty, hk, hb0, hb1⟩, k⟩ := h
    refine ⟨_, PSs.nox (pss_cons (ps_if (PW.pt (pw_or (pt_not (pt_val (pe_callB call_isi (by rfl) T.n_isinstance (by decide +kernel) (pa_cons (pv 0) (pa_cons (pe_bltn (v := .ty "tuple") (by rfl) T.n_tuple (by decide +kernel) rfl) pa_nil)))))
        (pw_or1 (pt_cmpR op_gt (pe_callB call_len (by rfl) T.n_len PySem.boot_len (pa_cons (pv 0) pa_nil)) (pv 1) (nomark _))))) (pss_one (ps_ret pe_bl)) pss_nil)
      (pss_cons (ps_if (pt_not (pt_val (pe_callB (cr_all rfl) (by rfl) T.n_all (by decide +kernel) (pa_cons (pe_lc (own := [("item", 2)]) (g := gName 2) rfl sc_are_words.nd (pi_tup (pv 0))
        (blkOk_by (N := ["thing", "most", "item", "word"]) (sc := defScope s_are_words) (by decide +kernel)) (fun _ _ _ _ _ => pg_name (i := 2) sc_are_words.nd rfl (Or.inl rfl)) (fun _ _ _ _ _ => pts_nil)
        (fun _ _ _ _ _ => pe_call (ok_is_word T) (hr.mono (by decide)) rfl T.g_is_word T.F_is_word.kp (b_is_word T) .nil pass0 (pa_cons (pv 2) pa_nil))) pa_nil)))) (pss_one (ps_ret pe_bl)) pss_nil)
      (pss_one (ps_ret (pe_callB (cr_all rfl) (by rfl) T.n_all (by decide +kernel) (pa_cons (pe_lc (own := [("word", 3)]) (g := gName 3) (te := tOp rEq (tBMP K (rTCount K) (tVar 0) (tCons (tVar 3) tNil)) (tC (.int 1))) rfl sc_are_words.nd (pi_tup (pv 0))
        (blkOk_by (N := ["thing", "most", "item", "word"]) (sc := defScope s_are_words) (by decide +kernel)) (fun _ _ _ _ _ => pg_name (i := 3) sc_are_words.nd rfl (Or.inl rfl)) (fun _ _ _ _ _ => pts_nil)
        (fun _ _ _ _ _ => pe_cmpR op_eq (pe_bmP PySem.F.plainAttrs_tuple PySem.F.slot_tuple_count PySem.F.type_tuple_count (mt_tcount (by exact room65 hr)) (pv 0) (pa_cons (pv 3) pa_nil)) pe_int (nomark _))) pa_nil)))))), ?_⟩
    walk_at "nrm"
    refine ⟨_, rfl, x, _, t, _, b, rfl, .ty _, Gr.tyX S.fr hty, hk, _, rfl, ?_⟩
    cases b with
    | false =>
      have q := k H S
      rw [hb0 rfl] at q
      exact q
    | true =>
      obtain ⟨a, xs, rfl, hx, hl, hw, hr1⟩ := hb1 rfl
      refine iteF ?_
      refine ⟨_, rfl, _, xs.length, rfl, .inr ⟨_, (hx.at S).sqT, rfl⟩, _, rfl, _, _, rfl, rfl, _, rfl, ?_⟩
      refine ite2 (fun h0 => ?_) (fun h0 => ?_)
      · have q := k H S
        have h1 : m < (xs.length : Int) := of_decide_eq_true h0
        have e : r = false := by rw [hr1]; unfold areW; rw [decide_eq_false (by omega)]; rfl
        rw [e] at q
        exact q
      · have h1 : ¬ m < (xs.length : Int) := fun z => h0 (decide_eq_true z)
        walk_at "nrm"
        refine ⟨_, rfl, a, rfl, ⟨_, (hx.at S).sqT⟩, fun D hD => ?_⟩
        refine lc_tup (xs := xs) (fun i H' => Sta F ((D, .lst ((xs.take i).map fun y => V.bl (isW y))) :: L) H') (S.newL hD (.lst [])) (fun i H' _ S' => (hx.at S').sqT) ?_ ?_
        · intro i y H1 hy S1
          refine ⟨rfl, ?_⟩
          walk_at "nrm"
          have hi : i < xs.length := (List.getElem?_eq_some_iff.mp hy).1
          refine ⟨_, rfl, F, _, y, rfl, S1, hw y (List.mem_of_getElem? hy), fun H2 S2 => ⟨_, S2.hd, ?_, ?_⟩⟩
          · rw [List.length_map, List.length_take]
            exact szl (by omega)
          · have et : (xs.take (i + 1)).map (fun y => V.bl (isW y)) = (xs.take i).map (fun y => V.bl (isW y)) ++ [V.bl (isW y)] := by
              rw [List.take_add_one, hy, List.map_append]
              rfl
            rw [et]
            exact S2.set _
        · intro H1 S1
          rw [List.take_length] at S1
          have em : (xs.map isW).map V.bl = xs.map fun y => V.bl (isW y) := by rw [List.map_map]; rfl
          refine ⟨D, xs.map isW, rfl, by rw [em]; exact sq S1.hd, _, rfl, ?_⟩
          have e0 : (xs.map isW).all id = xs.all isW := take_map_all _ _
          rw [e0]
          cases hall : xs.all isW with
          | false =>
            have q := k H1 S1.tl
            have e : r = false := by rw [hr1]; unfold areW; rw [hall, Bool.false_and, Bool.and_false]
            rw [e] at q
            exact q
          | true =>
            refine iteF ?_
            obtain ⟨ws, hws⟩ := words_strs hall
            have S2 := S1.tl
            walk_at "nrm"
            refine ⟨_, rfl, a, rfl, ⟨_, (hx.at S2).sqT⟩, fun D2 hD2 => ?_⟩
            refine lc_tup (xs := xs) (fun i H' => Sta F ((D2, .lst ((xs.take i).map fun y => V.bl (decide (xs.count y = 1)))) :: L) H') (S2.newL hD2 (.lst [])) (fun i H' _ S' => (hx.at S').sqT) ?_ ?_
            · intro i y H3 hy S3
              refine ⟨rfl, ?_⟩
              walk_at "nrm"
              have hi : i < xs.length := (List.getElem?_eq_some_iff.mp hy).1
              obtain ⟨z, hz, rfl⟩ : ∃ z, z ∈ ws ∧ V.str z = y := by
                have hm := List.mem_of_getElem? hy
                rw [hws] at hm
                exact List.mem_map.mp hm
              refine ⟨_, rfl, ⟨a, xs, rfl, hx.at S3⟩, _, rfl, a, z, ws, rfl, rfl, by rw [← hws]; exact (hx.at S3).sqT, rfl, _, S3.hd, ?_, ?_⟩
              · rw [List.length_map, List.length_take]
                exact szl (by omega)
              · have ec : decide (V.int ((ws.count z : Nat) : Int) = V.int 1) = decide (xs.count (.str z) = 1) := by
                  rw [hws, count_str]
                  congr 1
                  rw [V.int.injEq]
                  exact propext ⟨fun h => by omega, fun h => by omega⟩
                have et : (xs.take (i + 1)).map (fun y => V.bl (decide (xs.count y = 1))) = (xs.take i).map (fun y => V.bl (decide (xs.count y = 1))) ++ [V.bl (decide (xs.count (.str z) = 1))] := by
                  rw [List.take_add_one, hy, List.map_append]
                  rfl
                rw [et, ← ec]
                exact S3.set _
            · intro H3 S3
              rw [List.take_length] at S3
              have em2 : (xs.map fun y => decide (xs.count y = 1)).map V.bl = xs.map fun y => V.bl (decide (xs.count y = 1)) := by rw [List.map_map]; rfl
              refine ⟨D2, xs.map fun y => decide (xs.count y = 1), rfl, by rw [em2]; exact sq S3.hd, ?_⟩
              have q := k H3 S3.tl
              have e : r = (xs.map fun y => decide (xs.count y = 1)).all id := by
                rw [hr1, take_map_all]
                unfold areW
                rw [hall, Bool.true_and, decide_eq_true (by omega), Bool.true_and]
              rw [e] at q
              exact q
end
end Sb


set_option Elab.async false
set_option linter.all false
set_option maxRecDepth 100000
set_option maxHeartbeats 8000000
namespace Sb
open PySem L2
local macro_rules | `(tactic| walk_at "nrm") => `(tactic| try dsimp only [L2.start, List.map, List.length_cons, List.length_nil, List.cons_append, List.nil_append, List.replicate, Nat.reduceAdd, Nat.reduceSub, List.set_cons_zero, List.set_cons_succ, wipe])
/-! ### Library -/
structure Lib where
  name : Str
  needs : List Str
  defs : List Str
  uses : List Str
  weak : List Str
  eager : Bool
  own : Bool
  deriving DecidableEq
abbrev sv (ws : List Str) : List V := ws.map V.str
def Lib.ok (l : Lib) : Bool := wordB l.name && (areW (sv l.needs) 12 && (!decide (l.name ∈ l.needs) && (areW (sv l.defs) 20 && (areW (sv l.uses) 20 && (areW (sv l.weak) 20 && (l.weak.all fun z => decide (z ∈ l.uses)))))))
abbrev libC (K : PySem.W.Frag) : Addr := He.ga K "Library"
def libFs (l : Lib) (a1 a2 a3 a4 : Addr) : List (Str × V) := [("name", .str l.name), ("needs", .ref a1), ("defines", .ref a2), ("uses", .ref a3), ("weak", .ref a4), ("eager", .bl l.eager), ("own_first", .bl l.own)]
/-- at a: the library l -/
structure LibAt (K : PySem.W.Frag) (F : Hp) (a : Addr) (l : Lib) : Prop where
  ok : l.ok = true
  at_ : ∃ dx a1 a2 a3 a4, F a = some (.ins (libC K) dx (libFs l a1 a2 a3 a4)) ∧ PT K F a1 (sv l.needs) ∧ PT K F a2 (sv l.defs) ∧ PT K F a3 (sv l.uses) ∧ PT K F a4 (sv l.weak)
theorem LibAt.up {K : PySem.W.Frag} {F F' : Hp} {a : Addr} {l : Lib} (h : LibAt K F a l) (g : Gr F F') : LibAt K F' a l := by
  obtain ⟨h0, dx, a1, a2, a3, a4, h1, h2, h3, h4, h5⟩ := h
  exact ⟨h0, dx, a1, a2, a3, a4, g _ _ h1, h2.up g, h3.up g, h4.up g, h5.up g⟩
theorem words_wt {K : PySem.W.Frag} {F : Hp} {ws : List Str} {m : Int} (h : areW (sv ws) m = true) : ∀ y ∈ sv ws, WT K F y := by
  intro y hy
  obtain ⟨z, hz, rfl⟩ := List.mem_map.mp hy
  unfold areW at h
  obtain ⟨_, h⟩ := and2 h
  obtain ⟨h, _⟩ := and2 h
  have hw : wordB z = true := List.all_eq_true.mp h _ hy
  unfold wordB at hw
  obtain ⟨hw, _⟩ := and2 hw
  obtain ⟨_, hw⟩ := and2 hw
  exact WT.str (by have := of_decide_eq_true hw; omega)
theorem aw_of {K : PySem.W.Frag} {F : Hp} {a : Addr} {ws : List Str} {m : Int} (hp : PT K F a (sv ws)) (h : areW (sv ws) m = true) (hm : m ≤ 1000) : AW K F (.ref a) m true := by
  refine ⟨_, true, ty_tup hp.sqT, kit_ty (by decide +kernel), (fun e => by cases e), fun _ => ⟨a, _, rfl, hp, ?_, words_wt h, h.symm⟩⟩
  unfold areW at h
  obtain ⟨h, _⟩ := and2 h
  have := of_decide_eq_true h
  omega
theorem wt_name {K : PySem.W.Frag} {F : Hp} {z : Str} (h : wordB z = true) : WT K F (.str z) := by
  unfold wordB at h
  obtain ⟨h, _⟩ := and2 h
  obtain ⟨_, h⟩ := and2 h
  exact WT.str (by have := of_decide_eq_true h; omega)
/-- Library.__init__ of valid values -/
def spLibInit (K : PySem.W.Frag) : Sp := fun vs H Q _ => ∃ (F : Hp) (L : List (Addr × HO)) (p dx a1 a2 a3 a4 : Addr) (l : Lib), vs = [.ref p, .str l.name, .ref a1, .ref a2, .ref a3, .ref a4, .bl l.eager, .bl l.own] ∧
  Sta F ((p, .ins (libC K) dx []) :: L) H ∧ l.ok = true ∧ PT K F a1 (sv l.needs) ∧ PT K F a2 (sv l.defs) ∧ PT K F a3 (sv l.uses) ∧ PT K F a4 (sv l.weak) ∧
  ∀ (F' H' : Hp), Gr F F' → LibAt K F' p l → Sta F' L H' → Q .non H'
section
variable {P : Program} {w : World} {K : PySem.W.Frag} {mg : Str → Option Value} {base : Heap}
theorem ok_lib_init (T : Top K mg) : FnOk P w K mg base CX0 3 (He.ma K (He.ga K "Library") "__init__") T.fd_Library___init__ ps_Library___init__ (spLibInit K) := by
  obtain ⟨t1, h12⟩ := T.i_MOST_NEEDS
  obtain ⟨t2, h20⟩ := T.i_MOST_SYMBOLS
  refine T.F_Library___init__.ok sc_Library___init__ (fun vs H Q E h => ?_) (fun cdv A outer s H vs Q E hr h => ?_)
  · obtain ⟨F, L, p, dx, a1, a2, a3, a4, l, rfl, _⟩ := h
    rfl
  · obtain ⟨F, L, p, dx, a1, a2, a3, a4, l, rfl, S, hok, p1, p2, p3, p4, k⟩ := h
    refine ⟨_, PSs.nox
      (pss_cons (ps_if (pt_not (pt_val (pe_call (ok_is_word T) (hr.mono (by decide)) rfl T.g_is_word T.F_is_word.kp (b_is_word T) .nil pass0 (pa_cons (pv 1) pa_nil)))) (pss_one ps_never) pss_nil)
      (pss_cons (ps_if (PW.pt (pw_or (pt_not (pt_val (pe_call (ok_are_words T) (hr.mono (by decide)) rfl T.g_are_words T.F_are_words.kp (b_are_words T) .nil pass0 (pa_cons (pv 2) (pa_cons (pe_glob (v := .int 12) rfl h12 ⟨_, rfl⟩) pa_nil))))) (pw_or1 (pt_cmpR op_in_seq (pv 1) (pv 2) (by rfl))))) (pss_one ps_never) pss_nil)
      (pss_cons (ps_if (pt_not (pt_val (pe_call (ok_are_words T) (hr.mono (by decide)) rfl T.g_are_words T.F_are_words.kp (b_are_words T) .nil pass0 (pa_cons (pv 3) (pa_cons (pe_glob (v := .int 20) rfl h20 ⟨_, rfl⟩) pa_nil))))) (pss_one ps_never) pss_nil)
      (pss_cons (ps_if (pt_not (pt_val (pe_call (ok_are_words T) (hr.mono (by decide)) rfl T.g_are_words T.F_are_words.kp (b_are_words T) .nil pass0 (pa_cons (pv 4) (pa_cons (pe_glob (v := .int 20) rfl h20 ⟨_, rfl⟩) pa_nil))))) (pss_one ps_never) pss_nil)
      (pss_cons (ps_if (PW.pt (pw_or (pt_not (pt_val (pe_call (ok_are_words T) (hr.mono (by decide)) rfl T.g_are_words T.F_are_words.kp (b_are_words T) .nil pass0 (pa_cons (pv 5) (pa_cons (pe_glob (v := .int 20) rfl h20 ⟨_, rfl⟩) pa_nil)))))
        (pw_or1 (pt_not (pt_val (pe_callB (cr_all rfl) (by rfl) T.n_all (by decide +kernel) (pa_cons (pe_lc (own := [("symbol", 8)]) (g := gName 8) (te := tOp (rIn K false) (tVar 8) (tVar 4)) rfl sc_Library___init__.nd (pi_tup (pv 5))
          (blkOk_by (N := ["self", "name", "needs", "defines", "uses", "weak", "eager", "own_first", "symbol"]) (sc := defScope s_Library___init__) (by decide +kernel)) (fun _ _ _ _ _ => pg_name (i := 8) sc_Library___init__.nd rfl (Or.inl rfl)) (fun _ _ _ _ _ => pts_nil)
          (fun _ _ _ _ _ => pe_cmpR op_in_seq (pv 8) (pv 4) (by rfl))) pa_nil))))))) (pss_one ps_never) pss_nil)
      (pss_cons (ps_if (pt_not (pt_val (pe_callB call_isi (by rfl) T.n_isinstance (by decide +kernel) (pa_cons (pv 6) (pa_cons (pe_bltn (v := .ty "bool") (by rfl) T.n_bool (by decide +kernel) rfl) pa_nil))))) (pss_one ps_never) pss_nil)
      (pss_cons (ps_if (pt_not (pt_val (pe_callB call_isi (by rfl) T.n_isinstance (by decide +kernel) (pa_cons (pv 7) (pa_cons (pe_bltn (v := .ty "bool") (by rfl) T.n_bool (by decide +kernel) rfl) pa_nil))))) (pss_one ps_never) pss_nil)
      (pss_cons (ps_fld (pv 0) (pv 1) rfl) (pss_cons (ps_fld (pv 0) (pv 2) rfl) (pss_cons (ps_fld (pv 0) (pv 3) rfl) (pss_cons (ps_fld (pv 0) (pv 4) rfl) (pss_cons (ps_fld (pv 0) (pv 5) rfl) (pss_cons (ps_fld (pv 0) (pv 6) rfl) (pss_one (ps_fld (pv 0) (pv 7) rfl))))))))))))))), ?_⟩
    have hok0 := hok
    unfold Lib.ok at hok
    obtain ⟨w1, hok⟩ := and2 hok
    obtain ⟨w2, hok⟩ := and2 hok
    obtain ⟨w3, hok⟩ := and2 hok
    obtain ⟨w4, hok⟩ := and2 hok
    obtain ⟨w5, hok⟩ := and2 hok
    obtain ⟨w6, w7⟩ := and2 hok
    walk_at "nrm"
    refine ⟨_, rfl, F, _, _, rfl, S, wt_name w1, fun H1 S1 => ⟨_, rfl, ?_⟩⟩
    have e1 : isW (.str l.name) = true := w1
    rw [e1]
    refine iteF ?_
    refine ⟨_, rfl, F, _, _, _, _, rfl, S1, aw_of p1 w2 (by decide), fun H2 S2 => ⟨_, rfl, ?_⟩⟩
    refine iteF ?_
    refine ⟨_, rfl, _, rfl, a1, _, rfl, .inr (p1.at S2).sqT, rfl, flat_strs _, _, rfl, ?_⟩
    rw [inV_strs]
    have e3 : decide (l.name ∈ l.needs) = false := by simpa using w3
    rw [e3]
    refine iteF ?_
    refine ⟨_, rfl, F, _, _, _, _, rfl, S2, aw_of p2 w4 (by decide), fun H3 S3 => ⟨_, rfl, ?_⟩⟩
    refine iteF ?_
    refine ⟨_, rfl, F, _, _, _, _, rfl, S3, aw_of p3 w5 (by decide), fun H4 S4 => ⟨_, rfl, ?_⟩⟩
    refine iteF ?_
    refine ⟨_, rfl, F, _, _, _, _, rfl, S4, aw_of p4 w6 (by decide), fun H5 S5 => ⟨_, rfl, ?_⟩⟩
    refine iteF ?_
    walk_at "nrm"
    refine ⟨_, rfl, a4, rfl, ⟨_, (p4.at S5).sqT⟩, fun D hD => ?_⟩
    refine lc_tup (xs := sv l.weak) (fun i H' => Sta F ((D, .lst ((l.weak.take i).map fun z => V.bl (decide (z ∈ l.uses)))) :: (p, .ins (libC K) dx []) :: L) H') (S5.newL hD (.lst [])) (fun i H' _ S' => (p4.at S').sqT) ?_ ?_
    · intro i y H6 hy S6
      refine ⟨rfl, ?_⟩
      walk_at "nrm"
      obtain ⟨z, hz, rfl⟩ : ∃ z, l.weak[i]? = some z ∧ V.str z = y := by
        have hm : (l.weak.map V.str)[i]? = some y := hy
        rw [List.getElem?_map] at hm
        cases e : l.weak[i]? with
        | none => rw [e] at hm; cases hm
        | some z => rw [e] at hm; exact ⟨z, rfl, Option.some.inj hm⟩
      have hw : l.weak.length ≤ 20 := by
        unfold areW at w6
        obtain ⟨q, _⟩ := and2 w6
        have := of_decide_eq_true q
        rw [List.length_map] at this
        omega
      refine ⟨_, rfl, _, rfl, a3, _, rfl, .inr (p3.at S6).sqT, rfl, flat_strs _, _, S6.hd, ?_, ?_⟩
      · rw [List.length_map, List.length_take]
        exact szl (by omega)
      · rw [inV_strs]
        have et : (l.weak.take (i + 1)).map (fun z => V.bl (decide (z ∈ l.uses))) = (l.weak.take i).map (fun z => V.bl (decide (z ∈ l.uses))) ++ [V.bl (decide (z ∈ l.uses))] := by
          rw [List.take_add_one, hz, List.map_append]
          rfl
        rw [et]
        exact S6.set _
    · intro H6 S6
      rw [show (sv l.weak).length = l.weak.length from List.length_map .., List.take_length] at S6
      have em : (l.weak.map fun z => decide (z ∈ l.uses)).map V.bl = l.weak.map fun z => V.bl (decide (z ∈ l.uses)) := by rw [List.map_map]; rfl
      refine ⟨D, l.weak.map fun z => decide (z ∈ l.uses), rfl, by rw [em]; exact sq S6.hd, _, rfl, ?_⟩
      rw [take_map_all, w7]
      refine iteF ?_
      have S7 := S6.tl
      walk_at "nrm"
      refine ⟨_, rfl, _, _, _, _, true, rfl, .ty _, .base (.bl _), kit_ty (by decide +kernel), _, rfl, ?_⟩
      refine iteF ?_
      refine ⟨_, rfl, _, _, _, _, true, rfl, .ty _, .base (.bl _), kit_ty (by decide +kernel), _, rfl, ?_⟩
      refine iteF ?_
      refine ⟨_, rfl, _, rfl, p, _, dx, _, rfl, S7.hd, T.c_Library, T.na_Library_name, by show 0 < 1000; decide, ?_⟩
      have e0 : putF "name" (.str l.name) [] = ([("name", .str l.name)] : List (Str × V)) := by
        rw [putF_k [] rfl (by decide +kernel)]
        rfl
      rw [e0]
      have S8 := S7.set (.ins (libC K) dx ([("name", .str l.name)] : List (Str × V)))
      generalize upd _ p _ = H8 at S8 ⊢
      refine ⟨_, rfl, _, rfl, p, _, dx, _, rfl, S8.hd, T.c_Library, T.na_Library_needs, by show 1 < 1000; decide, ?_⟩
      have e1 : putF "needs" (.ref a1) ([("name", .str l.name)] : List (Str × V)) = ([("name", .str l.name), ("needs", .ref a1)] : List (Str × V)) := by
        rw [putF_k ["name"] rfl (by decide +kernel)]
        rfl
      rw [e1]
      have S9 := S8.set (.ins (libC K) dx ([("name", .str l.name), ("needs", .ref a1)] : List (Str × V)))
      generalize upd _ p _ = H9 at S9 ⊢
      refine ⟨_, rfl, _, rfl, p, _, dx, _, rfl, S9.hd, T.c_Library, T.na_Library_defines, by show 2 < 1000; decide, ?_⟩
      have e2 : putF "defines" (.ref a2) ([("name", .str l.name), ("needs", .ref a1)] : List (Str × V)) = ([("name", .str l.name), ("needs", .ref a1), ("defines", .ref a2)] : List (Str × V)) := by
        rw [putF_k ["name", "needs"] rfl (by decide +kernel)]
        rfl
      rw [e2]
      have S10 := S9.set (.ins (libC K) dx ([("name", .str l.name), ("needs", .ref a1), ("defines", .ref a2)] : List (Str × V)))
      generalize upd _ p _ = H10 at S10 ⊢
      refine ⟨_, rfl, _, rfl, p, _, dx, _, rfl, S10.hd, T.c_Library, T.na_Library_uses, by show 3 < 1000; decide, ?_⟩
      have e3 : putF "uses" (.ref a3) ([("name", .str l.name), ("needs", .ref a1), ("defines", .ref a2)] : List (Str × V)) = ([("name", .str l.name), ("needs", .ref a1), ("defines", .ref a2), ("uses", .ref a3)] : List (Str × V)) := by
        rw [putF_k ["name", "needs", "defines"] rfl (by decide +kernel)]
        rfl
      rw [e3]
      have S11 := S10.set (.ins (libC K) dx ([("name", .str l.name), ("needs", .ref a1), ("defines", .ref a2), ("uses", .ref a3)] : List (Str × V)))
      generalize upd _ p _ = H11 at S11 ⊢
      refine ⟨_, rfl, _, rfl, p, _, dx, _, rfl, S11.hd, T.c_Library, T.na_Library_weak, by show 4 < 1000; decide, ?_⟩
      have e4 : putF "weak" (.ref a4) ([("name", .str l.name), ("needs", .ref a1), ("defines", .ref a2), ("uses", .ref a3)] : List (Str × V)) = ([("name", .str l.name), ("needs", .ref a1), ("defines", .ref a2), ("uses", .ref a3), ("weak", .ref a4)] : List (Str × V)) := by
        rw [putF_k ["name", "needs", "defines", "uses"] rfl (by decide +kernel)]
        rfl
      rw [e4]
      have S12 := S11.set (.ins (libC K) dx ([("name", .str l.name), ("needs", .ref a1), ("defines", .ref a2), ("uses", .ref a3), ("weak", .ref a4)] : List (Str × V)))
      generalize upd _ p _ = H12 at S12 ⊢
      refine ⟨_, rfl, _, rfl, p, _, dx, _, rfl, S12.hd, T.c_Library, T.na_Library_eager, by show 5 < 1000; decide, ?_⟩
      have e5 : putF "eager" (.bl l.eager) ([("name", .str l.name), ("needs", .ref a1), ("defines", .ref a2), ("uses", .ref a3), ("weak", .ref a4)] : List (Str × V)) = ([("name", .str l.name), ("needs", .ref a1), ("defines", .ref a2), ("uses", .ref a3), ("weak", .ref a4), ("eager", .bl l.eager)] : List (Str × V)) := by
        rw [putF_k ["name", "needs", "defines", "uses", "weak"] rfl (by decide +kernel)]
        rfl
      rw [e5]
      have S13 := S12.set (.ins (libC K) dx ([("name", .str l.name), ("needs", .ref a1), ("defines", .ref a2), ("uses", .ref a3), ("weak", .ref a4), ("eager", .bl l.eager)] : List (Str × V)))
      generalize upd _ p _ = H13 at S13 ⊢
      refine ⟨_, rfl, _, rfl, p, _, dx, _, rfl, S13.hd, T.c_Library, T.na_Library_own_first, by show 6 < 1000; decide, ?_⟩
      have e6 : putF "own_first" (.bl l.own) ([("name", .str l.name), ("needs", .ref a1), ("defines", .ref a2), ("uses", .ref a3), ("weak", .ref a4), ("eager", .bl l.eager)] : List (Str × V)) = ([("name", .str l.name), ("needs", .ref a1), ("defines", .ref a2), ("uses", .ref a3), ("weak", .ref a4), ("eager", .bl l.eager), ("own_first", .bl l.own)] : List (Str × V)) := by
        rw [putF_k ["name", "needs", "defines", "uses", "weak", "eager"] rfl (by decide +kernel)]
        rfl
      rw [e6]
      have S14 := S13.set (.ins (libC K) dx ([("name", .str l.name), ("needs", .ref a1), ("defines", .ref a2), ("uses", .ref a3), ("weak", .ref a4), ("eager", .bl l.eager), ("own_first", .bl l.own)] : List (Str × V)))
      generalize upd _ p _ = H14 at S14 ⊢
      obtain ⟨F', S15, g, hp⟩ := S14.frz
      exact k F' _ g ⟨hok0, dx, a1, a2, a3, a4, hp.1, p1.up g, p2.up g, p3.up g, p4.up g⟩ S15
end
end Sb


set_option Elab.async false
set_option linter.all false
set_option maxRecDepth 100000
set_option maxHeartbeats 8000000
namespace Sb
open PySem L2
local macro_rules | `(tactic| walk_at "nrm") => `(tactic| try dsimp only [L2.start, List.map, List.length_cons, List.length_nil, List.cons_append, List.nil_append, List.replicate, Nat.reduceAdd, Nat.reduceSub, List.set_cons_zero, List.set_cons_succ, wipe])
theorem look_hit {f : Str} {v : V} {r : List (Str × V)} : ((f, v) :: r).lookup f = some v := by simp [List.lookup]
theorem look_skip {f g : Str} {v : V} {r : List (Str × V)} {o : Option V} (h : decide (f = g) = false) (q : r.lookup f = o) : ((g, v) :: r).lookup f = o := by
  have h' : (f == g) = false := by simpa using h
  simp [List.lookup, h', q]
section
variable {l : Lib} {a1 a2 a3 a4 : Addr}
theorem lk_name : (libFs l a1 a2 a3 a4).lookup ("name" : Str) = some (.str l.name) := look_hit
theorem lk_needs : (libFs l a1 a2 a3 a4).lookup ("needs" : Str) = some (.ref a1) := look_skip (by decide +kernel) look_hit
theorem lk_defines : (libFs l a1 a2 a3 a4).lookup ("defines" : Str) = some (.ref a2) := look_skip (by decide +kernel) (look_skip (by decide +kernel) look_hit)
theorem lk_uses : (libFs l a1 a2 a3 a4).lookup ("uses" : Str) = some (.ref a3) := look_skip (by decide +kernel) (look_skip (by decide +kernel) (look_skip (by decide +kernel) look_hit))
theorem lk_weak : (libFs l a1 a2 a3 a4).lookup ("weak" : Str) = some (.ref a4) := look_skip (by decide +kernel) (look_skip (by decide +kernel) (look_skip (by decide +kernel) (look_skip (by decide +kernel) look_hit)))
theorem lk_eager : (libFs l a1 a2 a3 a4).lookup ("eager" : Str) = some (.bl l.eager) := look_skip (by decide +kernel) (look_skip (by decide +kernel) (look_skip (by decide +kernel) (look_skip (by decide +kernel) (look_skip (by decide +kernel) look_hit))))
theorem lk_own : (libFs l a1 a2 a3 a4).lookup ("own_first" : Str) = some (.bl l.own) := look_skip (by decide +kernel) (look_skip (by decide +kernel) (look_skip (by decide +kernel) (look_skip (by decide +kernel) (look_skip (by decide +kernel) (look_skip (by decide +kernel) look_hit)))))
end
theorem LibAt.ty {K : PySem.W.Frag} {mg : Str → Option Value} {F : Hp} {a : Addr} {l : Lib} (h : LibAt K F a l) (T : Top K mg) : TyX K F (.ref a) (.ref (libC K)) := by
  obtain ⟨_, dx, a1, a2, a3, a4, h1, _⟩ := h
  exact .base (.ins h1 T.c_Library T.o_Library.ha T.o_Library.hn T.o_Library.ht T.o_Library.hm)
/-- what is compared with a library l, and the answer -/
def EqT (K : PySem.W.Frag) (F : Hp) (l : Lib) (y : V) (r : Bool) : Prop := ∃ (t : Value) (b : Bool), TyX K F y t ∧ PySem.W.kitOne K t (.ref (libC K)) = some b ∧ (b = false → r = false) ∧
  (b = true → ∃ (a' : Addr) (l' : Lib), y = .ref a' ∧ LibAt K F a' l' ∧ r = decide (l = l'))
def spLibEq (K : PySem.W.Frag) : Sp := fun vs H Q _ => ∃ (F : Hp) (L : List (Addr × HO)) (a : Addr) (l : Lib) (y : V) (r : Bool), vs = [.ref a, y] ∧ Sta F L H ∧ LibAt K F a l ∧ EqT K F l y r ∧ ∀ H', Sta F L H' → Q (.bl r) H'
theorem lib_eq {l m : Lib} : decide (l = m) = (decide (l.name = m.name) && (decide (l.needs = m.needs) && (decide (l.defs = m.defs) && (decide (l.uses = m.uses) && (decide (l.weak = m.weak) && (decide (l.eager = m.eager) && decide (l.own = m.own))))))) := by
  obtain ⟨n, a, b, c, d, e, f⟩ := l
  obtain ⟨n', a', b', c', d', e', f'⟩ := m
  have h : (Lib.mk n a b c d e f = Lib.mk n' a' b' c' d' e' f') = (n = n' ∧ a = a' ∧ b = b' ∧ c = c' ∧ d = d' ∧ e = e' ∧ f = f') := by rw [Lib.mk.injEq]
  simp only [h, Bool.decide_and]
theorem dp_tup {K : PySem.W.Frag} {H : Hp} {a : Addr} {ws : List Str} (h : PT K H a (sv ws)) : Dp K H (.ref a) (.tuple (ws.map PyData.str)) := .tup h.sqT (dp_strs ws)
theorem plain_tup (ws : List Str) : PyData.plain (.tuple (ws.map PyData.str)) = true := plain_strs ws
theorem depth_tup (ws : List Str) : PyData.depth (.tuple (ws.map PyData.str)) ≤ 64 := by
  show PyData.depthAll (ws.map PyData.str) + 1 ≤ 64
  rw [depth_strs]
  decide
theorem eqv_tups (ws vs : List Str) : PyData.eqv (.tuple (ws.map PyData.str)) (.tuple (vs.map PyData.str)) = decide (ws = vs) := by rw [eqv_tup, eqvAll_strs]
section
variable {P : Program} {w : World} {K : PySem.W.Frag} {mg : Str → Option Value} {base : Heap}
theorem ok_lib_eq (T : Top K mg) : FnOk P w K mg base CX0 1 (He.ma K (He.ga K "Library") "__eq__") T.fd_Library___eq__ ps_Library___eq__ (spLibEq K) := by
  refine T.F_Library___eq__.ok sc_Library___eq__ (fun vs H Q E h => ?_) (fun cdv A outer s H vs Q E hr h => ?_)
  · obtain ⟨F, L, a, l, y, r, rfl, _⟩ := h
    rfl
  · obtain ⟨F, L, a, l, y, r, rfl, S, hl, ⟨t, b, hty, hk, hb0, hb1⟩, k⟩ := h
    refine ⟨_, PSs.nox (pss_one (ps_ret (pe_and (pe_callB call_isi (by rfl) T.n_isinstance (by decide +kernel) (pa_cons (pv 1) (pa_cons (pe_glob (v := .ref (libC K)) rfl T.g_Library rfl) pa_nil)))
      (pe_and (pe_cmpR op_eq (pe_fld (pv 0) rfl) (pe_fld (pv 1) rfl) (nomark _)) (pe_and (pe_cmpR (op_eqP hr.units) (pe_fld (pv 0) rfl) (pe_fld (pv 1) rfl) (nomark _)) (pe_and (pe_cmpR (op_eqP hr.units) (pe_fld (pv 0) rfl) (pe_fld (pv 1) rfl) (nomark _))
      (pe_and (pe_cmpR (op_eqP hr.units) (pe_fld (pv 0) rfl) (pe_fld (pv 1) rfl) (nomark _)) (pe_and (pe_cmpR (op_eqP hr.units) (pe_fld (pv 0) rfl) (pe_fld (pv 1) rfl) (nomark _)) (pe_and (pe_cmpR op_eq (pe_fld (pv 0) rfl) (pe_fld (pv 1) rfl) (nomark _))
      (pe_one (pe_cmpR op_eq (pe_fld (pv 0) rfl) (pe_fld (pv 1) rfl) (nomark _)))))))))))), ?_⟩
    walk_at "nrm"
    refine ⟨_, rfl, y, _, t, _, b, rfl, .own _, Gr.tyX S.fr hty, hk, _, rfl, ?_⟩
    cases b with
    | false =>
      have q := k H S
      rw [hb0 rfl] at q
      exact q
    | true =>
      obtain ⟨a', l', rfl, hl', hr'⟩ := hb1 rfl
      obtain ⟨_, dx, a1, a2, a3, a4, h1, p1, p2, p3, p4⟩ := hl
      obtain ⟨_, dx', b1, b2, b3, b4, h1', q1, q2, q3, q4⟩ := hl'
      have j := S.f h1
      have j' := S.f h1'
      have qf : decide (l = l') = false → Q (.bl false) H := fun e => by
        have q := k H S
        rw [hr', e] at q
        exact q
      refine ⟨_, rfl, a, _, dx, _, _, rfl, j, T.c_Library, T.na_Library_name, lk_name, _, rfl, a', _, dx', _, _, rfl, j', T.c_Library, T.na_Library_name, lk_name, rfl, _, rfl, ?_⟩
      refine ite2 (fun e1 => ?_) (fun e1 => ?_)
      rotate_left
      · refine qf ?_
        rw [lib_eq, Bool.and_eq_false_iff]
        left
        exact decide_eq_false fun e => e1 (by rw [e]; simp)
      refine ⟨_, rfl, a, _, dx, _, _, rfl, j, T.c_Library, T.na_Library_needs, lk_needs, _, rfl, a', _, dx', _, _, rfl, j', T.c_Library, T.na_Library_needs, lk_needs, _, _, dp_tup (p1.at S), dp_tup (q1.at S), plain_tup _, plain_tup _, depth_tup _, _, rfl, ?_⟩
      rw [eqv_tups]
      refine ite2 (fun e2 => ?_) (fun e2 => ?_)
      rotate_left
      · refine qf (decide_eq_false fun e => e2 (by rw [e]; simp))
      refine ⟨_, rfl, a, _, dx, _, _, rfl, j, T.c_Library, T.na_Library_defines, lk_defines, _, rfl, a', _, dx', _, _, rfl, j', T.c_Library, T.na_Library_defines, lk_defines, _, _, dp_tup (p2.at S), dp_tup (q2.at S), plain_tup _, plain_tup _, depth_tup _, _, rfl, ?_⟩
      rw [eqv_tups]
      refine ite2 (fun e3 => ?_) (fun e3 => ?_)
      rotate_left
      · refine qf (decide_eq_false fun e => e3 (by rw [e]; simp))
      refine ⟨_, rfl, a, _, dx, _, _, rfl, j, T.c_Library, T.na_Library_uses, lk_uses, _, rfl, a', _, dx', _, _, rfl, j', T.c_Library, T.na_Library_uses, lk_uses, _, _, dp_tup (p3.at S), dp_tup (q3.at S), plain_tup _, plain_tup _, depth_tup _, _, rfl, ?_⟩
      rw [eqv_tups]
      refine ite2 (fun e4 => ?_) (fun e4 => ?_)
      rotate_left
      · refine qf (decide_eq_false fun e => e4 (by rw [e]; simp))
      refine ⟨_, rfl, a, _, dx, _, _, rfl, j, T.c_Library, T.na_Library_weak, lk_weak, _, rfl, a', _, dx', _, _, rfl, j', T.c_Library, T.na_Library_weak, lk_weak, _, _, dp_tup (p4.at S), dp_tup (q4.at S), plain_tup _, plain_tup _, depth_tup _, _, rfl, ?_⟩
      rw [eqv_tups]
      refine ite2 (fun e5 => ?_) (fun e5 => ?_)
      rotate_left
      · refine qf (decide_eq_false fun e => e5 (by rw [e]; simp))
      refine ⟨_, rfl, a, _, dx, _, _, rfl, j, T.c_Library, T.na_Library_eager, lk_eager, _, rfl, a', _, dx', _, _, rfl, j', T.c_Library, T.na_Library_eager, lk_eager, rfl, _, rfl, ?_⟩
      refine ite2 (fun e6 => ?_) (fun e6 => ?_)
      rotate_left
      · refine qf (decide_eq_false fun e => e6 (by rw [e]; simp))
      refine ⟨_, rfl, a, _, dx, _, _, rfl, j, T.c_Library, T.na_Library_own_first, lk_own, _, rfl, a', _, dx', _, _, rfl, j', T.c_Library, T.na_Library_own_first, lk_own, rfl, ?_⟩
      have q := k H S
      have e : r = decide (V.bl l.own = V.bl l'.own) := by
        rw [hr', lib_eq]
        have f1 : l.name = l'.name := V.str.inj (of_decide_eq_true e1)
        have f6 : l.eager = l'.eager := V.bl.inj (of_decide_eq_true e6)
        rw [decide_eq_true f1, show decide (l.needs = l'.needs) = true from e2, show decide (l.defs = l'.defs) = true from e3, show decide (l.uses = l'.uses) = true from e4, show decide (l.weak = l'.weak) = true from e5, decide_eq_true f6]
        by_cases f7 : l.own = l'.own
        · simp [f7]
        · simp [f7]
      rw [e] at q
      exact q
end
end Sb


set_option Elab.async false
set_option linter.all false
set_option maxRecDepth 100000
set_option maxHeartbeats 8000000
namespace Sb
open PySem L2
local macro_rules | `(tactic| walk_at "nrm") => `(tactic| try dsimp only [L2.start, List.map, List.length_cons, List.length_nil, List.cons_append, List.nil_append, List.replicate, Nat.reduceAdd, Nat.reduceSub, List.set_cons_zero, List.set_cons_succ, wipe])
/-! ### the law's own words -/
/-- words that are told apart -/
structure Wds (ws : List Str) : Prop where
  nd : ws.Nodup
  w : ∀ z ∈ ws, wordB z = true ∧ z.length = 2
def wdsB (ws : List Str) : Bool := decide ws.Nodup && ws.all fun z => wordB z && decide (z.length = 2)
theorem wdsB_ok {ws : List Str} (h : wdsB ws = true) : Wds ws := by
  obtain ⟨h1, h2⟩ := and2 h
  refine ⟨of_decide_eq_true h1, fun z hz => ?_⟩
  obtain ⟨a, b⟩ := and2 (List.all_eq_true.mp h2 z hz)
  exact ⟨a, of_decide_eq_true b⟩
theorem count_nd : ∀ {ws : List Str}, ws.Nodup → ∀ z ∈ ws, ws.count z = 1
  | [], _, z, hz => by cases hz
  | x :: ws, h, z, hz => by
    obtain ⟨h1, h2⟩ := List.nodup_cons.mp h
    rw [List.count_cons]
    by_cases q : x = z
    · subst q
      have e : ws.count x = 0 := List.count_eq_zero.mpr h1
      simp [e]
    · have hz2 : z ∈ ws := by
        cases hz with
        | head => exact absurd rfl q
        | tail _ h => exact h
      have ih := count_nd h2 z hz2
      have e : (x == z) = false := by simpa using q
      simp [ih, e]
theorem areW_of {ws : List Str} {m : Int} (nd : ws.Nodup) (h : ∀ z ∈ ws, wordB z = true) (hl : (ws.length : Int) ≤ m) : areW (sv ws) m = true := by
  unfold areW
  rw [show (sv ws).length = ws.length from List.length_map .., decide_eq_true hl, Bool.true_and, Bool.and_eq_true]
  refine ⟨?_, ?_⟩
  · rw [List.all_map]
    exact List.all_eq_true.mpr fun z hz => h z hz
  · refine List.all_eq_true.mpr fun x hx => ?_
    obtain ⟨z, hz, rfl⟩ := List.mem_map.mp hx
    exact decide_eq_true (by rw [count_str]; exact count_nd nd z hz)
theorem Wds.rev {ws : List Str} (h : Wds ws) : Wds ws.reverse := ⟨(List.reverse_perm ws).nodup_iff.mpr h.nd, fun z hz => h.w z (List.mem_reverse.mp hz)⟩
abbrev alpha : Str := "abcdefghijklmnopqrstuvwxyz"
def lw (lead : Str) (k : Nat) : Str := lead ++ ⟨#[97 + k]⟩
def leads : List Str := ["u", "n", "d"]
theorem alpha_at : ∀ k : Nat, k < 26 → alpha.cps.toList[k]? = some (97 + k) := by decide +kernel
theorem alpha_len : alpha.length = 26 := by decide +kernel
theorem leads_wds : ∀ lead ∈ leads, ∀ c : Nat, c < 21 → wdsB ((List.range c).map (lw lead)) = true := by decide +kernel
theorem leads_len : ∀ lead ∈ leads, lead.length = 1 := by decide +kernel
def spWords (K : PySem.W.Frag) : Sp := fun vs H Q _ => ∃ (F : Hp) (L : List (Addr × HO)) (w : Addr) (o : HO) (n : Nat) (m : Int) (lead : Str), vs = [.ref w, .int m, .str lead] ∧ Sta F ((w, o) :: L) H ∧ Well n o ∧ n < 900000 ∧ 2 ≤ m ∧ m ≤ 20 ∧ lead ∈ leads ∧
  ∀ (p : Addr) (ws : List Str) (o' : HO) (F' H' : Hp), Gr F F' → PT K F' p (sv ws) → Wds ws → (ws.length : Int) ≤ m → Well (n + 3) o' → Sta F' ((w, o') :: L) H' → Q (.ref p) H'
section
variable {P : Program} {w : World} {K : PySem.W.Frag} {mg : Str → Option Value} {base : Heap}
theorem ok_words (T : Top K mg) : FnOk P w K mg base CX0 3 (He.ga K "_law_words") T.fd__law_words ps__law_words (spWords K) := by
  refine T.F__law_words.ok sc__law_words (fun vs H Q E h => ?_) (fun cdv A outer s H vs Q E hr h => ?_)
  · obtain ⟨F, L, w, o, n, m, lead, rfl, _⟩ := h
    rfl
  · obtain ⟨F, L, w0, o, n, m, lead, rfl, S, W, hn, m0, m1, hlead, k⟩ := h
    refine ⟨_, PSs.nox (pss_cons (ps_set (i := 3) sc__law_words.nd rfl (Or.inl rfl) (pe_call (ok_one T) (hr.mono (by decide)) rfl T.g__law_one T.F__law_one.kp (b__law_one T) .nil pass0 (pa_cons (pv 0) (pa_cons
        (pe_lst (pa_cons pe_int (pa_cons pe_int (pa_cons pe_int (pa_cons (pv 1) (pa_cons (pe_call (ok_draw T) (hr.mono (by decide)) rfl T.g__law_draw T.F__law_draw.kp (b__law_draw T) .nil pass0 (pa_cons (pv 0) (pa_cons (pe_op op_add (pv 1) pe_int) pa_nil))) pa_nil)))))) pa_nil))))
      (pss_one (ps_ret (pe_callTy call_tupZ (by rfl) T.n_tuple (by decide +kernel) (pa_cons (pe_stepL
        (pe_lc (own := [("_law_k", 4)]) (g := gName 4) rfl sc__law_words.nd (pi_range1 rfl T.n_range (pa_cons (pv 3) pa_nil)) (blkOk_by (N := ["_law_well_here", "_law_most", "_law_lead", "_law_count", "_law_k"]) (sc := defScope s__law_words) (by decide +kernel))
          (fun _ _ _ _ _ => pg_name (i := 4) sc__law_words.nd rfl (Or.inl rfl)) (fun _ _ _ _ _ => pts_nil) (fun _ _ _ _ _ => pe_op op_add_str (pv 2) (pe_item_str pe_str (pv 4) (fun _ _ => rfl))))
        (pe_call (ok_one T) (hr.mono (by decide)) rfl T.g__law_one T.F__law_one.kp (b__law_one T) .nil pass0 (pa_cons (pv 0) (pa_cons (pe_lst (pa_cons pe_int (pa_cons (pe_un un_neg pe_int) pa_nil))) pa_nil)))) pa_nil))))), ?_⟩
    walk_at "nrm"
    refine ⟨_, rfl, _, rfl, _, rfl, _, rfl, _, _, rfl, rfl, ?_⟩
    refine ⟨F, L, w0, o, n, _, rfl, S, W, by omega, by omega, by omega, fun o1 d H1 W1 d0 d1 S1 => ?_⟩
    refine ⟨by show 5 ≤ sizeLine; decide, fun p1 hp1 => ?_⟩
    obtain ⟨F1, S2, g1, l1⟩ := S1.mkF hp1 (.lst [.int 0, .int 1, .int 2, .int m, .int d])
    generalize upd _ p1 _ = H2 at S2 ⊢
    refine ⟨F1, L, w0, p1, o1, n + 1, _, rfl, S2, W1, by omega, l1.sqL, by show 0 < 5; decide, by show 5 < 1000; decide, fun x o2 H3 hx W2 S3 => ?_⟩
    obtain ⟨c, rfl, c0, c1⟩ : ∃ c : Nat, x = .int (c : Int) ∧ (c : Int) ≤ m ∧ c < 21 := by
      simp only [List.mem_cons, List.mem_nil_iff, or_false] at hx
      rcases hx with rfl | rfl | rfl | rfl | rfl
      · exact ⟨0, rfl, by omega, by decide⟩
      · exact ⟨1, rfl, by omega, by decide⟩
      · exact ⟨2, rfl, by omega, by decide⟩
      · exact ⟨m.toNat, by rw [Int.toNat_of_nonneg (by omega)], by omega, by omega⟩
      · exact ⟨d.toNat, by rw [Int.toNat_of_nonneg d0], by omega, by omega⟩
    walk_at "nrm"
    refine ⟨_, rfl, (c : Int), rfl, by omega, by omega, fun D hD => ?_⟩
    refine lc_range (lo := 0) (n := ((c : Int)).toNat) (fun i H' => Sta F1 ((D, .lst (sv ((List.range i).map (lw lead)))) :: (w0, o2) :: L) H') (S3.newL hD (.lst [])) ?_ ?_
    · intro i H' hi S'
      refine ⟨rfl, ?_⟩
      walk_at "nrm"
      have hi2 : i < 26 := by omega
      have ha := alpha_at i hi2
      refine ⟨_, rfl, _, rfl, alpha, ((0 : Int) + (i : Int)), 97 + i, rfl, rfl, by omega, by omega, ?_, ?_, ?_⟩
      · have := alpha_len
        omega
      · have e : ((0 : Int) + (i : Int)).toNat = i := by omega
        rw [e]
        simpa using ha
      · refine ⟨_, _, rfl, rfl, ?_, ?_⟩
        · have := leads_len lead hlead
          have e2 : Str.length ⟨#[97 + i]⟩ = 1 := rfl
          exact sz (by rw [this, e2]; decide)
        · refine ⟨_, S'.hd, ?_, ?_⟩
          · rw [List.length_map, List.length_map, List.length_range]
            exact szl (by omega)
          · have et : sv ((List.range (i + 1)).map (lw lead)) = sv ((List.range i).map (lw lead)) ++ [V.str (lw lead i)] := by
              show ((List.range (i + 1)).map (lw lead)).map V.str = ((List.range i).map (lw lead)).map V.str ++ [V.str (lw lead i)]
              rw [List.range_succ, List.map_append, List.map_append]
              rfl
            rw [et]
            exact S'.set _
    · intro H4 S4
      have ec : ((c : Int)).toNat = c := by omega
      rw [ec] at S4
      obtain ⟨F2, S5, g2, lD⟩ := S4.frz
      have hw := wdsB_ok (leads_wds lead hlead c c1)
      have hlen : ((List.range c).map (lw lead)).length = c := by rw [List.length_map, List.length_range]
      generalize (List.range c).map (lw lead) = ws at lD hw hlen
      walk_at "nrm"
      refine ⟨_, rfl, _, rfl, ?_⟩
      refine ⟨by show 2 ≤ sizeLine; decide, fun p2 hp2 => ?_⟩
      obtain ⟨F3, S6, g3, l3⟩ := S5.mkF hp2 (.lst [.int 1, .int (-1)])
      generalize upd _ p2 _ = H5 at S6 ⊢
      refine ⟨F3, L, w0, p2, o2, n + 1 + 1, _, rfl, S6, W2, by omega, l3.sqL, by show 0 < 2; decide, by show 2 < 1000; decide, fun x o3 H6 hx W3 S7 => ?_⟩
      have gg := g1.trans (g2.trans g3)
      have lD := lD.up g3
      refine ⟨D, sv ws, rfl, S7.sqL lD.sqL, ?_⟩
      simp only [List.mem_cons, List.mem_nil_iff, or_false] at hx
      rcases hx with rfl | rfl
      · refine .inl ⟨rfl, fun p hp => ?_⟩
        obtain ⟨F4, S8, g4, l4⟩ := S7.mkF hp (.lst (sv ws))
        generalize upd _ p _ = H7 at S8 ⊢
        exact ⟨p, _, rfl, S8.sqL l4.sqL, newT_sta S8 fun q F5 H8 g5 hq S9 => k q ws o3 F5 H8 (gg.trans (g4.trans g5)) hq hw (by omega) W3 S9⟩
      · refine .inr ⟨rfl, fun p hp => ?_⟩
        have er : (sv ws).reverse = sv ws.reverse := by
          show (ws.map V.str).reverse = ws.reverse.map V.str
          rw [List.map_reverse]
        rw [er]
        obtain ⟨F4, S8, g4, l4⟩ := S7.mkF hp (.lst (sv ws.reverse))
        generalize upd _ p _ = H7 at S8 ⊢
        exact ⟨p, _, rfl, S8.sqL l4.sqL, newT_sta S8 fun q F5 H8 g5 hq S9 => k q ws.reverse o3 F5 H8 (gg.trans (g4.trans g5)) hq hw.rev (by rw [List.length_reverse]; omega) W3 S9⟩
end
end Sb


set_option Elab.async false
set_option linter.all false
set_option maxRecDepth 100000
set_option maxHeartbeats 8000000
namespace Sb
open PySem L2
local macro_rules | `(tactic| walk_at "nrm") => `(tactic| try dsimp only [L2.start, List.map, List.length_cons, List.length_nil, List.cons_append, List.nil_append, List.replicate, Nat.reduceAdd, Nat.reduceSub, List.set_cons_zero, List.set_cons_succ, wipe])
/-! ### a row of values, a library made of it, read again -/
def rowV (l : Lib) (a1 a2 a3 a4 : Addr) : List V := [.str l.name, .ref a1, .ref a2, .ref a3, .ref a4, .bl l.eager, .bl l.own]
structure RowAt (K : PySem.W.Frag) (F : Hp) (p : Addr) (l : Lib) (a1 a2 a3 a4 : Addr) : Prop where
  row : PT K F p (rowV l a1 a2 a3 a4)
  p1 : PT K F a1 (sv l.needs)
  p2 : PT K F a2 (sv l.defs)
  p3 : PT K F a3 (sv l.uses)
  p4 : PT K F a4 (sv l.weak)
theorem RowAt.up {K : PySem.W.Frag} {F F' : Hp} {p a1 a2 a3 a4 : Addr} {l : Lib} (h : RowAt K F p l a1 a2 a3 a4) (g : Gr F F') : RowAt K F' p l a1 a2 a3 a4 := ⟨h.row.up g, h.p1.up g, h.p2.up g, h.p3.up g, h.p4.up g⟩
structure Good (l : Lib) : Prop where
  nm : l.name = "a" ∨ l.name = "abcdefghijkl" ∨ l.name = "core"
  n1 : Wds l.needs
  n2 : (l.needs.length : Int) ≤ 12
  d1 : Wds l.defs
  d2 : (l.defs.length : Int) ≤ 20
  u1 : Wds l.uses
  u2 : (l.uses.length : Int) ≤ 20
  wk : l.weak.Sublist l.uses
theorem names_ok : ∀ z ∈ (["a", "abcdefghijkl", "core", "other"] : List Str), wordB z = true ∧ z.length ≠ 2 := by decide +kernel
theorem ok_of {l : Lib} (h1 : wordB l.name = true) (h2 : l.needs.Nodup) (h3 : ∀ z ∈ l.needs, wordB z = true) (h4 : (l.needs.length : Int) ≤ 12) (h5 : l.name ∉ l.needs) (h6 : l.defs.Nodup) (h7 : ∀ z ∈ l.defs, wordB z = true) (h8 : (l.defs.length : Int) ≤ 20)
    (h9 : l.uses.Nodup) (h10 : ∀ z ∈ l.uses, wordB z = true) (h11 : (l.uses.length : Int) ≤ 20) (h12 : l.weak.Sublist l.uses) : l.ok = true := by
  unfold Lib.ok
  have hw : (l.weak.length : Int) ≤ 20 := by have := h12.length_le; omega
  have e : decide (l.name ∈ l.needs) = false := decide_eq_false h5
  rw [h1, areW_of h2 h3 h4, e, areW_of h6 h7 h8, areW_of h9 h10 h11, areW_of (h12.nodup h9) (fun z hz => h10 z (h12.subset hz)) hw]
  simp only [Bool.true_and, Bool.not_false]
  exact List.all_eq_true.mpr fun z hz => decide_eq_true (h12.subset hz)
theorem Good.name {l : Lib} (g : Good l) : wordB l.name = true ∧ l.name.length ≠ 2 := by
  rcases g.nm with e | e | e <;> (rw [e]; exact names_ok _ (by simp))
theorem Good.ok {l : Lib} (g : Good l) : l.ok = true :=
  ok_of g.name.1 g.n1.nd (fun z hz => (g.n1.w z hz).1) g.n2 (fun h => g.name.2 (g.n1.w _ h).2) g.d1.nd (fun z hz => (g.d1.w z hz).1) g.d2 g.u1.nd (fun z hz => (g.u1.w z hz).1) g.u2 g.wk
def spValues (K : PySem.W.Frag) : Sp := fun vs H Q _ => ∃ (F : Hp) (L : List (Addr × HO)) (w : Addr) (o : HO) (n : Nat), vs = [.ref w] ∧ Sta F ((w, o) :: L) H ∧ Well n o ∧ n < 800000 ∧
  ∀ (p a1 a2 a3 a4 : Addr) (l : Lib) (o' : HO) (F' H' : Hp), Gr F F' → RowAt K F' p l a1 a2 a3 a4 → Good l → Well (n + 100) o' → Sta F' ((w, o') :: L) H' → Q (.ref p) H'
def spMade (K : PySem.W.Frag) : Sp := fun vs H Q _ => ∃ (F : Hp) (L : List (Addr × HO)) (p a1 a2 a3 a4 : Addr) (l : Lib), vs = [.ref p] ∧ Sta F L H ∧ RowAt K F p l a1 a2 a3 a4 ∧ l.ok = true ∧
  ∀ (x : Addr) (F' H' : Hp), Gr F F' → LibAt K F' x l → Sta F' L H' → Q (.ref x) H'
def spRead (K : PySem.W.Frag) : Sp := fun vs H Q _ => ∃ (F : Hp) (L : List (Addr × HO)) (x : Addr) (l : Lib), vs = [.ref x] ∧ Sta F L H ∧ LibAt K F x l ∧
  ∀ (p a1 a2 a3 a4 : Addr) (F' H' : Hp), Gr F F' → RowAt K F' p l a1 a2 a3 a4 → Sta F' L H' → Q (.ref p) H'
section
variable {P : Program} {w : World} {K : PySem.W.Frag} {mg : Str → Option Value} {base : Heap}
theorem ok_values (T : Top K mg) : FnOk P w K mg base CX0 4 (He.ga K "_law_values") T.fd__law_values ps__law_values (spValues K) := by
  refine T.F__law_values.ok sc__law_values (fun vs H Q E h => ?_) (fun cdv A outer s H vs Q E hr h => ?_)
  · obtain ⟨F, L, w, o, n, rfl, _⟩ := h
    rfl
  · obtain ⟨F, L, w0, o, n, rfl, S, W, hn, k⟩ := h
    refine ⟨_, PSs.nox (pss_cons ((ps_set (i := 1) sc__law_values.nd rfl (Or.inl rfl) ((pe_call (ok_words T) (hr.mono (by decide)) rfl T.g__law_words T.F__law_words.kp (b__law_words T) .nil pass0 (pa_cons (pv 0) (pa_cons pe_int (pa_cons pe_str pa_nil)))))))
      (pss_cons ((ps_set (i := 2) sc__law_values.nd rfl (Or.inl rfl) (pe_callTy call_tupZ (by rfl) T.n_tuple (by decide +kernel) (pa_cons (pe_lc (own := [("_law_symbol", 5)]) (g := gName 5) rfl sc__law_values.nd (pi_tup (pv 1))
          (blkOk_by (N := ["_law_well_here", "_law_used", "_law_loose", "_law_name", "_law_first", "_law_symbol"]) (sc := defScope s__law_values) (by decide +kernel)) (fun _ _ _ _ _ => (pg_name (i := 5) sc__law_values.nd rfl (Or.inl rfl)))
          (fun _ _ _ _ _ => pts_one (pt_cmpR op_eq (pe_call (ok_draw T) (hr.mono (by decide)) rfl T.g__law_draw T.F__law_draw.kp (b__law_draw T) .nil pass0 (pa_cons (pv 0) (pa_cons pe_int pa_nil))) pe_int (nomark _))) (fun _ _ _ _ _ => pv 5)) pa_nil))))
      (pss_cons ((ps_set (i := 3) sc__law_values.nd rfl (Or.inl rfl) ((pe_call (ok_one T) (hr.mono (by decide)) rfl T.g__law_one T.F__law_one.kp (b__law_one T) .nil pass0 (pa_cons (pv 0) (pa_cons (pe_lst (pa_cons pe_str (pa_cons pe_str (pa_cons pe_str pa_nil)))) pa_nil))))))
      (pss_cons ((ps_set (i := 4) sc__law_values.nd rfl (Or.inl rfl) (pe_tupZ (pa_cons (pv 3) (pa_cons (pe_call (ok_words T) (hr.mono (by decide)) rfl T.g__law_words T.F__law_words.kp (b__law_words T) .nil pass0 (pa_cons (pv 0) (pa_cons pe_int (pa_cons pe_str pa_nil)))) (pa_cons (pe_call (ok_words T) (hr.mono (by decide)) rfl T.g__law_words T.F__law_words.kp (b__law_words T) .nil pass0 (pa_cons (pv 0) (pa_cons pe_int (pa_cons pe_str pa_nil)))) (pa_cons (pv 1) (pa_cons (pv 2) pa_nil))))))))
      (pss_one (ps_ret (pe_op op_catZA (pv 4) (pe_tupZ (pa_cons (pe_cmpR op_eq (pe_call (ok_draw T) (hr.mono (by decide)) rfl T.g__law_draw T.F__law_draw.kp (b__law_draw T) .nil pass0 (pa_cons (pv 0) (pa_cons pe_int pa_nil))) pe_int (nomark _)) (pa_cons (pe_cmpR op_eq (pe_call (ok_draw T) (hr.mono (by decide)) rfl T.g__law_draw T.F__law_draw.kp (b__law_draw T) .nil pass0 (pa_cons (pv 0) (pa_cons pe_int pa_nil))) pe_int (nomark _)) pa_nil)))))))))), ?_⟩
    walk_at "nrm"
    refine ⟨_, rfl, F, L, w0, o, n, 20, "u", rfl, S, W, by omega, by decide, by decide, by decide, fun pu us o1 F1 H1 g1 hu wu lu W1 S1 => ?_⟩
    walk_at "nrm"
    refine ⟨_, rfl, pu, rfl, ⟨_, (hu.at S1).sqT⟩, fun D hD => ?_⟩
    refine lc_tup (xs := sv us) (fun i H' => ∃ (o' : HO) (acc : List Str), Well (n + 3 + i) o' ∧ acc.Sublist (us.take i) ∧ Sta F1 ((D, .lst (sv acc)) :: (w0, o') :: L) H') ⟨o1, [], W1, List.Sublist.refl _, S1.newL hD (.lst [])⟩ (fun i H' _ ⟨_, _, _, _, S'⟩ => (hu.at S').sqT) ?_ ?_
    · rintro i y H2 hy ⟨o', acc, W', hs, S'⟩
      obtain ⟨z, hz, rfl⟩ : ∃ z, us[i]? = some z ∧ V.str z = y := by
        have hm : (us.map V.str)[i]? = some y := hy
        rw [List.getElem?_map] at hm
        cases e : us[i]? with
        | none => rw [e] at hm; cases hm
        | some z => rw [e] at hm; exact ⟨z, rfl, Option.some.inj hm⟩
      have hi : i < us.length := (List.getElem?_eq_some_iff.mp hz).1
      refine ⟨rfl, ?_⟩
      walk_at "nrm"
      refine ⟨_, rfl, F1, _, w0, o', n + 3 + i, 2, rfl, S'.swap, W', by omega, by decide, by decide, fun o2 d H3 W2 d0 d1 S2 => ?_⟩
      have et : us.take (i + 1) = us.take i ++ [z] := by rw [List.take_add_one, hz]; rfl
      have W3 : Well (n + 3 + (i + 1)) o2 := W2.mono (by omega)
      refine ⟨rfl, _, rfl, ?_⟩
      refine ite2 (fun _ => ?_) (fun _ => ?_)
      · refine ⟨_, rfl, _, S2.swap.hd, ?_, o2, acc ++ [z], W3, ?_, ?_⟩
        · have := hs.length_le
          rw [List.length_take] at this
          rw [List.length_map]
          exact szl (by omega)
        · rw [et]
          exact hs.append (List.Sublist.refl _)
        · have e : sv (acc ++ [z]) = sv acc ++ [V.str z] := by
            show (acc ++ [z]).map V.str = acc.map V.str ++ [V.str z]
            rw [List.map_append]
            rfl
          rw [e]
          exact S2.swap.set _
      · refine ⟨o2, acc, W3, ?_, S2.swap⟩
        rw [et]
        exact hs.trans (List.sublist_append_left _ _)
    · rintro H2 ⟨o2, acc, W2, hs, S2⟩
      rw [show (sv us).length = us.length from List.length_map ..] at W2 hs
      rw [List.take_length] at hs
      have W2 : Well (n + 23) o2 := W2.mono (by omega)
      obtain ⟨F2, S3, g2, lD⟩ := S2.frz
      refine ⟨D, _, rfl, S3.sqL lD.sqL, newT_sta (K := K) S3 fun pl F3 H3 g3 hpl S4 => ?_⟩
      walk_at "nrm"
      refine ⟨_, rfl, by show 3 ≤ sizeLine; decide, fun q1 hq1 => ?_⟩
      obtain ⟨F4, S5, g4, l4⟩ := S4.mkF hq1 (.lst [.str "a", .str "abcdefghijkl", .str "core"])
      generalize upd _ q1 _ = H4 at S5 ⊢
      refine ⟨F4, L, w0, q1, o2, n + 23, _, rfl, S5, W2, by omega, l4.sqL, by show 0 < 3; decide, by show 3 < 1000; decide, fun x o3 H5 hx W3 S6 => ?_⟩
      obtain ⟨nm, rfl, hnm⟩ : ∃ nm : Str, x = .str nm ∧ (nm = "a" ∨ nm = "abcdefghijkl" ∨ nm = "core") := by
        simp only [List.mem_cons, List.mem_nil_iff, or_false] at hx
        rcases hx with rfl | rfl | rfl
        · exact ⟨_, rfl, .inl rfl⟩
        · exact ⟨_, rfl, .inr (.inl rfl)⟩
        · exact ⟨_, rfl, .inr (.inr rfl)⟩
      walk_at "nrm"
      refine ⟨_, rfl, _, rfl, F4, L, w0, o3, n + 23 + 1, 12, "n", rfl, S6, W3, by omega, by decide, by decide, by decide, fun pn ns o4 F5 H6 g5 hn1 wn ln W4 S7 => ?_⟩
      refine ⟨_, rfl, F5, L, w0, o4, n + 23 + 1 + 3, 20, "d", rfl, S7, W4, by omega, by decide, by decide, by decide, fun pd ds o5 F6 H7 g6 hd1 wd ld W5 S8 => ?_⟩
      refine ⟨_, rfl, _, rfl, by show 5 ≤ sizeLine; decide, newT_sta (K := K) S8 fun pf F7 H8 g7 hf S9 => ?_⟩
      walk_at "nrm"
      refine ⟨_, rfl, _, rfl, F7, L, w0, o5, n + 23 + 1 + 3 + 3, 2, rfl, S9, W5, by omega, by decide, by decide, fun o6 d6 H9 W6 _ _ S10 => ?_⟩
      refine ⟨rfl, _, rfl, F7, L, w0, o6, n + 23 + 1 + 3 + 3 + 1, 2, rfl, S10, W6, by omega, by decide, by decide, fun o7 d7 H10 W7 _ _ S11 => ?_⟩
      refine ⟨rfl, by show 2 ≤ sizeLine; decide, newT_sta (K := K) S11 fun pb F8 H11 g8 hb S12 => ?_⟩
      refine cat_sta S12 (hf.up g8) hb (by show 5 + 2 ≤ 100000; decide) fun p F9 H12 g9 hp S13 => ?_
      have gg := g6.trans (g7.trans (g8.trans g9))
      refine k p pn pd pu pl ⟨nm, ns, ds, us, acc, decide (V.int d6 = V.int 0), decide (V.int d7 = V.int 0)⟩ o7 F9 H12 (g1.trans (g2.trans (g3.trans (g4.trans (g5.trans gg))))) ⟨hp, hn1.up gg, hd1.up (g7.trans (g8.trans g9)), hu.up (g2.trans (g3.trans (g4.trans (g5.trans gg)))), hpl.up (g4.trans (g5.trans gg))⟩
        ⟨hnm, wn, ln, wd, ld, wu, lu, hs⟩ (W7.mono (by omega)) S13
/-- Library(name, needs=.., .., own_first=..): all values written -/
theorem b_lib_all (T : Top K mg) : ∃ mv : List Value, KBn K T.fd_Library___init__ ps_Library___init__ 2 ["needs", "defines", "uses", "weak", "eager", "own_first"] (fun us ws => us ++ (mv ++ ws)) (fun vs zs => vs ++ ([] ++ zs)) :=
  FunD.kbinds0 T.F_Library___init__ 2 ["needs", "defines", "uses", "weak", "eager", "own_first"] [] (fun vs mz zs => vs ++ (mz ++ zs)) (by simp [He.DefD.kws, d_Library___init__]) (fun q hq => by cases hq) (fun r1 r2 r3 => r1.append (r2.append r3))
    (fun D doc pm an cdv ct us mv ws h1 h2 h3 => match us, h1, mv, h2, ws, h3 with
      | [_, _], _, [], _, [_, _, _, _, _, _], _ => rfl)
theorem ok_made (T : Top K mg) : FnOk P w K mg base CX0 5 (He.ga K "_law_made") T.fd__law_made ps__law_made (spMade K) := by
  obtain ⟨mv, hb⟩ := b_lib_all T
  refine T.F__law_made.ok sc__law_made (fun vs H Q E h => ?_) (fun cdv A outer s H vs Q E hr h => ?_)
  · obtain ⟨F, L, p, a1, a2, a3, a4, l, rfl, _⟩ := h
    rfl
  · obtain ⟨F, L, p, a1, a2, a3, a4, l, rfl, S, hrow, hok, k⟩ := h
    refine ⟨_, PSs.nox (pss_cons (ps_asg (pv 0) (pg_tup rfl (pgs_cons (pg_name (i := 1) sc__law_made.nd rfl (Or.inl rfl)) (pgs_cons (pg_name (i := 2) sc__law_made.nd rfl (Or.inl rfl)) (pgs_cons (pg_name (i := 3) sc__law_made.nd rfl (Or.inl rfl)) (pgs_cons (pg_name (i := 4) sc__law_made.nd rfl (Or.inl rfl)) (pgs_cons (pg_name (i := 5) sc__law_made.nd rfl (Or.inl rfl)) (pgs_cons (pg_name (i := 6) sc__law_made.nd rfl (Or.inl rfl)) (pgs_cons (pg_name (i := 7) sc__law_made.nd rfl (Or.inl rfl)) pgs_nil)))))))))
      (pss_one (ps_ret (pe_makeK T.mk_Library (ok_lib_init T) hr rfl T.g_Library hb pass0 (pa_cons (pv 1) pa_nil) (pk_cons (pv 2) (pk_cons (pv 3) (pk_cons (pv 4) (pk_cons (pv 5) (pk_cons (pv 6) (pk_cons (pv 7) pk_nil)))))))))), ?_⟩
    walk_at "nrm"
    refine ⟨_, rfl, p, _, rfl, (hrow.row.at S).sqT, rfl, _, _, rfl, _, _, rfl, _, _, rfl, _, _, rfl, _, _, rfl, _, _, rfl, _, _, rfl, rfl, ?_⟩
    walk_at "nrm"
    refine ⟨_, rfl, _, rfl, _, rfl, _, rfl, _, rfl, _, rfl, _, rfl, rfl, rfl, fun x dx hx hd ne => ?_⟩
    obtain ⟨F1, S1, g1, _⟩ := S.mkI (C := libC K) hx hd ne
    have hrow := hrow.up g1
    exact ⟨F1, L, x, dx, a1, a2, a3, a4, l, rfl, S1, hok, hrow.p1, hrow.p2, hrow.p3, hrow.p4, fun F2 H2 g2 hl S2 => ⟨rfl, k x F2 H2 (g1.trans g2) hl S2⟩⟩
theorem ok_read (T : Top K mg) : FnOk P w K mg base CX0 1 (He.ga K "_law_read") T.fd__law_read ps__law_read (spRead K) := by
  refine T.F__law_read.ok sc__law_read (fun vs H Q E h => ?_) (fun cdv A outer s H vs Q E hr h => ?_)
  · obtain ⟨F, L, x, l, rfl, _⟩ := h
    rfl
  · obtain ⟨F, L, x, l, rfl, S, ⟨_, dx, a1, a2, a3, a4, h1, p1, p2, p3, p4⟩, k⟩ := h
    have j := S.f h1
    refine ⟨_, PSs.nox (pss_one (ps_ret (pe_tupZ (pa_cons (pe_fld (pv 0) rfl) (pa_cons (pe_fld (pv 0) rfl) (pa_cons (pe_fld (pv 0) rfl) (pa_cons (pe_fld (pv 0) rfl) (pa_cons (pe_fld (pv 0) rfl) (pa_cons (pe_fld (pv 0) rfl) (pa_cons (pe_fld (pv 0) rfl) pa_nil)))))))))), ?_⟩
    walk_at "nrm"
    refine ⟨_, rfl, x, _, dx, _, _, rfl, j, T.c_Library, T.na_Library_name, lk_name, ?_⟩
    refine ⟨_, rfl, x, _, dx, _, _, rfl, j, T.c_Library, T.na_Library_needs, lk_needs, ?_⟩
    refine ⟨_, rfl, x, _, dx, _, _, rfl, j, T.c_Library, T.na_Library_defines, lk_defines, ?_⟩
    refine ⟨_, rfl, x, _, dx, _, _, rfl, j, T.c_Library, T.na_Library_uses, lk_uses, ?_⟩
    refine ⟨_, rfl, x, _, dx, _, _, rfl, j, T.c_Library, T.na_Library_weak, lk_weak, ?_⟩
    refine ⟨_, rfl, x, _, dx, _, _, rfl, j, T.c_Library, T.na_Library_eager, lk_eager, ?_⟩
    refine ⟨_, rfl, x, _, dx, _, _, rfl, j, T.c_Library, T.na_Library_own_first, lk_own, ?_⟩
    exact ⟨by show 7 ≤ sizeLine; decide, newT_sta (K := K) S fun p F1 H1 g1 hp S1 => k p a1 a2 a3 a4 F1 H1 g1 ⟨hp, p1.up g1, p2.up g1, p3.up g1, p4.up g1⟩ S1⟩
end
end Sb


set_option Elab.async false
set_option linter.all false
set_option maxRecDepth 100000
set_option maxHeartbeats 8000000
namespace Sb
open PySem L2
local macro_rules | `(tactic| walk_at "nrm") => `(tactic| try dsimp only [L2.start, List.map, List.length_cons, List.length_nil, List.cons_append, List.nil_append, List.replicate, Nat.reduceAdd, Nat.reduceSub, List.set_cons_zero, List.set_cons_succ, wipe])
/-! ### rows as data, and a row changed at one place -/
def rowD (l : Lib) : List PyData := [.str l.name, .tuple (l.needs.map PyData.str), .tuple (l.defs.map PyData.str), .tuple (l.uses.map PyData.str), .tuple (l.weak.map PyData.str), .bool l.eager, .bool l.own]
theorem dp_row {K : PySem.W.Frag} {F : Hp} {p a1 a2 a3 a4 : Addr} {l : Lib} (h : RowAt K F p l a1 a2 a3 a4) : Dp K F (.ref p) (.tuple (rowD l)) :=
  .tup h.row.sqT (.cons (.str _) (.cons (dp_tup h.p1) (.cons (dp_tup h.p2) (.cons (dp_tup h.p3) (.cons (dp_tup h.p4) (.cons (.bl _) (.cons (.bl _) .nil)))))))
theorem plain_row (l : Lib) : PyData.plain (.tuple (rowD l)) = true := by
  have h : ∀ ws : List Str, PyData.plainAll (ws.map PyData.str) = true := plain_strs
  simp [rowD, PyData.plain, PyData.plainAll, h]
theorem depth_row (l : Lib) : PyData.depth (.tuple (rowD l)) ≤ 64 := by
  have h : ∀ ws : List Str, PyData.depthAll (ws.map PyData.str) = 0 := depth_strs
  simp [rowD, PyData.depth, PyData.depthAll, h]
theorem eqv_row (l m : Lib) : PyData.eqv (.tuple (rowD l)) (.tuple (rowD m)) = decide (l = m) := by
  rw [eqv_tup, lib_eq]
  have e0 : PyData.eqv (.str l.name) (.str m.name) = decide (l.name = m.name) := by
    have e1 : PyData.eqv (.str l.name) (.str m.name) = (l.name == m.name) := by simp [PyData.eqv]
    rw [e1]
    by_cases q : l.name = m.name <;> simp [q]
  have eb : ∀ a b : Bool, PyData.eqv (.bool a) (.bool b) = decide (a = b) := by
    intro a b
    cases a <;> cases b <;> simp [PyData.eqv]
  simp only [rowD, PyData.eqvAll, e0, eqv_tups, eb, Bool.and_true]
theorem ok_of2 {l : Lib} (h1 : wordB l.name = true) (h2 : l.needs.Nodup) (h3 : ∀ z ∈ l.needs, wordB z = true) (h4 : (l.needs.length : Int) ≤ 12) (h5 : l.name ∉ l.needs) (h6 : l.defs.Nodup) (h7 : ∀ z ∈ l.defs, wordB z = true) (h8 : (l.defs.length : Int) ≤ 20)
    (h9 : l.uses.Nodup) (h10 : ∀ z ∈ l.uses, wordB z = true) (h11 : (l.uses.length : Int) ≤ 20) (h12 : l.weak.Nodup) (h13 : ∀ z ∈ l.weak, z ∈ l.uses) (h14 : (l.weak.length : Int) ≤ 20) : l.ok = true := by
  unfold Lib.ok
  have e : decide (l.name ∈ l.needs) = false := decide_eq_false h5
  rw [h1, areW_of h2 h3 h4, e, areW_of h6 h7 h8, areW_of h9 h10 h11, areW_of h12 (fun z hz => h10 z (h13 z hz)) h14]
  simp only [Bool.true_and, Bool.not_false]
  exact List.all_eq_true.mpr fun z hz => decide_eq_true (h13 z hz)
/-- words, one more or without the first -/
structure Wdx (ws vs : List Str) (m : Int) : Prop where
  nd : vs.Nodup
  w : ∀ z ∈ vs, wordB z = true
  l : (vs.length : Int) ≤ m
  o : ∀ z ∈ vs, z ∈ ws ∨ z = "more"
theorem more_ok : wordB "more" = true ∧ Str.length "more" ≠ 2 ∧ (∀ z ∈ (["a", "abcdefghijkl", "core"] : List Str), z ≠ ("more" : Str)) := by decide +kernel
theorem wdx_more {ws : List Str} {m : Int} (h : Wds ws) (hl : ¬ m ≤ (ws.length : Int)) : Wdx ws (ws ++ [("more" : Str)]) m := by
  refine ⟨?_, ?_, ?_, ?_⟩
  · refine List.nodup_append.mpr ⟨h.nd, by simp, ?_⟩
    intro x hx y hy e
    rw [List.mem_singleton] at hy
    subst hy
    subst e
    exact more_ok.2.1 (h.w _ hx).2
  · intro z hz
    rcases List.mem_append.mp hz with hz | hz
    · exact (h.w z hz).1
    · rw [List.mem_singleton] at hz
      rw [hz]
      exact more_ok.1
  · rw [List.length_append]
    simp only [List.length_cons, List.length_nil]
    omega
  · intro z hz
    rcases List.mem_append.mp hz with hz | hz
    · exact .inl hz
    · exact .inr (List.mem_singleton.mp hz)
theorem wdx_tail {ws : List Str} {m : Int} (h : Wds ws) (hl : (ws.length : Int) ≤ m) : Wdx ws ws.tail m := by
  have hs : ws.tail.Sublist ws := List.tail_sublist ws
  exact ⟨hs.nodup h.nd, fun z hz => (h.w z (hs.subset hz)).1, by have := hs.length_le; omega, fun z hz => .inl (hs.subset hz)⟩
theorem Wds.x {ws : List Str} {m : Int} (h : Wds ws) (hl : (ws.length : Int) ≤ m) : Wdx ws ws m := ⟨h.nd, fun z hz => (h.w z hz).1, hl, fun _ hz => .inl hz⟩
/-- what a change at one place makes of l: what `made` takes, weak aside -/
structure Chg (l l' : Lib) : Prop where
  nm : l'.name = l.name ∨ l'.name = "other"
  n : Wdx l.needs l'.needs 12
  d : Wdx l.defs l'.defs 20
  u : Wdx l.uses l'.uses 20
  k : l'.weak.Sublist l.weak
theorem Chg.ok {l l' : Lib} (g : Good l) (c : Chg l l') (h : ∀ z ∈ l'.weak, z ∈ l'.uses) : l'.ok = true := by
  have hk : l'.weak.Sublist l.uses := c.k.trans g.wk
  have hn : wordB l'.name = true ∧ l'.name.length ≠ 2 := by
    rcases c.nm with e | e
    · rw [e]
      exact g.name
    · rw [e]
      exact names_ok _ (by simp)
  have hm : l'.name ≠ "more" := by
    rcases c.nm with e | e
    · rw [e]
      refine more_ok.2.2 _ ?_
      rcases g.nm with e | e | e <;> simp [e]
    · rw [e]
      decide +kernel
  refine ok_of2 hn.1 c.n.nd c.n.w c.n.l (fun q => ?_) c.d.nd c.d.w c.d.l c.u.nd c.u.w c.u.l (hk.nodup g.u1.nd) h ?_
  · rcases c.n.o _ q with q | q
    · exact hn.2 (g.n1.w _ q).2
    · exact hm q
  · have := hk.length_le
    have := g.u2
    omega
theorem Chg.weak {l l' : Lib} (c : Chg l l') (ks : List Str) (h : ks.Sublist l.weak) : Chg l { l' with weak := ks } := ⟨c.nm, c.n, c.d, c.u, h⟩
theorem Good.chg {l : Lib} (g : Good l) : Chg l l := ⟨.inl rfl, g.n1.x g.n2, g.d1.x g.d2, g.u1.x g.u2, List.Sublist.refl _⟩
theorem set_cut {l : Lib} {a1 a2 a3 a4 : Addr} {x : V} : ∀ d : Nat, d < 7 → cutV (rowV l a1 a2 a3 a4) none (some (d : Int)) ++ [x] ++ cutV (rowV l a1 a2 a3 a4) (some ((d : Int) + 1)) none = (rowV l a1 a2 a3 a4).set d x
  | 0, _ => rfl
  | 1, _ => rfl
  | 2, _ => rfl
  | 3, _ => rfl
  | 4, _ => rfl
  | 5, _ => rfl
  | 6, _ => rfl
theorem row_mid {l : Lib} {a1 a2 a3 a4 : Addr} : cutV (rowV l a1 a2 a3 a4) (some 1) (some 4) = [.ref a1, .ref a2, .ref a3] := rfl
theorem row_weak {l : Lib} {a1 a2 a3 a4 b : Addr} {ks : List Str} : cutV (rowV l a1 a2 a3 a4) none (some 4) ++ [.ref b] ++ cutV (rowV l a1 a2 a3 a4) (some 5) none = rowV { l with weak := ks } a1 a2 a3 b := rfl
theorem cut_tail {ws : List Str} : cutV (sv ws) (some 1) none = sv ws.tail := by
  cases ws with
  | nil => rfl
  | cons w ws =>
    unfold cutV
    show ((V.str w :: sv ws).drop (min 1 (sv (w :: ws)).length)).take ((sv (w :: ws)).length - min 1 (sv (w :: ws)).length) = sv ws
    have e : (sv (w :: ws)).length = ws.length + 1 := by simp [sv]
    rw [e, Nat.min_eq_left (by omega)]
    show (sv ws).take (ws.length + 1 - 1) = sv ws
    rw [Nat.add_sub_cancel, List.take_of_length_le (by simp [sv])]
theorem RowAt.at {K : PySem.W.Frag} {F H : Hp} {L : List (Addr × HO)} {p a1 a2 a3 a4 : Addr} {l : Lib} (h : RowAt K F p l a1 a2 a3 a4) (S : Sta F L H) : RowAt K H p l a1 a2 a3 a4 := h.up S.fr
/-- x stands at m of a row that was l's; so changed, it is the row of l' -/
structure ChgV (K : PySem.W.Frag) (F : Hp) (m : Nat) (x : V) (l l' : Lib) (a1 a2 a3 a4 c1 c2 c3 c4 : Addr) : Prop where
  e : (rowV l a1 a2 a3 a4).set m x = rowV l' c1 c2 c3 c4
  p1 : PT K F c1 (sv l'.needs)
  p2 : PT K F c2 (sv l'.defs)
  p3 : PT K F c3 (sv l'.uses)
  p4 : PT K F c4 (sv l'.weak)
  c : Chg l l'
  k : m ≠ 3 → ∀ z ∈ l'.weak, z ∈ l'.uses
  u : m = 3 → x = .ref c3 ∧ l'.weak = l.weak ∧ c4 = a4
theorem ChgV.up {K : PySem.W.Frag} {F F' : Hp} {m : Nat} {x : V} {l l' : Lib} {a1 a2 a3 a4 c1 c2 c3 c4 : Addr} (h : ChgV K F m x l l' a1 a2 a3 a4 c1 c2 c3 c4) (g : Gr F F') : ChgV K F' m x l l' a1 a2 a3 a4 c1 c2 c3 c4 := ⟨h.e, h.p1.up g, h.p2.up g, h.p3.up g, h.p4.up g, h.c, h.k, h.u⟩
section
variable {K : PySem.W.Frag} {F : Hp} {l : Lib} {pr a1 a2 a3 a4 b : Addr}
theorem Good.wku {l : Lib} (g : Good l) : ∀ z ∈ l.weak, z ∈ l.uses := fun _ hz => g.wk.subset hz
theorem chv0 (h : RowAt K F pr l a1 a2 a3 a4) (g : Good l) : ChgV K F 0 (.str "other") l { l with name := "other" } a1 a2 a3 a4 a1 a2 a3 a4 :=
  ⟨rfl, h.p1, h.p2, h.p3, h.p4, ⟨.inr rfl, g.chg.n, g.chg.d, g.chg.u, List.Sublist.refl _⟩, fun _ => g.wku, fun e => by cases e⟩
theorem chv1 (h : RowAt K F pr l a1 a2 a3 a4) (g : Good l) {ws : List Str} (hb : PT K F b (sv ws)) (hw : Wdx l.needs ws 12) : ChgV K F 1 (.ref b) l { l with needs := ws } a1 a2 a3 a4 b a2 a3 a4 :=
  ⟨rfl, hb, h.p2, h.p3, h.p4, ⟨.inl rfl, hw, g.chg.d, g.chg.u, List.Sublist.refl _⟩, fun _ => g.wku, fun e => by cases e⟩
theorem chv2 (h : RowAt K F pr l a1 a2 a3 a4) (g : Good l) {ws : List Str} (hb : PT K F b (sv ws)) (hw : Wdx l.defs ws 20) : ChgV K F 2 (.ref b) l { l with defs := ws } a1 a2 a3 a4 a1 b a3 a4 :=
  ⟨rfl, h.p1, hb, h.p3, h.p4, ⟨.inl rfl, g.chg.n, hw, g.chg.u, List.Sublist.refl _⟩, fun _ => g.wku, fun e => by cases e⟩
theorem chv3 (h : RowAt K F pr l a1 a2 a3 a4) (g : Good l) {ws : List Str} (hb : PT K F b (sv ws)) (hw : Wdx l.uses ws 20) : ChgV K F 3 (.ref b) l { l with uses := ws } a1 a2 a3 a4 a1 a2 b a4 :=
  ⟨rfl, h.p1, h.p2, hb, h.p4, ⟨.inl rfl, g.chg.n, g.chg.d, hw, List.Sublist.refl _⟩, fun e => absurd rfl e, fun _ => ⟨rfl, rfl, rfl⟩⟩
theorem chv4 (h : RowAt K F pr l a1 a2 a3 a4) (g : Good l) (hb : PT K F b []) : ChgV K F 4 (.ref b) l { l with weak := [] } a1 a2 a3 a4 a1 a2 a3 b :=
  ⟨rfl, h.p1, h.p2, h.p3, hb, ⟨.inl rfl, g.chg.n, g.chg.d, g.chg.u, List.nil_sublist _⟩, (fun _ z hz => by cases hz), fun e => by cases e⟩
theorem chv5 (h : RowAt K F pr l a1 a2 a3 a4) (g : Good l) (e : Bool) : ChgV K F 5 (.bl e) l { l with eager := e } a1 a2 a3 a4 a1 a2 a3 a4 :=
  ⟨rfl, h.p1, h.p2, h.p3, h.p4, ⟨.inl rfl, g.chg.n, g.chg.d, g.chg.u, List.Sublist.refl _⟩, fun _ => g.wku, fun e => by cases e⟩
theorem chv6 (h : RowAt K F pr l a1 a2 a3 a4) (g : Good l) (e : Bool) : ChgV K F 6 (.bl e) l { l with own := e } a1 a2 a3 a4 a1 a2 a3 a4 :=
  ⟨rfl, h.p1, h.p2, h.p3, h.p4, ⟨.inl rfl, g.chg.n, g.chg.d, g.chg.u, List.Sublist.refl _⟩, fun _ => g.wku, fun e => by cases e⟩
end
/-! ### == of a library -/
theorem notF {K : PySem.W.Frag} {C : Addr} {n : String} (h : n ∈ ["NoneType", "int", "str", "tuple", "list"]) : PySem.W.notFirst K C (.type n) = true := by
  simp only [List.mem_cons, List.mem_nil_iff, or_false] at h
  rcases h with rfl | rfl | rfl | rfl | rfl <;> rfl
theorem notF_own {K : PySem.W.Frag} {C : Addr} : PySem.W.notFirst K C (.ref C) = true := by
  have e : (Value.ref C == Value.ref C) = true := by simp
  unfold PySem.W.notFirst
  rw [e, Bool.true_or]
section
variable {K : PySem.W.Frag} {mg : Str → Option Value} {F H : Hp} {L : List (Addr × HO)} {a b : Addr} {l l' : Lib} {y : V} {Q : VK} {E : XK}
theorem eqO_lib (T : Top K mg) (S : Sta F L H) (hl : LibAt K F a l) (hb : LibAt K F b l') (q : ∀ H', Sta F L H' → Q (.bl (decide (l = l'))) H') : rEqO K (spLibEq K) (He.ma K (He.ga K "Library") "__eq__") E (.ref a) (.ref b) H Q := by
  obtain ⟨dx, a1, a2, a3, a4, h1, _⟩ := hl.at_
  refine ⟨a, libC K, dx, _, .ref (libC K), rfl, S.f h1, Gr.tyX S.fr (hb.ty T), notF_own, T.m_Library___eq__.at_, T.m_Library___eq__.fn, F, L, a, l, .ref b, _, rfl, S, hl, ⟨.ref (libC K), true, hb.ty T, ?_, (fun e => by cases e), fun _ => ⟨b, l', rfl, hb, rfl⟩⟩, fun H' S' => ⟨⟨_, rfl⟩, q H' S'⟩⟩
  have e : (Value.ref (libC K) == Value.ref (libC K)) = true := by simp
  unfold PySem.W.kitOne
  rw [if_pos e]
theorem eqO_no (T : Top K mg) (S : Sta F L H) (hl : LibAt K F a l) {n : String} (ht : TyX K F y (.type n)) (hn : n ∈ ["NoneType", "int", "str", "tuple", "list"]) (q : ∀ H', Sta F L H' → Q (.bl false) H') : rEqO K (spLibEq K) (He.ma K (He.ga K "Library") "__eq__") E (.ref a) y H Q := by
  obtain ⟨dx, a1, a2, a3, a4, h1, _⟩ := hl.at_
  refine ⟨a, libC K, dx, _, .type n, rfl, S.f h1, Gr.tyX S.fr ht, notF hn, T.m_Library___eq__.at_, T.m_Library___eq__.fn, F, L, a, l, y, _, rfl, S, hl, ⟨.type n, false, ht, T.o_Library.kt n ?_, (fun _ => rfl), fun e => by cases e⟩, fun H' S' => ⟨⟨_, rfl⟩, q H' S'⟩⟩
  simp only [List.mem_cons, List.mem_nil_iff, or_false] at hn ⊢
  rcases hn with rfl | rfl | rfl | rfl | rfl <;> simp
end
theorem eq_both (l m : Lib) : (!decide (V.bl (decide (l = m)) = V.bl (PyData.eqv (.tuple (rowD m)) (.tuple (rowD l))))) = false := by
  rw [eqv_row]
  by_cases q : l = m
  · subst q
    simp
  · have q' : ¬ m = l := fun e => q e.symm
    simp [q, q']
def lib0 (z : Str) : Lib := ⟨z, [], [], [], [], false, false⟩
theorem lib0_ok {l : Lib} (g : Good l) : (lib0 l.name).ok = true :=
  ok_of2 g.name.1 (by simp [lib0]) (fun z hz => by cases hz) (by show (0 : Int) ≤ _; decide) (fun h => by cases h) (by simp [lib0]) (fun z hz => by cases hz) (by show (0 : Int) ≤ _; decide) (by simp [lib0]) (fun z hz => by cases hz) (by show (0 : Int) ≤ _; decide) (by simp [lib0]) (fun z hz => by cases hz) (by show (0 : Int) ≤ _; decide)
end Sb


set_option Elab.async false
set_option linter.all false
set_option maxRecDepth 100000
set_option maxHeartbeats 8000000
namespace Sb
open PySem L2
local macro_rules | `(tactic| walk_at "nrm") => `(tactic| try dsimp only [L2.start, List.map, List.length_cons, List.length_nil, List.cons_append, List.nil_append, List.replicate, Nat.reduceAdd, Nat.reduceSub, List.set_cons_zero, List.set_cons_succ, wipe])
/-! ### the law -/
def spLaw (K : PySem.W.Frag) : Sp := fun vs H Q _ => ∃ (a : Addr) (ns : List Int), vs = [.ref a] ∧ SqL K H a (ns.map V.int) ∧ ns.length ≤ 63 ∧ ∀ H', Q (.bl true) H'
theorem law_in {K : PySem.W.Frag} {H : Hp} {a : Addr} {ns : List Int} (hS : SqL K H a (ns.map V.int)) (hl : ns.length ≤ 63) : spLaw K [.ref a] H (fun v _ => v = .bl true) fun _ _ _ => False := ⟨a, ns, rfl, hS, hl, fun _ => rfl⟩
theorem b_lib_none (T : Top K mg) : ∃ ds : List Value, Vals ((d_Library___init__.kws K).map (·.2)) ds ∧ Binds K T.fd_Library___init__ ps_Library___init__ ds := by
  refine T.F_Library___init__.binds0 2 (by simp [He.DefD.kws, d_Library___init__]) rfl (fun D doc pm an cdv ct us ks h1 h2 => ?_)
  match us, h1, ks, h2 with
  | [_, _], _, [_, _, _, _, _, _], _ => exact ⟨_, _, _, _, _, _, rfl, rfl, _, _, _, _, _, _, rfl, rfl, _, _, _, _, _, _, rfl, rfl, _, _, _, _, _, _, rfl, rfl, _, _, _, _, _, _, rfl, rfl, _, _, _, _, _, _, rfl, rfl, rfl⟩
section
variable {P : Program} {w : World} {K : PySem.W.Frag} {mg : Str → Option Value} {base : Heap}
theorem ok_law (T : Top K mg) : FnOk P w K mg base CX0 6 (He.ga K "law") T.fd_law ps_law (spLaw K) := by
  obtain ⟨dn, hdn, hbn⟩ := b_lib_none T
  refine T.F_law.ok sc_law (fun vs H Q E h => ?_) (fun cdv A outer s H vs Q E hr h => ?_)
  · obtain ⟨a, ns, rfl, _⟩ := h
    rfl
  · obtain ⟨a, ns, rfl, hS, hlen, k⟩ := h
    refine ⟨_, PSs.nox (pss_cons (ps_for PassesOwn.never rfl (pi_list (pe_op op_cat (pe_slice sl_list (pv 0) po_none (po_some pe_int)) (pe_lst (pa_cons pe_int (pa_cons pe_int pa_nil))))) (pg_name (i := 1) sc_law.nd rfl (Or.inl rfl))
      (pss_cons ((ps_set (i := 2) sc_law.nd rfl (Or.inl rfl) ((pe_call (ok_well T) (hr.mono (by decide)) rfl T.g__law_well T.F__law_well.kp (b__law_well T) .nil pass0 (pa_cons (pv 1) pa_nil)))))
      (pss_cons ((ps_set (i := 3) sc_law.nd rfl (Or.inl rfl) ((pe_call (ok_values T) (hr.mono (by decide)) rfl T.g__law_values T.F__law_values.kp (b__law_values T) .nil pass0 (pa_cons (pv 2) pa_nil)))))
      (pss_cons ((ps_set (i := 4) sc_law.nd rfl (Or.inr rfl) ((pe_call (ok_made T) (hr.mono (by decide)) rfl T.g__law_made T.F__law_made.kp (b__law_made T) .nil pass0 (pa_cons (pv 3) pa_nil)))))
      (pss_cons ((ps_set (i := 5) sc_law.nd rfl (Or.inl rfl) ((pe_call (ok_read T) (hr.mono (by decide)) rfl T.g__law_read T.F__law_read.kp (b__law_read T) .nil pass0 (pa_cons (pv 4) pa_nil)))))
      (pss_cons ((ps_if ((PW.pt (pw_or (pt_cmpR (op_neP hr.units) (pv 5) (pv 3) (nomark _)) (pw_or (pt_not (pt_val (pe_callB call_isi (by rfl) T.n_isinstance (by decide +kernel) (pa_cons (pe_ix ix_tup (pv 5) pe_int (fun _ _ => rfl)) (pa_cons (pe_bltn (v := .ty "tuple") (by rfl) T.n_tuple (by decide +kernel) rfl) pa_nil))))) (pw_or1 (pt_not (pt_val (pe_callB call_isi (by rfl) T.n_isinstance (by decide +kernel) (pa_cons (pe_ix ix_tup (pv 5) pe_int (fun _ _ => rfl)) (pa_cons (pe_bltn (v := .ty "bool") (by rfl) T.n_bool (by decide +kernel) rfl) pa_nil)))))))))) (pss_one (ps_ret pe_bl)) pss_nil))
      (pss_cons ((ps_set (i := 6) sc_law.nd rfl (Or.inl rfl) ((pe_call (ok_draw T) (hr.mono (by decide)) rfl T.g__law_draw T.F__law_draw.kp (b__law_draw T) .nil pass0 (pa_cons (pv 2) (pa_cons pe_int pa_nil))))))
      (pss_cons (ps_setLc (i := 7) (own := [("_law_some", 11)]) (g := gName 11) (te := tOp (rCatZA K) (tVar 11) (tTupZ (tCons (tC (.str "more")) tNil))) (by rfl) sc_law.nd rfl rfl (sw_true rfl rfl rfl (by decide +kernel)) (pi_tup (pe_slice sl_tupZA (pv 3) (po_some pe_int) (po_some pe_int)))
          (blkOk_by (N := ns_law) (sc := defScope s_law) (by decide +kernel)) (fun _ _ _ _ _ => (pg_name (i := 11) sc_law.nd rfl (Or.inl rfl))) (fun _ _ _ _ _ => pts_nil) (fun _ _ _ _ _ => pe_op op_catZA (pv 11) (pe_tupZ (pa_cons pe_str pa_nil))))
      (pss_cons ((ps_set (i := 8) sc_law.nd rfl (Or.inr rfl) (pe_op op_cat (pe_op op_cat (pe_lst (pa_cons pe_str pa_nil)) (pv 7)) (pe_lst (pa_cons (pe_tupZ pa_nil) pa_nil)))))
      (pss_cons ((ps_set (i := 8) sc_law.nd rfl (Or.inr rfl) (pe_ix ix_list (pe_op op_cat (pv 8) (pe_lst (pa_cons (pe_not (pe_ix ix_tup (pv 3) pe_int (fun _ _ => rfl))) (pa_cons (pe_not (pe_ix ix_tup (pv 3) pe_int (fun _ _ => rfl))) pa_nil)))) (pv 6) (fun _ _ => rfl))))
      (Evl.pss_cut ((ps_if ((PW.pt (pw_and (pt_cmpR op_in_seq (pv 6) (pe_lst (pa_cons pe_int (pa_cons pe_int (pa_cons pe_int pa_nil)))) (by rfl)) (pw_and1 (pt_cmpR op_ge (pe_callB call_len (by rfl) T.n_len PySem.boot_len (pa_cons (pe_ix ix_tup (pv 3) (pv 6) (fun _ _ => rfl)) pa_nil)) (pe_ix ix_list (pe_lst (pa_cons pe_int (pa_cons pe_int (pa_cons pe_int (pa_cons pe_int (pa_cons pe_int (pa_cons pe_int (pa_cons pe_int pa_nil)))))))) (pv 6) (fun _ _ => rfl)) (nomark _)))))) (pss_one ((ps_set (i := 8) sc_law.nd rfl (Or.inr rfl) (pe_slice sl_tupZA (pe_ix ix_tup (pv 3) (pv 6) (fun _ _ => rfl)) (po_some pe_int) po_none)))) pss_nil))
      (pss_cons ((ps_set (i := 9) sc_law.nd rfl (Or.inl rfl) (pe_op op_catZA (pe_op op_catZA (pe_slice sl_tupZA (pv 3) po_none (po_some (pv 6))) (pe_tupZ (pa_cons (pv 8) pa_nil))) (pe_slice sl_tupZA (pv 3) (po_some (pe_op op_add (pv 6) pe_int)) po_none))))
      (Evl.pss_cut ((ps_if (pt_cmpR op_eq (pv 6) pe_int (nomark _)) (pss_cons ((ps_set (i := 10) sc_law.nd rfl (Or.inl rfl) (pe_callTy call_tupZ (by rfl) T.n_tuple (by decide +kernel) (pa_cons (pe_lc (own := [("_law_symbol", 12)]) (g := gName 12) (tt := tTest (tOp (rIn K false) (tVar 12) (tVar 8))) rfl sc_law.nd (pi_tup (pe_ix ix_tup (pv 3) pe_int (fun _ _ => rfl)))
            (blkOk_by (N := ns_law) (sc := defScope s_law) (by decide +kernel)) (fun _ _ _ _ _ => (pg_name (i := 12) sc_law.nd rfl (Or.inl rfl))) (fun _ _ _ _ _ => pts_one (pt_cmpR op_in_seq (pv 12) (pv 8) (by rfl))) (fun _ _ _ _ _ => pv 12)) pa_nil))))
      (pss_one ((ps_set (i := 9) sc_law.nd rfl (Or.inl rfl) (pe_op op_catZA (pe_op op_catZA (pe_slice sl_tupZA (pv 9) po_none (po_some pe_int)) (pe_tupZ (pa_cons (pv 10) pa_nil))) (pe_slice sl_tupZA (pv 9) (po_some pe_int) po_none)))))) pss_nil))
      (pss_cons ((ps_if ((PW.pt (pw_or (pt_not (pt_cmpR (op_eqO (ok_lib_eq T) (hr.mono (by decide)) (b_Library___eq__ T) (E := E0) pass0) (pv 4) (pe_call (ok_made T) (hr.mono (by decide)) rfl T.g__law_made T.F__law_made.kp (b__law_made T) .nil pass0 (pa_cons (pv 3) pa_nil)) (nomark _))) (pw_or1 (pt_cmpR op_ne (pe_cmpR (op_eqO (ok_lib_eq T) (hr.mono (by decide)) (b_Library___eq__ T) (E := E0) pass0) (pv 4) (pe_call (ok_made T) (hr.mono (by decide)) rfl T.g__law_made T.F__law_made.kp (b__law_made T) .nil pass0 (pa_cons (pv 9) pa_nil)) (nomark _)) (pe_cmpR (op_eqP hr.units) (pv 9) (pv 3) (nomark _)) (nomark _)))))) (pss_one (ps_ret pe_bl)) pss_nil))
      (pss_cons ((ps_if (pt_val (pe_callB (cr_any rfl) (by rfl) T.n_any (by decide +kernel) (pa_cons (pe_lc (own := [("_law_thing", 13)]) (g := gName 13) (te := tOp (rEqO K (spLibEq K) (He.ma K (He.ga K "Library") "__eq__") E0) (tVar 4) (tVar 13)) rfl sc_law.nd
          (pi_list (pe_lst (pa_cons (pv 3) (pa_cons (pe_ix ix_tup (pv 3) pe_int (fun _ _ => rfl)) (pa_cons pe_non (pa_cons pe_int (pa_cons (pe_lst (pa_cons (pv 4) pa_nil)) pa_nil))))))) (blkOk_by (N := ns_law) (sc := defScope s_law) (by decide +kernel)) (fun _ _ _ _ _ => (pg_name (i := 13) sc_law.nd rfl (Or.inl rfl))) (fun _ _ _ _ _ => pts_nil)
          (fun _ _ _ _ _ => pe_cmpR (op_eqO (ok_lib_eq T) (hr.mono (by decide)) (b_Library___eq__ T) (E := E0) pass0) (pv 4) (pv 13) (nomark _))) pa_nil))) (pss_one (ps_ret pe_bl)) pss_nil))
      (pss_one ((ps_if (pt_cmpR (op_neP hr.units) (pe_call (ok_read T) (hr.mono (by decide)) rfl T.g__law_read T.F__law_read.kp (b__law_read T) .nil pass0 (pa_cons (pe_make T.mk_Library (ok_lib_init T) (hr.mono (by decide)) rfl T.g_Library hbn hdn pass0 (pa_cons (pe_ix ix_tup (pv 3) pe_int (fun _ _ => rfl)) pa_nil)) pa_nil))
          (pe_tupZ (pa_cons (pe_ix ix_tup (pv 3) pe_int (fun _ _ => rfl)) (pa_cons (pe_tupZ pa_nil) (pa_cons (pe_tupZ pa_nil) (pa_cons (pe_tupZ pa_nil) (pa_cons (pe_tupZ pa_nil) (pa_cons pe_bl (pa_cons pe_bl pa_nil)))))))) (nomark _)) (pss_one (ps_ret pe_bl)) pss_nil))))))))))))))))))
      (pss_one (ps_ret pe_bl))), ?_⟩
    walk_at "nrm"
    refine ⟨_, rfl, _, rfl, a, _, rfl, hS, fun p1 hp1 => ?_⟩
    have S0 := sta0 H
    obtain ⟨F1, S1, g1, l1⟩ := S0.mkF hp1 (.lst (cutV (ns.map V.int) none (some 10)))
    generalize upd _ p1 _ = H1 at S1 ⊢
    refine ⟨by show 2 ≤ sizeLine; decide, fun p2 hp2 => ?_⟩
    obtain ⟨F2, S2, g2, l2⟩ := S1.mkF hp2 (.lst [.int 0, .int 1])
    generalize upd _ p2 _ = H2 at S2 ⊢
    have l1 := l1.up g2
    refine ⟨p1, p2, _, _, rfl, rfl, S2.f l1.1, S2.f l2.1, ?_, fun p3 hp3 => ?_⟩
    · have z := cut_le (ns.map V.int) none (some 10)
      rw [List.length_map] at z
      exact sz (by show (cutV (ns.map V.int) none (some 10)).length + 2 ≤ 100000; omega)
    obtain ⟨F3, S3, g3, l3⟩ := S2.mkF hp3 (.lst (cutV (ns.map V.int) none (some 10) ++ [.int 0, .int 1]))
    generalize upd _ p3 _ = H3 at S3 ⊢
    have hints : ∀ x ∈ cutV (ns.map V.int) none (some 10) ++ [V.int 0, V.int 1], ∃ i : Int, x = .int i := by
      intro x hx
      rcases List.mem_append.mp hx with hx | hx
      · obtain ⟨i, _, rfl⟩ := List.mem_map.mp (cut_mem hx)
        exact ⟨i, rfl⟩
      · simp only [List.mem_cons, List.mem_nil_iff, or_false] at hx
        rcases hx with hx | hx
        · exact ⟨0, hx⟩
        · exact ⟨1, hx⟩
    generalize cutV (ns.map V.int) none (some 10) ++ [V.int 0, V.int 1] = cells at l3 hints ⊢
    clear S0 S1 S2 l1 l2 g1 g2 g3
    refine ⟨p3, rfl, ⟨cells, sq (S3.f l3.1)⟩, for_list (K := K) (a := p3) (xs := cells) (fun i σ H' => ∃ v1 v2 v3 v4 v5 v6 v7 v8 v9 v10 v11 v12 v13 : Option V, σ = [some (.ref a), v1, v2, v3, v4, v5, v6, v7, v8, v9, v10, v11, v12, v13] ∧ Sta F3 [] H')
      ⟨none, none, none, none, none, none, none, none, none, none, none, none, none, rfl, S3⟩ (fun i σ H' _ ⟨_, _, _, _, _, _, _, _, _, _, _, _, _, _, S⟩ => sq (S.f l3.1)) ?_ (fun σ H' ⟨_, _, _, _, _, _, _, _, _, _, _, _, _, _, _⟩ => k H')⟩
    rintro i y σ H4 hy ⟨v1, v2, v3, v4, v5, v6, v7, v8, v9, v10, v11, v12, v13, rfl, S4⟩
    obtain ⟨c, rfl⟩ := hints y (List.mem_of_getElem? hy)
    show tSeq _ _ _ [some (.ref a), some (.int c), v2, v3, v4, v5, v6, v7, v8, v9, v10, v11, v12, v13] H4
    refine ⟨_, rfl, F3, [], c, rfl, S4, fun w0 o0 H5 W5 S5 => ?_⟩
    walk_at "nrm"
    refine ⟨_, rfl, F3, [], w0, o0, 0, rfl, S5, W5, by decide, fun pr a1 a2 a3 a4 l o1 F5 H6 g5 hrow hg W6 S6 => ?_⟩
    walk_at "nrm"
    refine ⟨_, rfl, F5, _, pr, a1, a2, a3, a4, l, rfl, S6, hrow, hg.ok, fun x F6 H7 g6 hx S7 => ?_⟩
    walk_at "nrm"
    have hrow := hrow.up g6
    refine ⟨_, rfl, F6, _, x, l, rfl, S7, hx, fun pq q1 q2 q3 q4 F7 H8 g7 hq S8 => ?_⟩
    walk_at "nrm"
    have hrow := hrow.up g7
    have hx := hx.up g7
    refine ⟨_, rfl, _, rfl, _, _, dp_row (hq.at S8), dp_row (hrow.at S8), plain_row _, plain_row _, depth_row _, ?_⟩
    rw [eqv_row, decide_eq_true rfl]
    refine ⟨false, rfl, ?_⟩
    refine ite2 (fun e => by cases e) (fun _ => ?_)
    refine ⟨_, rfl, pq, _, 1, _, rfl, rfl, (hq.at S8).row.sqT, rfl, .ref q1, _, _, _, true, rfl, .ty _, ty_tup (hq.at S8).p1.sqT, kit_ty (by decide +kernel), true, rfl, ?_⟩
    refine ite2 (fun e => by cases e) (fun _ => ?_)
    refine ⟨_, rfl, pq, _, 5, _, rfl, rfl, (hq.at S8).row.sqT, rfl, .bl l.eager, _, _, _, true, rfl, .ty _, .base (.bl _), kit_ty (by decide +kernel), true, rfl, ?_⟩
    refine ite2 (fun e => by cases e) (fun _ => ?_)
    refine ⟨_, rfl, F7, [], w0, o1, 0 + 100, 7, rfl, S8, W6, by decide, by decide, by decide, fun o2 d H9 W9 d0 d1 S9 => ?_⟩
    walk_at "nrm"
    have hmid : ∀ (j : Nat) (y : V), ([V.ref a1, V.ref a2, V.ref a3] : List V)[j]? = some y → ∃ (b : Addr) (ws : List Str), y = .ref b ∧ ([l.needs, l.defs, l.uses] : List (List Str))[j]? = some ws ∧ PT K F7 b (sv ws) ∧ ws.length ≤ 20 := by
      intro j y hj
      match j, hj with
      | 0, hj => exact ⟨a1, l.needs, (Option.some.inj hj).symm, rfl, hrow.p1, by have := hg.n2; omega⟩
      | 1, hj => exact ⟨a2, l.defs, (Option.some.inj hj).symm, rfl, hrow.p2, by have := hg.d2; omega⟩
      | 2, hj => exact ⟨a3, l.uses, (Option.some.inj hj).symm, rfl, hrow.p3, by have := hg.u2; omega⟩
    refine ⟨_, rfl, _, rfl, _, rfl, slice_sta S9 hrow.row fun pm F8 H10 g8 hpm S10 => ?_⟩
    rw [row_mid] at hpm
    refine ⟨pm, rfl, ⟨_, (hpm.at S10).sqT⟩, fun D hD => ?_⟩
    refine lc_tup (xs := [.ref a1, .ref a2, .ref a3]) (fun i H' => ∃ (F' : Hp) (bs : List Addr), Gr F8 F' ∧ bs.length = i ∧ (∀ (j : Nat) (b : Addr) (ws : List Str), bs[j]? = some b → ([l.needs, l.defs, l.uses] : List (List Str))[j]? = some ws → PT K F' b (sv (ws ++ [("more" : Str)]))) ∧ Sta F' ((D, .lst (bs.map V.ref)) :: [(w0, o2)]) H')
      ⟨F8, [], Gr.refl _, rfl, (fun j b ws h => by cases h), S10.newL hD (.lst [])⟩ (fun i H' _ ⟨_, _, g, _, _, S'⟩ => ((hpm.up g).at S').sqT) ?_ ?_
    · rintro j y H' hy' ⟨F', bs, g', hb, hbs, S'⟩
      obtain ⟨b, ws, rfl, hws, hpt, hwl⟩ := hmid j y hy'
      refine ⟨rfl, ?_⟩
      walk_at "nrm"
      refine ⟨_, rfl, by show 1 ≤ sizeLine; decide, newT_sta (K := K) S' fun pt F1' H1' g1' hpt1 S1' => ?_⟩
      refine cat_sta S1' ((hpt.up g8).up (g'.trans g1')) hpt1 (by show (ws.map V.str).length + 1 ≤ 100000; rw [List.length_map]; omega) fun pc F2' H2' g2' hpc S2' => ?_
      refine ⟨_, S2'.hd, ?_, F2', bs ++ [pc], g'.trans (g1'.trans g2'), by rw [List.length_append, hb]; rfl, ?_, ?_⟩
      · rw [List.length_map, hb]
        have hj := (List.getElem?_eq_some_iff.mp hy').1
        exact szl (by show j < 100000; have : j < 3 := hj; omega)
      · intro j2 b2 ws2 e1 e2
        by_cases q : j2 < bs.length
        · rw [List.getElem?_append_left q] at e1
          exact (hbs j2 b2 ws2 e1 e2).up (g1'.trans g2')
        · rw [List.getElem?_append_right (by omega)] at e1
          have e3 : j2 - bs.length = 0 := by
            have := (List.getElem?_eq_some_iff.mp e1).1
            simp only [List.length_cons, List.length_nil] at this
            omega
          rw [e3] at e1
          have e4 : j2 = j := by omega
          subst e4
          rw [hws] at e2
          cases Option.some.inj e1
          cases Option.some.inj e2
          have ee : sv (ws ++ [("more" : Str)]) = sv ws ++ [V.str "more"] := by
            show (ws ++ [("more" : Str)]).map V.str = ws.map V.str ++ [V.str "more"]
            rw [List.map_append]
            rfl
          rw [ee]
          exact hpc
      · have e : (bs ++ [pc]).map V.ref = bs.map V.ref ++ [V.ref pc] := by
          rw [List.map_append]
          rfl
        rw [e]
        exact S2'.set _
    · rintro H11 ⟨F9, bs, g9, hb, hbs, S11⟩
      obtain ⟨b1, b2, b3, rfl⟩ : ∃ b1 b2 b3, bs = [b1, b2, b3] := by
        match bs, hb with
        | [b1, b2, b3], _ => exact ⟨b1, b2, b3, rfl⟩
      have hb1 := hbs 0 b1 _ rfl rfl
      have hb2 := hbs 1 b2 _ rfl rfl
      have hb3 := hbs 2 b3 _ rfl rfl
      clear hbs hb hmid
      obtain ⟨F10, S12, g10, lD⟩ := S11.frz
      have gg := g8.trans (g9.trans g10)
      have hrow := hrow.up gg
      have hx := hx.up gg
      have hb1 := hb1.up g10
      have hb2 := hb2.up g10
      have hb3 := hb3.up g10
      clear S5 S6 S7 S8 S9 S10 S11 hq hpm
      walk_at "nrm"
      refine ⟨by show 1 ≤ sizeLine; decide, fun p5 hp5 => ?_⟩
      obtain ⟨F11, S13, g11, l5⟩ := S12.mkF hp5 (.lst [.str "other"])
      generalize upd _ p5 _ = H12 at S13 ⊢
      have lD := lD.up g11
      refine ⟨_, rfl, p5, D, _, _, rfl, rfl, S13.f l5.1, S13.f lD.1, by show 1 + 3 ≤ sizeLine; decide, fun p6 hp6 => ?_⟩
      obtain ⟨F12, S14, g12, l6⟩ := S13.mkF hp6 (.lst ([.str "other"] ++ [b1, b2, b3].map V.ref))
      generalize upd _ p6 _ = H13 at S14 ⊢
      have l6 : Has F12 p6 (.lst [.str "other", .ref b1, .ref b2, .ref b3]) := l6
      refine ⟨by show 0 ≤ sizeLine; decide, newT_sta (K := K) S14 fun e0 F13 H14 g13 he S15 => ⟨by show 1 ≤ sizeLine; decide, fun p7 hp7 => ?_⟩⟩
      obtain ⟨F14, S16, g14, l7⟩ := S15.mkF hp7 (.lst [.ref e0])
      generalize upd _ p7 _ = H15 at S16 ⊢
      have l6 := (l6.up g13).up g14
      refine ⟨p6, p7, _, _, rfl, rfl, S16.f l6.1, S16.f l7.1, by show 4 + 1 ≤ sizeLine; decide, fun p8 hp8 => ?_⟩
      obtain ⟨F15, S17, g15, l8⟩ := S16.mkF hp8 (.lst ([.str "other", .ref b1, .ref b2, .ref b3] ++ [.ref e0]))
      generalize upd _ p8 _ = H16 at S17 ⊢
      have l8 : Has F15 p8 (.lst [.str "other", .ref b1, .ref b2, .ref b3, .ref e0]) := l8
      have gg := g11.trans (g12.trans (g13.trans (g14.trans g15)))
      have hrow := hrow.up gg
      have hx := hx.up gg
      have hb1 := hb1.up gg
      have hb2 := hb2.up gg
      have hb3 := hb3.up gg
      have he := (he.up g14).up g15
      have ga := gg
      clear S12 S13 S14 S15 S16 lD l5 l6 l7 g11 g12 g13 g14 g15 gg
      walk_at "nrm"
      refine ⟨_, rfl, _, rfl, pr, _, 5, _, rfl, rfl, (hrow.at S17).row.sqT, rfl, l.eager, rfl, _, rfl, pr, _, 6, _, rfl, rfl, (hrow.at S17).row.sqT, rfl, l.own, rfl, by show 2 ≤ sizeLine; decide, fun p9 hp9 => ?_⟩
      obtain ⟨F16, S18, g16, l9⟩ := S17.mkF hp9 (.lst [.bl (!l.eager), .bl (!l.own)])
      generalize upd _ p9 _ = H17 at S18 ⊢
      have l8 := l8.up g16
      refine ⟨p8, p9, _, _, rfl, rfl, S18.f l8.1, S18.f l9.1, by show 5 + 2 ≤ sizeLine; decide, fun p10 hp10 => ?_⟩
      obtain ⟨F17, S19, g17, l10⟩ := S18.mkF hp10 (.lst ([.str "other", .ref b1, .ref b2, .ref b3, .ref e0] ++ [.bl (!l.eager), .bl (!l.own)]))
      generalize upd _ p10 _ = H18 at S19 ⊢
      have l10 : Has F17 p10 (.lst [.str "other", .ref b1, .ref b2, .ref b3, .ref e0, .bl (!l.eager), .bl (!l.own)]) := l10
      have gg := g16.trans g17
      have hrow := hrow.up gg
      have hx := hx.up gg
      have hb1 := hb1.up gg
      have hb2 := hb2.up gg
      have hb3 := hb3.up gg
      have he := he.up gg
      have gb := gg
      clear S17 S18 l8 l9 g16 g17 gg
      obtain ⟨m, rfl, hm⟩ : ∃ m : Nat, d = (m : Int) ∧ m < 7 := ⟨d.toNat, by omega, by omega⟩
      obtain ⟨x0, _, hx0⟩ := atI_in (xs := [V.str "other", .ref b1, .ref b2, .ref b3, .ref e0, .bl (!l.eager), .bl (!l.own)]) d0 (by show ((m : Nat) : Int) < 7; omega)
      refine ⟨_, rfl, p10, _, _, x0, rfl, rfl, S19.sqL l10.sqL, hx0, ?_⟩
      walk_at "nrm"
      refine ⟨fun σ' H' => ∃ (F18 : Hp) (x' : V) (l' : Lib) (c1 c2 c3 c4 : Addr), σ' = [some (.ref a), some (.int c), some (.ref w0), some (.ref pr), some (.ref x), some (.ref pq), some (.int (m : Int)), some (.ref D), some x', v9, v10, v11, v12, v13] ∧
        Gr F17 F18 ∧ Sta F18 [(w0, o2)] H' ∧ ChgV K F18 m x' l l' a1 a2 a3 a4 c1 c2 c3 c4, ?_, ?_⟩
      rotate_left
      · rintro σ' H19 ⟨F18, x', l', c1, c2, c3, c4, rfl, g18, S20, hv⟩
        have hrow := hrow.up g18
        have hx := hx.up g18
        clear S19 l10 hb1 hb2 hb3 he hx0 lD
        refine ⟨_, rfl, ?_⟩
        dsimp only [tNoPart]
        refine ⟨_, rfl, _, rfl, slice_sta S20 hrow.row fun s1 F19 H20 g19 hs1 S21 => ?_⟩
        refine ⟨_, rfl, by show 1 ≤ sizeLine; decide, newT_sta (K := K) S21 fun t1 F20 H21 g20 ht1 S22 => ?_⟩
        have hcl : ∀ lo hi, (cutV (rowV l a1 a2 a3 a4) lo hi).length ≤ 7 := fun lo hi => cut_le (rowV l a1 a2 a3 a4) lo hi
        refine cat_sta S22 (hs1.up g20) ht1 (by have := hcl none (some (m : Int)); show _ + 1 ≤ 100000; omega) fun s2 F21 H22 g21 hs2 S23 => ?_
        have hrow := hrow.up (g19.trans (g20.trans g21))
        refine ⟨_, rfl, _, rfl, _, _, rfl, rfl, _, rfl, ?_⟩
        dsimp only [tNoPart]
        refine slice_sta S23 hrow.row fun s3 F22 H23 g22 hs3 S24 => ?_
        refine cat_sta S24 (hs2.up g22) hs3 (by have h1 := hcl none (some (m : Int)); have h2 := hcl (some ((m : Int) + 1)) none; rw [List.length_append]; show (_ + 1) + _ ≤ 100000; omega) fun po F23 H24 g23 hpo S25 => ?_
        rw [set_cut m hm, hv.e] at hpo
        have gg := g19.trans (g20.trans (g21.trans (g22.trans g23)))
        have hrow := hrow.up (g22.trans g23)
        have hx := hx.up gg
        have hv := hv.up gg
        have gc := gg
        clear S20 S21 S22 S23 S24 hs1 hs2 hs3 ht1 hcl g19 g20 g21 g22 g23
        walk_at "nrm"
        refine ⟨fun σ' H' => ∃ (F24 : Hp) (l2 : Lib) (c5 pz : Addr) (w10 w11 w12 w13 : Option V), σ' = [some (.ref a), some (.int c), some (.ref w0), some (.ref pr), some (.ref x), some (.ref pq), some (.int (m : Int)), some (.ref D), some x', some (.ref pz), w10, w11, w12, w13] ∧
          Gr F23 F24 ∧ Sta F24 [(w0, o2)] H' ∧ RowAt K F24 pz l2 c1 c2 c3 c5 ∧ l2.ok = true, ?_, ?_⟩
        · refine ⟨_, rfl, rfl, _, rfl, ?_⟩
          refine ite2 (fun e3 => ?_) (fun e3 => ?_)
          · obtain rfl : m = 3 := by
              have e := V.int.inj (of_decide_eq_true e3)
              omega
            obtain ⟨rfl, ek, rfl⟩ := hv.u rfl
            have hr20 : (l'.weak.length : Int) ≤ 20 := by
              have h1 := (hv.c.k.trans hg.wk).length_le
              have h2 := hg.u2
              omega
            refine ⟨_, rfl, pr, _, _, _, rfl, rfl, (hrow.at S25).row.sqT, rfl, c4, rfl, ⟨_, (hrow.at S25).p4.sqT⟩, fun D2 hD2 => ?_⟩
            refine lc_tup (xs := sv l.weak) (fun i H' => Sta F23 ((D2, .lst (sv ((l.weak.take i).filter fun z => decide (z ∈ l'.uses)))) :: [(w0, o2)]) H') (S25.newL hD2 (.lst [])) (fun i H' _ S' => (hrow.p4.at S').sqT) ?_ ?_
            · intro i y H' hy S'
              obtain ⟨z, hz, rfl⟩ : ∃ z, l.weak[i]? = some z ∧ V.str z = y := by
                have hm : (l.weak.map V.str)[i]? = some y := hy
                rw [List.getElem?_map] at hm
                cases e : l.weak[i]? with
                | none => rw [e] at hm; cases hm
                | some z => rw [e] at hm; exact ⟨z, rfl, Option.some.inj hm⟩
              have hi : i < l.weak.length := (List.getElem?_eq_some_iff.mp hz).1
              have et : l.weak.take (i + 1) = l.weak.take i ++ [z] := by rw [List.take_add_one, hz]; rfl
              refine ⟨rfl, ?_⟩
              walk_at "nrm"
              refine ⟨_, rfl, _, rfl, c3, sv l'.uses, rfl, .inr (hv.p3.at S').sqT, rfl, flat_strs _, decide (z ∈ l'.uses), congrArg V.bl (inV_strs z l'.uses), ?_⟩
              rw [et, List.filter_append]
              refine ite2 (fun e => ?_) (fun e => ?_)
              · refine ⟨_, rfl, _, S'.hd, ?_, ?_⟩
                · rw [List.length_map]
                  have h1 := List.length_filter_le (fun z => decide (z ∈ l'.uses)) (l.weak.take i)
                  have h2 := (List.take_sublist i l.weak).length_le
                  have h3 := hg.wk.length_le
                  have h4 := hg.u2
                  exact szl (by omega)
                · have e2 : [z].filter (fun z => decide (z ∈ l'.uses)) = [z] := by rw [List.filter_cons, if_pos e]; rfl
                  rw [e2]
                  have e4 : sv ((l.weak.take i).filter (fun z => decide (z ∈ l'.uses)) ++ [z]) = sv ((l.weak.take i).filter fun z => decide (z ∈ l'.uses)) ++ [V.str z] := by
                    show (_ ++ [z]).map V.str = _
                    rw [List.map_append]
                    rfl
                  rw [e4]
                  exact S'.set _
              · have e2 : [z].filter (fun z => decide (z ∈ l'.uses)) = [] := by rw [List.filter_cons, if_neg e]; rfl
                rw [e2, List.append_nil]
                exact S'
            · intro H25 S26
              rw [show (sv l.weak).length = l.weak.length from List.length_map .., List.take_length] at S26
              have hks : (l.weak.filter fun z => decide (z ∈ l'.uses)).Sublist l.weak := List.filter_sublist
              have hku : ∀ z ∈ l.weak.filter (fun z => decide (z ∈ l'.uses)), z ∈ l'.uses := fun z hz => of_decide_eq_true (List.mem_filter.mp hz).2
              generalize l.weak.filter (fun z => decide (z ∈ l'.uses)) = ks at S26 hks hku
              obtain ⟨F24, S27, g24, lD2⟩ := S26.frz
              refine ⟨D2, _, rfl, S27.sqL lD2.sqL, newT_sta (K := K) S27 fun pl F25 H27 g25 hpl S28 => ?_⟩
              walk_at "nrm"
              have gg := g24.trans g25
              have hpo := hpo.up gg
              refine ⟨_, rfl, ?_⟩
              dsimp only [tNoPart]
              refine ⟨_, rfl, slice_sta S28 hpo fun s1 F26 H28 g26 hs1 S29 => ?_⟩
              refine ⟨_, rfl, by show 1 ≤ sizeLine; decide, newT_sta (K := K) S29 fun t1 F27 H29 g27 ht1 S30 => ?_⟩
              have hcl : ∀ lo hi, (cutV (rowV l' c1 c2 c3 c4) lo hi).length ≤ 7 := fun lo hi => cut_le (rowV l' c1 c2 c3 c4) lo hi
              refine cat_sta S30 (hs1.up g27) ht1 (by have := hcl none (some 4); show _ + 1 ≤ 100000; omega) fun s2 F28 H30 g28 hs2 S31 => ?_
              have hpo := hpo.up (g26.trans (g27.trans g28))
              refine ⟨_, rfl, _, rfl, ?_⟩
              dsimp only [tNoPart]
              refine slice_sta S31 hpo fun s3 F29 H31 g29 hs3 S32 => ?_
              refine cat_sta S32 (hs2.up g29) hs3 (by have h1 := hcl none (some 4); have h2 := hcl (some 5) none; rw [List.length_append]; show (_ + 1) + _ ≤ 100000; omega) fun pz F30 H32 g30 hpz S33 => ?_
              have g31 := g26.trans (g27.trans (g28.trans (g29.trans g30)))
              have hv := hv.up (gg.trans g31)
              rw [row_weak (ks := ks)] at hpz
              exact ⟨F30, { l' with weak := ks }, pl, pz, _, _, _, _, rfl, gg.trans g31, S33, ⟨hpz, hv.p1, hv.p2, hv.p3, hpl.up g31⟩, (hv.c.weak ks hks).ok hg hku⟩
          · exact ⟨F23, l', c4, po, _, _, _, _, rfl, Gr.refl _, S25, ⟨hpo, hv.p1, hv.p2, hv.p3, hv.p4⟩, hv.c.ok hg (hv.k fun e => e3 (by rw [e]; exact decide_eq_true rfl))⟩
        · rintro σ' H25 ⟨F24, l2, c5, pz, w10, w11, w12, w13, rfl, g24, S26, hrow2, hok2⟩
          have hrow := hrow.up g24
          have hx := hx.up g24
          clear S25 hpo hv
          refine ⟨_, rfl, _, rfl, F24, [(w0, o2)], pr, a1, a2, a3, a4, l, rfl, S26, hrow, hg.ok, fun y F25 H26 g25 hy2 S27 => eqO_lib T S27 (hx.up g25) hy2 fun H27 S28 => ?_⟩
          have hrow := hrow.up g25
          have hrow2 := hrow2.up g25
          have hx := hx.up g25
          refine ⟨true, congrArg V.bl (decide_eq_true rfl), ?_⟩
          refine ite2 (fun e => by cases e) (fun _ => ?_)
          refine ⟨_, rfl, _, rfl, F25, _, pz, c1, c2, c3, c5, l2, rfl, S28, hrow2, hok2, fun y2 F26 H28 g26 hy3 S29 => eqO_lib T S29 (hx.up g26) hy3 fun H29 S30 => ?_⟩
          have hrow := hrow.up g26
          have hrow2 := hrow2.up g26
          have hx := hx.up g26
          refine ⟨_, rfl, _, rfl, _, _, dp_row (hrow2.at S30), dp_row (hrow.at S30), plain_row _, plain_row _, depth_row _, ?_⟩
          refine ⟨rfl, false, congrArg V.bl (eq_both l l2), ?_⟩
          refine ite2 (fun e => by cases e) (fun _ => ?_)
          clear S27 S28 S29 hrow2 hy2 hy3
          refine ⟨_, rfl, _, rfl, pr, _, _, _, rfl, rfl, (hrow.at S30).row.sqT, rfl, _, rfl, by show 1 ≤ sizeLine; decide, fun r1 hr1 => ?_⟩
          obtain ⟨F27, S31, g27, l31⟩ := S30.mkF hr1 (.lst [.ref x])
          generalize upd _ r1 _ = H30 at S31 ⊢
          refine ⟨by show 5 ≤ sizeLine; decide, fun r2 hr2 => ?_⟩
          obtain ⟨F28, S32, g28, l32⟩ := S31.mkF hr2 (.lst [.ref pr, .str l.name, .non, .int 1, .ref r1])
          generalize upd _ r2 _ = H31 at S32 ⊢
          have hrow := hrow.up (g27.trans g28)
          have hx := hx.up (g27.trans g28)
          have l31 := l31.up g28
          have hth : ∀ (i : Nat) (y : V), ([.ref pr, .str l.name, .non, .int 1, .ref r1] : List V)[i]? = some y → ∃ n : String, TyX K F28 y (.type n) ∧ n ∈ ["NoneType", "int", "str", "tuple", "list"] := by
            intro i y hi
            match i, hi with
            | 0, hi => cases Option.some.inj hi; exact ⟨"tuple", ty_tup hrow.row.sqT, by simp⟩
            | 1, hi => cases Option.some.inj hi; exact ⟨"str", .base (.str _), by simp⟩
            | 2, hi => cases Option.some.inj hi; exact ⟨"NoneType", .base .non, by simp⟩
            | 3, hi => cases Option.some.inj hi; exact ⟨"int", .base (.int _), by simp⟩
            | 4, hi => cases Option.some.inj hi; exact ⟨"list", .base (.lst l31.1), by simp⟩
          refine ⟨r2, rfl, ⟨_, S32.sqL l32.sqL⟩, fun D3 hD3 => ?_⟩
          refine lc_list (K := K) (a := r2) (xs := [.ref pr, .str l.name, .non, .int 1, .ref r1]) (fun i H' => Sta F28 ((D3, .lst ((List.replicate i false).map V.bl)) :: [(w0, o2)]) H') (S32.newL hD3 (.lst [])) (fun i H' _ S' => S'.sqL l32.sqL) ?_ ?_
          · intro i y H' hy S'
            obtain ⟨n, ht, hn⟩ := hth i y hy
            refine ⟨rfl, ?_⟩
            walk_at "nrm"
            refine ⟨_, rfl, _, rfl, eqO_no T S'.swap (hx.up (Gr.refl _)) ht hn fun H33 S'' => ?_⟩
            have e : (V.bl false :: (List.replicate i false).map V.bl) = (List.replicate i false).map V.bl ++ [V.bl false] := by
              rw [List.map_replicate, ← List.replicate_succ, ← List.replicate_succ']
            rw [e]
            refine ⟨_, S''.swap.hd, ?_, S''.swap.set _⟩
            rw [List.length_map, List.length_replicate]
            have h1 := (List.getElem?_eq_some_iff.mp hy).1
            exact szl (by have h2 : i < 5 := h1; omega)
          · intro H32 S33
            obtain ⟨F29, S34, g29, l34⟩ := S33.frz
            have hrow := hrow.up g29
            refine ⟨D3, List.replicate 5 false, rfl, S34.sqL l34.sqL, false, rfl, ?_⟩
            refine ite2 (fun e => by cases e) (fun _ => ?_)
            clear S30 S31 S32 S33 l31 l32 l34 hth hx
            refine ⟨_, rfl, pr, _, _, _, rfl, rfl, (hrow.at S34).row.sqT, rfl, fun y3 dy hy3 hd3 ne3 => ?_⟩
            obtain ⟨F30, S35, g30, _⟩ := S34.mkI (C := libC K) hy3 hd3 ne3
            refine ⟨F30, _, y3, dy, _, _, _, _, lib0 l.name, rfl, S35, lib0_ok hg, T.kw_Library_needs _, T.kw_Library_defines _, T.kw_Library_uses _, T.kw_Library_weak _, fun F31 H33 g31 hl3 S36 => ⟨rfl, ?_⟩⟩
            refine ⟨F31, _, y3, lib0 l.name, rfl, S36, hl3, fun pk d1' d2' d3' d4' F32 H34 g32 hrow3 S37 => ?_⟩
            have hrow := hrow.up (g30.trans (g31.trans g32))
            refine ⟨_, rfl, pr, _, _, _, rfl, rfl, (hrow.at S37).row.sqT, rfl, ?_⟩
            refine ⟨by show 0 ≤ sizeLine; decide, newT_sta (K := K) S37 fun u1 F33 H35 g33 hu1 S38 => ?_⟩
            refine ⟨by show 0 ≤ sizeLine; decide, newT_sta (K := K) S38 fun u2 F34 H36 g34 hu2 S39 => ?_⟩
            refine ⟨by show 0 ≤ sizeLine; decide, newT_sta (K := K) S39 fun u3 F35 H37 g35 hu3 S40 => ?_⟩
            refine ⟨by show 0 ≤ sizeLine; decide, newT_sta (K := K) S40 fun u4 F36 H38 g36 hu4 S41 => ?_⟩
            refine ⟨by show 7 ≤ sizeLine; decide, newT_sta (K := K) S41 fun u5 F37 H39 g37 hu5 S42 => ?_⟩
            have g38 := g33.trans (g34.trans (g35.trans (g36.trans g37)))
            have hrow4 : RowAt K F37 u5 (lib0 l.name) u1 u2 u3 u4 := ⟨hu5, hu1.up (g34.trans (g35.trans (g36.trans g37))), hu2.up (g35.trans (g36.trans g37)), hu3.up (g36.trans g37), hu4.up g37⟩
            refine ⟨_, _, dp_row ((hrow3.up g38).at S42), dp_row (hrow4.at S42), plain_row _, plain_row _, depth_row _, ?_⟩
            rw [eqv_row, decide_eq_true rfl]
            refine ⟨false, rfl, ?_⟩
            refine ite2 (fun e => by cases e) (fun _ => ?_)
            exact ⟨_, _, _, _, _, _, _, _, _, _, _, _, _, rfl, S42.tl.sub (g5.trans (g6.trans (g7.trans (g8.trans (g9.trans (g10.trans (ga.trans (gb.trans (g18.trans (gc.trans (g24.trans (g25.trans (g26.trans (g27.trans (g28.trans (g29.trans (g30.trans (g31.trans (g32.trans g38)))))))))))))))))))⟩
      obtain rfl | rfl | rfl | rfl | rfl | rfl | rfl : m = 0 ∨ m = 1 ∨ m = 2 ∨ m = 3 ∨ m = 4 ∨ m = 5 ∨ m = 6 := by omega
      · obtain rfl : V.str "other" = x0 := Option.some.inj hx0
        refine ⟨_, rfl, by show 3 ≤ sizeLine; decide, fun p11 hp11 => ?_⟩
        obtain ⟨F18, S20, g18, l11⟩ := S19.mkF hp11 (.lst [.int 1, .int 2, .int 3])
        generalize upd _ p11 _ = H19 at S20 ⊢
        refine ⟨p11, _, rfl, .inl (S20.sqL l11.sqL), rfl, rfl, false, rfl, ?_⟩
        exact ⟨F18, _, _, _, _, _, _, rfl, g18, S20, chv0 (hrow.up g18) hg⟩
      · obtain rfl : V.ref b1 = x0 := Option.some.inj hx0
        refine ⟨_, rfl, by show 3 ≤ sizeLine; decide, fun p11 hp11 => ?_⟩
        obtain ⟨F18, S20, g18, l11⟩ := S19.mkF hp11 (.lst [.int 1, .int 2, .int 3])
        generalize upd _ p11 _ = H19 at S20 ⊢
        refine ⟨p11, _, rfl, .inl (S20.sqL l11.sqL), rfl, rfl, true, rfl, ?_⟩
        have hrow := hrow.up g18
        refine ⟨_, rfl, _, rfl, pr, _, _, _, rfl, rfl, (hrow.at S20).row.sqT, rfl, .ref a1, _, rfl, .inr ⟨_, (hrow.at S20).p1.sqT, rfl⟩, by show 7 ≤ sizeLine; decide, fun p12 hp12 => ?_⟩
        obtain ⟨F19, S21, g19, l12⟩ := S20.mkF hp12 (.lst [.int 0, .int 12, .int 20, .int 20, .int 99, .int 99, .int 99])
        generalize upd _ p12 _ = H20 at S21 ⊢
        have hrow := hrow.up g19
        refine ⟨_, rfl, p12, _, _, _, rfl, rfl, S21.sqL l12.sqL, rfl, _, _, rfl, rfl, _, rfl, ?_⟩
        rw [List.length_map]
        refine ite2 (fun e => ?_) (fun e => ?_)
        · refine ⟨_, rfl, _, rfl, pr, _, _, _, rfl, rfl, (hrow.at S21).row.sqT, rfl, _, rfl, ?_⟩
          dsimp only [tNoPart]
          refine slice_sta S21 hrow.p1 fun pt F20 H21 g20 hpt S22 => ?_
          rw [cut_tail] at hpt
          exact ⟨F20, _, _, _, _, _, _, rfl, g18.trans (g19.trans g20), S22, chv1 (hrow.up g20) hg hpt (wdx_tail hg.n1 hg.n2)⟩
        · exact ⟨F19, _, _, _, _, _, _, rfl, g18.trans g19, S21, chv1 hrow hg (hb1.up (g18.trans g19)) (wdx_more hg.n1 (fun q => e (decide_eq_true q)))⟩
      · obtain rfl : V.ref b2 = x0 := Option.some.inj hx0
        refine ⟨_, rfl, by show 3 ≤ sizeLine; decide, fun p11 hp11 => ?_⟩
        obtain ⟨F18, S20, g18, l11⟩ := S19.mkF hp11 (.lst [.int 1, .int 2, .int 3])
        generalize upd _ p11 _ = H19 at S20 ⊢
        refine ⟨p11, _, rfl, .inl (S20.sqL l11.sqL), rfl, rfl, true, rfl, ?_⟩
        have hrow := hrow.up g18
        refine ⟨_, rfl, _, rfl, pr, _, _, _, rfl, rfl, (hrow.at S20).row.sqT, rfl, .ref a2, _, rfl, .inr ⟨_, (hrow.at S20).p2.sqT, rfl⟩, by show 7 ≤ sizeLine; decide, fun p12 hp12 => ?_⟩
        obtain ⟨F19, S21, g19, l12⟩ := S20.mkF hp12 (.lst [.int 0, .int 12, .int 20, .int 20, .int 99, .int 99, .int 99])
        generalize upd _ p12 _ = H20 at S21 ⊢
        have hrow := hrow.up g19
        refine ⟨_, rfl, p12, _, _, _, rfl, rfl, S21.sqL l12.sqL, rfl, _, _, rfl, rfl, _, rfl, ?_⟩
        rw [List.length_map]
        refine ite2 (fun e => ?_) (fun e => ?_)
        · refine ⟨_, rfl, _, rfl, pr, _, _, _, rfl, rfl, (hrow.at S21).row.sqT, rfl, _, rfl, ?_⟩
          dsimp only [tNoPart]
          refine slice_sta S21 hrow.p2 fun pt F20 H21 g20 hpt S22 => ?_
          rw [cut_tail] at hpt
          exact ⟨F20, _, _, _, _, _, _, rfl, g18.trans (g19.trans g20), S22, chv2 (hrow.up g20) hg hpt (wdx_tail hg.d1 hg.d2)⟩
        · exact ⟨F19, _, _, _, _, _, _, rfl, g18.trans g19, S21, chv2 hrow hg (hb2.up (g18.trans g19)) (wdx_more hg.d1 (fun q => e (decide_eq_true q)))⟩
      · obtain rfl : V.ref b3 = x0 := Option.some.inj hx0
        refine ⟨_, rfl, by show 3 ≤ sizeLine; decide, fun p11 hp11 => ?_⟩
        obtain ⟨F18, S20, g18, l11⟩ := S19.mkF hp11 (.lst [.int 1, .int 2, .int 3])
        generalize upd _ p11 _ = H19 at S20 ⊢
        refine ⟨p11, _, rfl, .inl (S20.sqL l11.sqL), rfl, rfl, true, rfl, ?_⟩
        have hrow := hrow.up g18
        refine ⟨_, rfl, _, rfl, pr, _, _, _, rfl, rfl, (hrow.at S20).row.sqT, rfl, .ref a3, _, rfl, .inr ⟨_, (hrow.at S20).p3.sqT, rfl⟩, by show 7 ≤ sizeLine; decide, fun p12 hp12 => ?_⟩
        obtain ⟨F19, S21, g19, l12⟩ := S20.mkF hp12 (.lst [.int 0, .int 12, .int 20, .int 20, .int 99, .int 99, .int 99])
        generalize upd _ p12 _ = H20 at S21 ⊢
        have hrow := hrow.up g19
        refine ⟨_, rfl, p12, _, _, _, rfl, rfl, S21.sqL l12.sqL, rfl, _, _, rfl, rfl, _, rfl, ?_⟩
        rw [List.length_map]
        refine ite2 (fun e => ?_) (fun e => ?_)
        · refine ⟨_, rfl, _, rfl, pr, _, _, _, rfl, rfl, (hrow.at S21).row.sqT, rfl, _, rfl, ?_⟩
          dsimp only [tNoPart]
          refine slice_sta S21 hrow.p3 fun pt F20 H21 g20 hpt S22 => ?_
          rw [cut_tail] at hpt
          exact ⟨F20, _, _, _, _, _, _, rfl, g18.trans (g19.trans g20), S22, chv3 (hrow.up g20) hg hpt (wdx_tail hg.u1 hg.u2)⟩
        · exact ⟨F19, _, _, _, _, _, _, rfl, g18.trans g19, S21, chv3 hrow hg (hb3.up (g18.trans g19)) (wdx_more hg.u1 (fun q => e (decide_eq_true q)))⟩
      · obtain rfl : V.ref e0 = x0 := Option.some.inj hx0
        refine ⟨_, rfl, by show 3 ≤ sizeLine; decide, fun p11 hp11 => ?_⟩
        obtain ⟨F18, S20, g18, l11⟩ := S19.mkF hp11 (.lst [.int 1, .int 2, .int 3])
        generalize upd _ p11 _ = H19 at S20 ⊢
        refine ⟨p11, _, rfl, .inl (S20.sqL l11.sqL), rfl, rfl, false, rfl, ?_⟩
        exact ⟨F18, _, _, _, _, _, _, rfl, g18, S20, chv4 (hrow.up g18) hg (he.up g18)⟩
      · obtain rfl : V.bl (!l.eager) = x0 := Option.some.inj hx0
        refine ⟨_, rfl, by show 3 ≤ sizeLine; decide, fun p11 hp11 => ?_⟩
        obtain ⟨F18, S20, g18, l11⟩ := S19.mkF hp11 (.lst [.int 1, .int 2, .int 3])
        generalize upd _ p11 _ = H19 at S20 ⊢
        refine ⟨p11, _, rfl, .inl (S20.sqL l11.sqL), rfl, rfl, false, rfl, ?_⟩
        exact ⟨F18, _, _, _, _, _, _, rfl, g18, S20, chv5 (hrow.up g18) hg _⟩
      · obtain rfl : V.bl (!l.own) = x0 := Option.some.inj hx0
        refine ⟨_, rfl, by show 3 ≤ sizeLine; decide, fun p11 hp11 => ?_⟩
        obtain ⟨F18, S20, g18, l11⟩ := S19.mkF hp11 (.lst [.int 1, .int 2, .int 3])
        generalize upd _ p11 _ = H19 at S20 ⊢
        refine ⟨p11, _, rfl, .inl (S20.sqL l11.sqL), rfl, rfl, false, rfl, ?_⟩
        exact ⟨F18, _, _, _, _, _, _, rfl, g18, S20, chv6 (hrow.up g18) hg _⟩
end
end Sb


set_option Elab.async false
set_option linter.all false
set_option maxRecDepth 100000
set_option maxHeartbeats 0
namespace Sb
open PySem L2 PySem.Spec PyProof.Rows
abbrev R : PySem.W.OpenRow := PySem.W.OpenLaw.row PySem.Challenge.rw_scopebind_k01_libraries_and_values
abbrev hk : PySem.W.Hook := hookB 5 fa fn exB
def ob (s : PySem.W.SharedT) : He.AlD × Bool := (He.obsDG 5 fa fn (HandSHeadRun.getT s), exB (He.frG (HandSHeadRun.getT s) (He.asD (HandSHeadRun.getT s) 5)))
theorem ob_eq (s : PySem.W.SharedT) : ob s = hk.obs s.abs := by
  have e : HandSHeadRun.getT s = s.abs.heap.get? := funext fun a => HandSHeadRun.getT_eq s a
  unfold ob
  rw [e]
  rfl
def names : List PySem.Str := ["LoadError", "NoLibrary", "LONGEST", "is_word", "are_words", "MOST_NEEDS", "MOST_SYMBOLS", "Library", "_law_cell_at", "_law_well", "_law_draw", "_law_one", "_law_words", "_law_values", "_law_made", "_law_read"]
theorem run (w : World) : HandSHeadRun.RunEq R (PySem.W.view R.prog [20]) hk ob 20000 names w := by
  intro os
  kernel_rfl
end Sb
open PySem PySem.W PySem.Calls PyProof.Rows
theorem PySem.Challenge.cw_scopebind_k01_libraries_and_values_holds : PySem.Challenge.rw_scopebind_k01_libraries_and_values.Holds := by
  w_on; o_law
  refine HandSHeadRun.head_any (r := OpenLaw.row PySem.Challenge.rw_scopebind_k01_libraries_and_values) (q := view (OpenLaw.row PySem.Challenge.rw_scopebind_k01_libraries_and_values).prog [20]) (H := Sb.hk) (ob := Sb.ob) (M := 20000) (loose := Sb.names) (d := HandSHeadRun.topDef (OpenLaw.row PySem.Challenge.rw_scopebind_k01_libraries_and_values).prog 20) (kwd := []) Sb.ob_eq
    (by kernel_rfl) (fun s => by kernel_rfl) Sb.run (by kernel_rfl) (by kernel_rfl) (by kernel_rfl) (by rfl) (by first | assumption | decide +kernel) (by decide +kernel) ⟨rfl, rfl, rfl, rfl, rfl, by decide +kernel⟩ ?hw ?hc
  case hw => w_witness2
  case hc =>
    refine L2.walk_ofE (l := PySem.Challenge.rw_scopebind_k01_libraries_and_values) (n := 63) (k := 6) (x := "_law_script") (CX := L2.CX0) rfl (by decide) (by kernel_rfl) ⟨rfl, by decide, by decide⟩ ?F (fun _ _ _ _ z => z)
    intro w mg fa h Y G hmg0
    obtain ⟨K, KX, c, ex⟩ := Y
    have hmg : mg ("law" : PySem.Str) = some (.ref fa) := by
      have e : (HandSHeadRun.topDef (OpenLaw.row PySem.Challenge.rw_scopebind_k01_libraries_and_values).prog 20).name = ("law" : PySem.Str) := by kernel_rfl
      rw [← e]
      exact hmg0
    obtain ⟨T⟩ := Sb.top_ex KX G c ex
    have e := hmg.symm.trans T.g_law
    cases e
    have b := L2.FunD.bindsA (ps := ["_law_script"]) T.F_law fun _ _ _ _ _ _ us hl => match us, hl with | [_], _ => rfl
    exact ⟨K, T.fd_law, Sb.spLaw K, KX, fun s v => b s [v] rfl, fun H a ns hl hO hS => Sb.law_in hS hl, fun base _ _ => Sb.ok_law T⟩

