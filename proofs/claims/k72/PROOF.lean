import PyProof.Rows.All
import Wide.All
import OpenK.AllK
import Wide.FinOn
import HandS.ForMost
import HandS.ForExc
import HandS.Defaults
import HandS.IsInst
import HandS.ExcInit
import HandS.ExcField
import HandS.DictComp
import HandS.Walk
import HandS.Style
import HandS.MakeKwOnly
import HandS.TryMany
import KE.KExcIs
import HandS.HeadHook2
import KE.DataFind
import KE.KRevSl
import HandS.OwnEq
import HandS.TupAny
import HandS.Exc
import HandS.ExcOwn
import HandS.CallSlots
import PyProof.StrBlock2
import PyProof.Rows.StrMul
import PyProof.InstEq
import HandS.Codes
import PyProof.Rows.StrMeet
import HandS.Zip
import HandS.SetKeys
import HandS.SetFor
import PyProof.Rows.SetFrom
import PyProof.Rows.SortStr
import HandS.Set
import HandS.SetTxt0
import HandS.List
import HandS.Strs
import HandS.WordsDict
import HandS.Deep
import KE.DataMinMax
import KE.SortData
import HandS.More
import KE.KStateDown
import Lean
import HandS.Head0
import HandS.Head1
import HandS.Head2
import HandS.HeadEnd
import HandS.HeadHook1
import PySem.Challenge.RW_scopebind_k72_least_orders_of_preloads
set_option Elab.async false
set_option linter.all false
set_option maxRecDepth 100000
set_option maxHeartbeats 4000000
namespace Sb
open PySem L2
open PySem L2



/-- F grows -/
def Gr (F F' : Hp) : Prop := ∀ a o, F a = some o → F' a = some o
theorem Gr.refl (F : Hp) : Gr F F := fun _ _ h => h
theorem Gr.trans {A B C : Hp} (h : Gr A B) (g : Gr B C) : Gr A C := fun a o e => g a o (h a o e)
theorem Gr.new {F : Hp} {p : Addr} {o : HO} (h : F p = none) : Gr F (upd F p o) := fun a u e => by
  rw [upd_ne (ne_of_none e h)]
  exact e

structure Has (F : Hp) (p : Addr) (o : HO) : Prop where
  h : F p = some o
theorem Has.up {F F' : Hp} {p : Addr} {o : HO} (h : Has F p o) (g : Gr F F') : Has F' p o := ⟨g _ _ h.1⟩
structure Sta (F : Hp) (L : List (Addr × HO)) (H : Hp) : Prop where
  fr : Gr F H
  own : ∀ a o, (a, o) ∈ L → H a = some o ∧ F a = none
  nd : (L.map (·.1)).Nodup

section
variable {F : Hp} {L : List (Addr × HO)} {H : Hp} {a p : Addr} {o u : HO}
theorem Sta.f (s : Sta F L H) (h : F a = some o) : H a = some o := s.fr a o h
theorem Sta.l (s : Sta F L H) (h : (a, o) ∈ L) : H a = some o := (s.own a o h).1
theorem Sta.hd (s : Sta F ((a, o) :: L) H) : H a = some o := s.l (List.mem_cons_self ..)
theorem Sta.noF (s : Sta F L H) (h : H p = none) : F p = none := by
  cases e : F p with
  | none => rfl
  | some x => rw [s.fr p x e] at h; cases h
theorem Sta.noL (s : Sta F L H) (h : H p = none) : p ∉ L.map (·.1) := fun m => by
  obtain ⟨⟨b, x⟩, hm, e⟩ := List.mem_map.mp m
  have e' : b = p := e
  subst e'
  rw [s.l hm] at h
  cases h
/-- a new object, owned -/
theorem Sta.newL (s : Sta F L H) (h : H p = none) (o : HO) : Sta F ((p, o) :: L) (upd H p o) := by
  refine ⟨fun b x e => ?_, fun b x m => ?_, ?_⟩
  · rw [upd_ne (ne_of_none (s.fr b x e) h)]
    exact s.fr b x e
  · cases m with
    | head => exact ⟨upd_same, s.noF h⟩
    | tail _ m =>
      obtain ⟨e1, e2⟩ := s.own b x m
      exact ⟨by rw [upd_ne (ne_of_none e1 h)]; exact e1, e2⟩
  · show (p :: L.map (·.1)).Nodup
    exact List.nodup_cons.mpr ⟨s.noL h, s.nd⟩
/-- a new object that never changes -/
theorem Sta.newF (s : Sta F L H) (h : H p = none) (o : HO) : Sta (upd F p o) L (upd H p o) := by
  refine ⟨fun b x e => ?_, fun b x m => ?_, s.nd⟩
  · by_cases q : b = p
    · subst q
      rw [upd_same] at e ⊢
      exact e
    · rw [upd_ne q] at e ⊢
      exact s.fr b x e
  · obtain ⟨e1, e2⟩ := s.own b x m
    have q : b ≠ p := ne_of_none e1 h
    exact ⟨by rw [upd_ne q]; exact e1, by rw [upd_ne q]; exact e2⟩
/-- a new object, forgotten -/
theorem Sta.newX (s : Sta F L H) (h : H p = none) (o : HO) : Sta F L (upd H p o) := by
  refine ⟨fun b x e => ?_, fun b x m => ?_, s.nd⟩
  · rw [upd_ne (ne_of_none (s.fr b x e) h)]
    exact s.fr b x e
  · obtain ⟨e1, e2⟩ := s.own b x m
    exact ⟨by rw [upd_ne (ne_of_none e1 h)]; exact e1, e2⟩
/-- a new object that never changes, its state by a name -/
theorem Sta.mkF (s : Sta F L H) (h : H p = none) (o : HO) : ∃ F', Sta F' L (upd H p o) ∧ Gr F F' ∧ Has F' p o := ⟨_, s.newF h o, Gr.new (s.noF h), ⟨upd_same⟩⟩
theorem Sta.noHd (s : Sta F ((a, o) :: L) H) : a ∉ L.map (·.1) := (List.nodup_cons.mp (show (a :: L.map (·.1)).Nodup from s.nd)).1
theorem Sta.ndTl (s : Sta F ((a, o) :: L) H) : (L.map (·.1)).Nodup := (List.nodup_cons.mp (show (a :: L.map (·.1)).Nodup from s.nd)).2
/-- the first owned object changes -/
theorem Sta.set (s : Sta F ((a, o) :: L) H) (u : HO) : Sta F ((a, u) :: L) (upd H a u) := by
  have na := (s.own a o (List.mem_cons_self ..)).2
  refine ⟨fun b x e => ?_, fun b x m => ?_, s.nd⟩
  · rw [upd_ne (ne_of_none e na)]
    exact s.fr b x e
  · cases m with
    | head => exact ⟨upd_same, na⟩
    | tail _ m =>
      obtain ⟨e1, e2⟩ := s.own b x (List.mem_cons_of_mem _ m)
      have q : b ≠ a := fun z => s.noHd (List.mem_map.mpr ⟨(b, x), m, z⟩)
      exact ⟨by rw [upd_ne q]; exact e1, e2⟩
/-- the first owned object is let go: it never changes again | it is forgotten -/
theorem Sta.freeze (s : Sta F ((a, o) :: L) H) : Sta (upd F a o) L H := by
  refine ⟨fun b x e => ?_, fun b x m => ?_, s.ndTl⟩
  · by_cases q : b = a
    · subst q
      rw [upd_same] at e
      cases e
      exact s.hd
    · rw [upd_ne q] at e
      exact s.fr b x e
  · obtain ⟨e1, e2⟩ := s.own b x (List.mem_cons_of_mem _ m)
    have q : b ≠ a := fun z => s.noHd (List.mem_map.mpr ⟨(b, x), m, z⟩)
    exact ⟨e1, by rw [upd_ne q]; exact e2⟩
theorem Sta.hdF (s : Sta F ((a, o) :: L) H) : F a = none := (s.own a o (List.mem_cons_self ..)).2
theorem Sta.tl (s : Sta F ((a, o) :: L) H) : Sta F L H := ⟨s.fr, fun b x m => s.own b x (List.mem_cons_of_mem _ m), s.ndTl⟩
theorem Sta.perm {L' : List (Addr × HO)} (s : Sta F L H) (e : L'.Perm L) : Sta F L' H :=
  ⟨s.fr, fun b x m => s.own b x (e.mem_iff.mp m), (e.map _).nodup_iff.mpr s.nd⟩
theorem Sta.swap {x y : Addr × HO} (s : Sta F (x :: y :: L) H) : Sta F (y :: x :: L) H := s.perm (List.Perm.swap ..)
theorem Sta.sub {F' : Hp} (s : Sta F L H) (g : Gr F' F) : Sta F' L H := by
  refine ⟨g.trans s.fr, fun b x m => ?_, s.nd⟩
  obtain ⟨e1, e2⟩ := s.own b x m
  refine ⟨e1, ?_⟩
  cases q : F' b with
  | none => rfl
  | some z => rw [g b z q] at e2; cases e2
/-- an owned object changes, wherever it stands -/
theorem Sta.put {A B : List (Addr × HO)} (s : Sta F (A ++ (a, o) :: B) H) (u : HO) : Sta F (A ++ (a, u) :: B) (upd H a u) := by
  have e : ∀ x : Addr × HO, List.Perm (x :: (A ++ B)) (A ++ x :: B) := fun x => List.perm_middle.symm
  exact ((s.perm (e _)).set u).perm (e _).symm
theorem Sta.ne (s : Sta F ((a, o) :: L) H) (h : F p = some u) : p ≠ a := ne_of_none h s.hdF
end
/-- a list | a tuple, to be read -/
theorem sq {K : PySem.W.Frag} {H : Hp} {p : Addr} {xs : List V} (h : H p = some (.lst xs)) : SqL K H p xs := .inl (.inl h)
theorem st {K : PySem.W.Frag} {H : Hp} {p : Addr} {xs : List V} (h : H p = some (.tup xs)) : SqT K H p xs := .inl (.inl h)
theorem sz {n : Nat} (h : n ≤ 100000) : n ≤ sizeLine := Nat.le_trans h (by decide)
theorem szl {n : Nat} (h : n < 100000) : n < sizeLine := Nat.lt_of_lt_of_le h (by decide)

end Sb
namespace Sb
open PySem L2

open PySem L2 PySem.Spec PyProof.Rows

/-- what the top says of an own error class at C -/
def excB (K : PySem.W.Frag) (C : Addr) : Bool :=
  (match K.lookup C with
    | some ⟨.type t, _, .cls cd, sl⟩ => decide (t = "type") && (match cd.mro, sl.toList with
      | .ref C' :: bm, [k0, k1, k2, k3, some (.builtin n), k5] => decide (C' = C) && decide (n = "ValueError.__new__") && cd.hasDict && !cd.hasDel && PySem.HandSPX.refsVE bm
      | _, _ => false)
    | _ => false) &&
  (decide (PySem.W.findIn K (.ref C) "__setattr__" = some (some (.builtin "object.__setattr__"))) &&
  (decide (PySem.W.subIn K (.ref C) (.type "BaseException") = some true) &&
  (decide (PySem.W.typeIn K (.ref C) = some (.type "type")) &&
  (PySem.W.keepIn K (.ref C) &&
  (xfB K C &&
  (decide (PySem.W.findIn K (.ref C) "__class__" = some (some (.builtin "object.__class__"))) &&
  (decide (PySem.W.specialIn K (.builtin "object.__class__") "__get__" = some (some (.builtin "getset_descriptor.__get__"))) &&
  (decide (PySem.W.takesIn K (.builtin "object.__class__") = some true) &&
   decide (PySem.W.mroIn K C (.type "object") = some true)))))))))
structure ExcK (K : PySem.W.Frag) (C : Addr) : Prop where
  ox : OexC K C
  xf : XfC K C
  ha : PySem.W.findIn K (.ref C) "__class__" = some (some (.builtin "object.__class__"))
  hn : PySem.W.specialIn K (.builtin "object.__class__") "__get__" = some (some (.builtin "getset_descriptor.__get__"))
  ht : PySem.W.takesIn K (.builtin "object.__class__") = some true
  hm : PySem.W.mroIn K C (.type "object") = some true
theorem and2 {a b : Bool} (h : (a && b) = true) : a = true ∧ b = true := Bool.and_eq_true_iff.mp h
theorem excB_ok {K : PySem.W.Frag} {C : Addr} (h : excB K C = true) : ExcK K C := by
  obtain ⟨h0, h⟩ := and2 h
  obtain ⟨h1, h⟩ := and2 h
  obtain ⟨h2, h⟩ := and2 h
  obtain ⟨h3, h⟩ := and2 h
  obtain ⟨h4, h⟩ := and2 h
  obtain ⟨h5, h⟩ := and2 h
  obtain ⟨h6, h⟩ := and2 h
  obtain ⟨h7, h⟩ := and2 h
  obtain ⟨h8, h9⟩ := and2 h
  refine ⟨⟨?_, of_decide_eq_true h1, of_decide_eq_true h2, of_decide_eq_true h3, h4⟩, xfB_ok h5, of_decide_eq_true h6, of_decide_eq_true h7, of_decide_eq_true h8, of_decide_eq_true h9⟩
  split at h0
  · rename_i t dd cd sl hl
    obtain ⟨ht, h0⟩ := and2 h0
    split at h0
    · rename_i C' bm k0 k1 k2 k3 n k5 hm hs
      obtain ⟨h0, hv⟩ := and2 h0
      obtain ⟨h0, hd⟩ := and2 h0
      obtain ⟨h0, hx⟩ := and2 h0
      obtain ⟨hc, hn⟩ := and2 h0
      have e1 := of_decide_eq_true ht
      have e2 := of_decide_eq_true hc
      have e3 := of_decide_eq_true hn
      subst e1 e2 e3
      obtain ⟨nm, bs, mro, ns, q, hdct, sn, sub, ab, col, del⟩ := cd
      dsimp only at hm hx hd
      subst hm hx
      have e4 : del = false := by cases del with
        | true => cases hd
        | false => rfl
      subst e4
      have e5 : sl = #[k0, k1, k2, k3, some (.builtin "ValueError.__new__"), k5] := Array.toList_inj.mp hs
      subst e5
      exact ⟨_, _, _, _, _, _, _, _, _, _, _, _, _, _, _, hl, hv⟩
    · cases h0
  · cases h0

/-- the error of the class at C with the field f = v, as a value: at a, its dict at d -/
def Err (H : Hp) (a C d : Addr) (f : Str) (v : V) : Prop := H a = some (exo a C (some d)) ∧ H d = some (exd d [(f, v)])

section
variable {X : Cx} {o e : Expr} {es : List Expr} {to te : TE} {ta : TA} {f : Str} {p p' p1 p2 pos : Pos}
/-- C(e, ..) as a value, C's own __init__ keeping sp -/
def tMkV (C : Addr) (sp : Sp) (dvs : List V) (E : XK) (ta : TA) : TE := fun σ H Q => ta σ H fun vs H1 => vs.length ≤ 1000 ∧ ∀ a, H1 a = none → sp (.ref a :: (vs ++ dvs)) (upd H1 a (exo a C none)) (fun v H2 => v = .non ∧ Q (.ref a) H2) E
theorem pe_mkV {CX : CXT} {x : Str} {C fI : Addr} {k : Nat} {fd : FuncData} {ps : List Str} {sp : Sp} {ds : List Value} {dvs : List V} {E : XK} (T : OexC X.K C) (iC : PySem.W.findIn X.K (.ref C) "__init__" = some (some (.ref fI))) (tI : PySem.W.typeIn X.K (.ref fI) = some (.type "function"))
    (F1 : FnOk X.prog X.w X.K X.mg X.base CX k fI fd ps sp) (hr : Room (k + 1) X.A) (hb : Binds X.K fd ps ds) (hd : Vals dvs ds) (hx : Passes CX X E) (hg : Gl X x) (hm : X.mg x = some (.ref C)) (ha : PA X (e :: es) ta)
    (hdb : (x == ("__debug__" : Str)) = false := by decide) (he : starEach (e :: es) X.env = (false, eval e X.env) :: starEach es X.env := by rfl) (hpl : (backTo pos (starEach es X.env)).any (·.1) = false := by rfl) :
    PE X (.Call (.Name x p) (e :: es) [] pos) (tMkV C sp dvs E ta) := by
  refine ⟨fun pins s σ H Q I h => ?_⟩
  obtain ⟨nm, q, N, bs, bm, sn, sub, ab, col, dd, k0, k1, k2, k3, k5, hC, hbm⟩ := T.cls
  refine wpAny_Call_Name_kw (ld_glob I hg hm ?_ hdb)
  refine PySem.W.callWith_K (h₀ := X.base) I.ok.mod.kin T.kC (thn (ha.run pos pins s σ H _ I h) fun us s1 ⟨vs, H1, I1, r1, hz, q1⟩ => ⟨I1.kIn, ?_⟩) he hpl
  show wpAny _ _ (call (.ref C) us) _ _ _
  obtain ⟨hp, g, dr, tk, os⟩ := s1
  have hsz : hp.objs.size ≤ hp.objs.size + 1 := Nat.le_succ _
  have hn : H1 (hp.objs.size + 1) = none := I1.hok.fresh hsz
  have hq := q1 (hp.objs.size + 1) hn
  have kk : ∀ b o, hp.get? b = some o → ((hp.push (PySem.W.kdv_tup us)).push (PySem.HandSPX.excO C hp.objs.size)).get? b = some o := fun b o e => Heap.get?_push_of_some _ (Heap.get?_push_of_some _ e)
  have hget : ((hp.push (PySem.W.kdv_tup us)).push (PySem.HandSPX.excO C hp.objs.size)).get? (hp.objs.size + 1) = some (PySem.HandSPX.excO C hp.objs.size) := by heap_get
  have I2 : Inv X pins σ (upd H1 (hp.objs.size + 1) (exo (hp.objs.size + 1) C none)) ⟨(hp.push (PySem.W.kdv_tup us)).push (PySem.HandSPX.excO C hp.objs.size), g, dr, tk, os⟩ :=
    I1.laid (t' := tk) (a := hp.objs.size + 1) (o := exo (hp.objs.size + 1) C none) (h' := (hp.push (PySem.W.kdv_tup us)).push (PySem.HandSPX.excO C hp.objs.size)) kk hsz (exo_ok hget)
  have r2 : Vals (V.ref (hp.objs.size + 1) :: (vs ++ dvs)) (Value.ref (hp.objs.size + 1) :: (us ++ ds)) := .cons rfl (r1.append hd)
  have hl : (Value.ref (hp.objs.size + 1) :: us ++ ds).length = ps.length := by
    have e := r2.length
    rw [F1.len _ _ _ _ hq] at e
    exact e.symm
  have hus : us.length ≤ sizeLine := by
    rw [← Paired.length r1, sizeLine_eq]
    omega
  refine wpAny_call (PySem.HandSPX.call_own F.excBase_ValueError (fun Y => PySem.HandSPX.refsVE_contains Y bm hbm) (I1.kIn _ _ hC) (PySem.W.looks_findIn I1.kIn iC) (fun self => PySem.W.bind_fn I1.kIn self tI) hus
    (codeAny_mono (F1.run _ X.stack _ _ ⟨Value.ref (hp.objs.size + 1) :: us, []⟩ (Value.ref (hp.objs.size + 1) :: (us ++ ds)) _ _ E (hr.make C us []) (I2.env0.make C us []) (hb _ (Value.ref (hp.objs.size + 1) :: us) I2.kIn hl) r2 hq) fun r s' hq' => ?_))
  cases r with
  | error er => exact hx pins σ _ _ er s' I2 hq'
  | ok fl =>
    cases fl with
    | ret u =>
      obtain ⟨v, H2, J, rv, ev, q2⟩ := (I2.after hq' : EP X pins σ _ u s')
      subst ev
      obtain rfl : u = Value.none := rv
      exact ⟨rfl, .ref (hp.objs.size + 1), H2, J, rfl, q2⟩
    | next => exact False.elim hq'
    | brk => exact False.elim hq'
    | cont => exact False.elim hq'
/-- e.f, e an error that is a value -/
def tErF (K : PySem.W.Frag) (f : Str) (te : TE) : TE := fun σ H Q => te σ H fun x H1 => ∃ (a C d : Addr) (v : V), x = .ref a ∧ Err H1 a C d f v ∧ XfC K C ∧ PySem.W.findIn K (.ref C) f = some none ∧ Q v H1
theorem pe_erF (he : PE X e te) (hb : attributeBase e f X.env (eval e X.env) = eval e X.env := by rfl) : PE X (.Attribute e f pos) (tErF X.K f te) := by
  refine ⟨fun pins s σ H Q I h => ?_⟩
  refine attr_of hb (thn (he.run pins s σ H _ I h) fun u s1 hh => ?_)
  obtain ⟨x, H1, I1, rx, a, C, d, v, ex, ⟨ea, ed⟩, T, hno, q⟩ := hh
  subst ex
  obtain rfl : u = Value.ref a := rx
  obtain ⟨t1, ha⟩ := exo_at I1.hok ea
  obtain ⟨mA, hns, hr⟩ := exd_at I1.hok ed
  obtain ⟨od, ho, hl⟩ := lookIn_ns hns
  have l : List.lookup f [(f, v)] = some v := by simp [List.lookup]
  obtain ⟨u, hu, ru⟩ := RelO.some_of (v := v) (o := mA f) (by rw [← l]; exact hr f)
  have J : PySem.W.InstAt s1.heap a _ C (some od) := ⟨ha, rfl, rfl, ho⟩
  exact HandSPX.exc_get I1.kIn J T.ga T.gg T.exC (PySem.W.findObj_own T.hdC hno rfl (by rw [hl, hu])) (handed_of ru) ⟨v, H1, I1.tok _, ru, q⟩
/-- isinstance(e, c), e an error that is a value -/
def rIsV (K : PySem.W.Frag) : List V → Hp → VK → Prop := fun xs H Q => ∃ (a C d : Addr) (f : Str) (y c : V) (u : Value) (b : Bool), xs = [.ref a, c] ∧ ClsV c u ∧ Err H a C d f y ∧ ExcK K C ∧ PySem.W.kitOne K (.ref C) u = some b ∧ Q (.bl b) H
theorem call_isV : CallR X (.builtin "isinstance") (rIsV X.K) := by
  intro pins s σ H xs us Q I r h
  obtain ⟨a, C, d, f, y, c, u, b, rfl, k, ⟨ea, ed⟩, T, e, q⟩ := h
  obtain ⟨u1, u2, rfl, r1, r2⟩ := vals2 r
  have e2 := k.eq r2
  subst e2
  obtain rfl : u1 = Value.ref a := r1
  obtain ⟨t1, ha⟩ := exo_at I.hok ea
  obtain ⟨mA, hns, hr⟩ := exd_at I.hok ed
  obtain ⟨od, ho, hl⟩ := lookIn_ns hns
  have J : PySem.W.InstAt s.heap a _ C (some od) := ⟨ha, rfl, rfl, ho⟩
  have hc : (PySem.W.clsIn X.K C).isSome = true := by
    have h0 := T.xf.hdC
    unfold PySem.W.hasDictIn at h0
    cases q : PySem.W.clsIn X.K C with
    | none => rw [q] at h0; cases h0
    | some _ => rfl
  exact PySem.W.kia_one (PySem.W.kitx_exc (ox := { cls := .ref C, dict := some d, data := .fields #[.ref t1, .none, .none, .none, .bool false, .none] }) (od := some od) hc T.xf.ga T.xf.gg T.xf.exC T.ha T.hn T.ht T.hm) I.kIn J e (fun z => nomatch z) fun tk => ⟨.bl b, H, I.tok tk, rfl, q⟩
end

/-! the head's further facts -/
def hookB (n : Nat) (fa : List He.Fa) (fn : List He.DefD) (ex : PySem.W.Frag → Bool) : PySem.W.Hook where
  α := He.AlD × Bool
  obs := fun s => (He.obsDG n fa fn s.heap.get?, ex (He.frG s.heap.get? (He.asD s.heap.get? n)))
  val := fun _ => (He.valD fn, true)
  says := fun _ h => ∃ K : PySem.W.Frag, K.In h ∧ He.SaysD fa fn K ∧ ex K = true
  of := fun _ _ e => ⟨_, He.frG_in, congrArg Prod.fst e, congrArg Prod.snd e⟩
  keeps := fun _ _ _ ⟨K, hK, c⟩ k => ⟨K, PySem.W.Frag.In.keeps hK k, c⟩
/-- what isinstance asks of an own class -/
structure OwnK (K : PySem.W.Frag) (C : Addr) : Prop where
  ha : PySem.W.findIn K (.ref C) "__class__" = some (some (.builtin "object.__class__"))
  hn : PySem.W.specialIn K (.builtin "object.__class__") "__get__" = some (some (.builtin "getset_descriptor.__get__"))
  ht : PySem.W.takesIn K (.builtin "object.__class__") = some true
  hm : PySem.W.mroIn K C (.type "object") = some true
  kt : ∀ t ∈ ["NoneType", "int", "str", "bool", "list", "tuple", "dict"], PySem.W.kitOne K (.type t) (.ref C) = some false
  kc : ∀ t ∈ ["NoneType", "int", "str", "bool", "list", "tuple", "dict"], PySem.W.kitOne K (.ref C) (.type t) = some false
def ownB (K : PySem.W.Frag) (C : Addr) : Bool :=
  decide (PySem.W.findIn K (.ref C) "__class__" = some (some (.builtin "object.__class__"))) &&
  (decide (PySem.W.specialIn K (.builtin "object.__class__") "__get__" = some (some (.builtin "getset_descriptor.__get__"))) &&
  (decide (PySem.W.takesIn K (.builtin "object.__class__") = some true) &&
  (decide (PySem.W.mroIn K C (.type "object") = some true) &&
  ((["NoneType", "int", "str", "bool", "list", "tuple", "dict"].all fun t => decide (PySem.W.kitOne K (.type t) (.ref C) = some false)) &&
   (["NoneType", "int", "str", "bool", "list", "tuple", "dict"].all fun t => decide (PySem.W.kitOne K (.ref C) (.type t) = some false))))))
theorem ownB_ok {K : PySem.W.Frag} {C : Addr} (h : ownB K C = true) : OwnK K C := by
  obtain ⟨h1, h⟩ := and2 h
  obtain ⟨h2, h⟩ := and2 h
  obtain ⟨h3, h⟩ := and2 h
  obtain ⟨h4, h⟩ := and2 h
  obtain ⟨h5, h6⟩ := and2 h
  exact ⟨of_decide_eq_true h1, of_decide_eq_true h2, of_decide_eq_true h3, of_decide_eq_true h4, fun t ht => of_decide_eq_true (List.all_eq_true.mp h5 t ht), fun t ht => of_decide_eq_true (List.all_eq_true.mp h6 t ht)⟩
/-- the object that a keyword-only default of a def is -/
def kwAt (f : Str × Option Str) (x : Str) (K : PySem.W.Frag) : Addr := match K.lookup (He.fAd K f) with
  | some ⟨_, _, .func fd, _⟩ => (match fd.kwdefaults with
    | .ref D => (match PySem.W.nsIn K D x with
      | some (some (.ref a)) => a
      | _ => 0)
    | _ => 0)
  | _ => 0
/-- an empty tuple of the top's -/
def emptyB (K : PySem.W.Frag) (a : Addr) : Bool := match K.lookup a with
  | some ⟨.type c, none, .seq its _, _⟩ => decide (c = "tuple") && its.isEmpty
  | _ => false
theorem emptyB_ok {K : PySem.W.Frag} {a : Addr} (h : emptyB K a = true) (H : Hp) : SqT K H a [] := by
  unfold emptyB at h
  split at h
  · rename_i c its n sl hl
    obtain ⟨h1, h2⟩ := and2 h
    have e1 := of_decide_eq_true h1
    have e2 := Array.isEmpty_iff.mp h2
    subst e1 e2
    exact .inr ⟨_, #[], n, hl, rfl, rfl, Nat.zero_le _, .nil⟩
  · cases h
/-! sundries -/
/-- either of two rules for an operator -/
theorem op_or {X : Cx} {f : Value → Value → Sem Value} {r1 r2 : R2} (h1 : OpR X f r1) (h2 : OpR X f r2) : OpR X f (fun x y H Q => r1 x y H Q ∨ r2 x y H Q) := by
  intro pins s σ H x y v u Q I rx ry h
  rcases h with h | h
  · exact h1 pins s σ H x y v u Q I rx ry h
  · exact h2 pins s σ H x y v u Q I rx ry h
theorem atI_in {xs : List V} {d : Int} (h0 : 0 ≤ d) (h1 : d < xs.length) : ∃ x, x ∈ xs ∧ atI xs d = some x := by
  have hlt : d.toNat < xs.length := by omega
  have e : ((d.toNat : Nat) : Int) = d := by omega
  refine ⟨xs[d.toNat], List.getElem_mem _, ?_⟩
  have q : atI xs ((d.toNat : Nat) : Int) = some xs[d.toNat] := atI_nat (by simp [hlt])
  rw [e] at q
  exact q
theorem sta0 (H : Hp) : Sta (fun _ => none) [] H := ⟨(fun _ _ h => by cases h), (fun _ _ h => by cases h), List.nodup_nil⟩
theorem cut_le (xs : List V) (lo hi : Option Int) : (cutV xs lo hi).length ≤ xs.length := by
  unfold cutV
  rw [List.length_take, List.length_drop]
  omega
theorem cut_mem {xs : List V} {lo hi : Option Int} {x : V} (h : x ∈ cutV xs lo hi) : x ∈ xs := List.mem_of_mem_drop (List.mem_of_mem_take h)
theorem lay_list : ∀ {ds : List PyData}, (∀ d ∈ ds, PyData.canLay0 d = true ∧ PyData.depth d = 0) → PyData.canLayAll0 ds = true ∧ PyData.depthAll ds = 0
  | [], _ => ⟨by simp [PyData.canLayAll0], by simp [PyData.depthAll]⟩
  | d :: ds, h => by
    obtain ⟨h1, h2⟩ := h d (List.mem_cons_self ..)
    obtain ⟨h3, h4⟩ := lay_list fun z hz => h z (List.mem_cons_of_mem _ hz)
    exact ⟨by simp [PyData.canLayAll0, h1, h3], by simp [PyData.depthAll, h2, h4]⟩
theorem shaped_list {ds : List PyData} (h : ∀ d ∈ ds, PyData.canLay0 d = true ∧ PyData.depth d = 0) : SeqAt.shaped (.list ds) = true := by
  obtain ⟨h1, h2⟩ := lay_list h
  unfold SeqAt.shaped
  simp [PyData.canLay0, PyData.depth, h1, h2]
/-- x != x is False, whatever is drawn -/
def SameV (K : PySem.W.Frag) (H : Hp) (x : V) : Prop := ∃ d, Dp K H x d ∧ SeqAt.shaped d = true
def OwnD (H : Hp) (x : V) : Prop := ∃ a, x = .ref a ∧ H a = some (.dK [])
theorem same_ne {K : PySem.W.Frag} {H : Hp} {x : V} {Q : VK} (h : SameV K H x) (k : Q (.bl false) H) : rNeD K x x H Q := by
  obtain ⟨d, h1, h2⟩ := h
  refine ⟨d, d, h1, h1, h2, h2, ?_⟩
  have e : PyData.eqv d d = true := SeqAt.eqv_refl d (SeqAt.canLay_of_shaped h2)
  rw [e]
  exact k
theorem dict_ne {H : Hp} {x : V} {Q : VK} (h : OwnD H x) (k : Q (.bl false) H) : rNeDA x x H Q := by
  obtain ⟨a, rfl, h⟩ := h
  exact ⟨a, a, [], [], rfl, rfl, h, h, rfl, (fun p hp => by cases hp), k⟩
/-- bools, one by one -/
theorem dp_bools {K : PySem.W.Frag} {H : Hp} : ∀ (bs : List Bool), DpAll K H (bs.map V.bl) (bs.map PyData.bool)
  | [] => .nil
  | b :: bs => .cons (.bl b) (dp_bools bs)
theorem lay_bools (bs : List Bool) : ∀ d ∈ bs.map PyData.bool, PyData.canLay0 d = true ∧ PyData.depth d = 0 := by
  intro d hd
  obtain ⟨y, hy, rfl⟩ := List.mem_map.mp hd
  exact ⟨rfl, rfl⟩


/-- a well: three whole numbers; drawn from at most n times -/
def Well (n : Nat) (o : HO) : Prop := ∃ a b c : Int, o = .lst [.int a, .int b, .int c] ∧ 0 ≤ b ∧ b < 2147483647 ∧ 0 ≤ c ∧ c ≤ n
theorem fmodP {x m : Int} (h : 0 < m) : 0 ≤ x.fmod m ∧ x.fmod m < m := ⟨Int.fmod_nonneg_of_pos x h, Int.fmod_lt_of_pos x h⟩
theorem Well.mono {n m : Nat} {o : HO} (h : Well n o) (e : n ≤ m) : Well m o := by
  obtain ⟨a, b, c, h0, h1, h2, h3, h4⟩ := h
  exact ⟨a, b, c, h0, h1, h2, h3, by omega⟩
/-- to be read, whatever the heap grows to -/
theorem Gr.sqL {K : PySem.W.Frag} {F F' : Hp} {a : Addr} {xs : List V} (g : Gr F F') (h : SqL K F a xs) : SqL K F' a xs := by
  rcases h with (h | ⟨o, h⟩) | h
  · exact .inl (.inl (g _ _ h))
  · exact .inl (.inr ⟨o, g _ _ h⟩)
  · exact .inr h
theorem Gr.sqT {K : PySem.W.Frag} {F F' : Hp} {a : Addr} {xs : List V} (g : Gr F F') (h : SqT K F a xs) : SqT K F' a xs := by
  rcases h with (h | ⟨o, h⟩) | h
  · exact .inl (.inl (g _ _ h))
  · exact .inl (.inr ⟨o, g _ _ h⟩)
  · exact .inr h
theorem Sta.sqL {K : PySem.W.Frag} {F H : Hp} {L : List (Addr × HO)} {a : Addr} {xs : List V} (S : Sta F L H) (h : SqL K F a xs) : SqL K H a xs := Gr.sqL S.fr h
theorem Sta.sqT {K : PySem.W.Frag} {F H : Hp} {L : List (Addr × HO)} {a : Addr} {xs : List V} (S : Sta F L H) (h : SqT K F a xs) : SqT K H a xs := Gr.sqT S.fr h
theorem Has.sqT {K : PySem.W.Frag} {F : Hp} {a : Addr} {xs : List V} (h : Has F a (.tup xs)) : SqT K F a xs := .inl (.inl h.1)
theorem Has.sqL {K : PySem.W.Frag} {F : Hp} {a : Addr} {xs : List V} (h : Has F a (.lst xs)) : SqL K F a xs := .inl (.inl h.1)
/-- a tuple's type -/
theorem ty_tup {K : PySem.W.Frag} {H : Hp} {a : Addr} {xs : List V} (h : SqT K H a xs) : TyX K H (.ref a) (.type "tuple") := by
  rcases h with (h | ⟨o, h⟩) | ⟨o, its, n, h1, h2, _⟩
  · exact .base (.tup h)
  · exact .fTuple h
  · exact .kTuple h1 h2
theorem Gr.tyX {K : PySem.W.Frag} {F F' : Hp} {x : V} {t : Value} (g : Gr F F') (h : TyX K F x t) : TyX K F' x t := by
  cases h with
  | base b =>
    cases b with
    | non => exact .base .non
    | bl y => exact .base (.bl y)
    | int i => exact .base (.int i)
    | str y => exact .base (.str y)
    | flt y => exact .base (.flt y)
    | lst e => exact .base (.lst (g _ _ e))
    | frz e => exact .base (.frz (g _ _ e))
    | tup e => exact .base (.tup (g _ _ e))
    | dK e => exact .base (.dK (g _ _ e))
    | dT e => exact .base (.dT (g _ _ e))
    | ins e cl ha hn htk hm => exact .base (.ins (g _ _ e) cl ha hn htk hm)
  | byt y => exact .byt y
  | set e => exact .set (g _ _ e)
  | kList e c => exact .kList e c
  | kTuple e c => exact .kTuple e c
  | kDict e c => exact .kDict e c
  | fTuple e => exact .fTuple (g _ _ e)
  | fDict e => exact .fDict (g _ _ e)
end Sb


set_option Elab.async false
set_option linter.all false
set_option maxRecDepth 100000
set_option maxHeartbeats 4000000
namespace Sb
open PySem L2 PySem.Spec PyProof.Rows
/-! ### plain tuples: the very object is known, it has no dict -/
def PT (K : PySem.W.Frag) (H : Hp) (a : Addr) (xs : List V) : Prop :=
  (∃ o, H a = some (.frz o (.tup xs)) ∧ o.cls = .type "tuple" ∧ o.dict = none) ∨
  (∃ (o : Obj) (its : Array Value) (n : Nat), K.lookup a = some o ∧ o.cls = .type "tuple" ∧ o.dict = none ∧ o.data = .seq its n ∧ its.size ≤ sizeLine ∧ Vals xs its.toList)
theorem PT.sqT {K : PySem.W.Frag} {H : Hp} {a : Addr} {xs : List V} (h : PT K H a xs) : SqT K H a xs := by
  rcases h with ⟨o, h, _⟩ | ⟨o, its, n, h1, h2, _, h3, h4, h5⟩
  · exact .inl (.inr ⟨o, h⟩)
  · exact .inr ⟨o, its, n, h1, h2, h3, h4, h5⟩
theorem PT.up {K : PySem.W.Frag} {F F' : Hp} {a : Addr} {xs : List V} (h : PT K F a xs) (g : Gr F F') : PT K F' a xs := by
  rcases h with ⟨o, h, r⟩ | h
  · exact .inl ⟨o, g _ _ h, r⟩
  · exact .inr h
theorem PT.at {K : PySem.W.Frag} {F H : Hp} {L : List (Addr × HO)} {a : Addr} {xs : List V} (h : PT K F a xs) (S : Sta F L H) : PT K H a xs := h.up S.fr
theorem emptyB_pt {K : PySem.W.Frag} {a : Addr} (h : emptyB K a = true) (H : Hp) : PT K H a [] := by
  unfold emptyB at h
  split at h
  · rename_i c its n sl hl
    obtain ⟨h1, h2⟩ := and2 h
    have e1 := of_decide_eq_true h1
    have e2 := Array.isEmpty_iff.mp h2
    subst e1 e2
    exact .inr ⟨_, #[], n, hl, rfl, rfl, rfl, Nat.zero_le _, .nil⟩
  · cases h
theorem Sta.mkT {K : PySem.W.Frag} {F H : Hp} {L : List (Addr × HO)} {p : Addr} {o : Obj} {xs : List V} (s : Sta F L H) (h : H p = none) (hc : o.cls = .type "tuple") (hd : o.dict = none) :
    ∃ F', Sta F' L (upd H p (.frz o (.tup xs))) ∧ Gr F F' ∧ PT K F' p xs := ⟨_, s.newF h _, Gr.new (s.noF h), .inl ⟨o, upd_same, hc, hd⟩⟩
/-- what follows a new plain tuple -/
def NewT (xs : List V) (H : Hp) (Q : VK) : Prop := ∀ (p : Addr) (o : Obj), o.cls = .type "tuple" → o.dict = none → H p = none → Q (.ref p) (upd H p (.frz o (.tup xs)))
section
variable {X : Cx} {pins : List (Addr × Obj)} {σ : L2.St} {H : Hp} {s : Shared}
theorem newT_run {h' : Heap} {tk : Nat} {its : List Value} {xs : List V} {Q : VK} (I : Inv X pins σ H { s with heap := h', toks := tk }) (r : Vals xs its) (hz : xs.length ≤ sizeLine) (q : NewT xs H Q) :
    EP X pins σ Q (.ref h'.objs.size) { s with heap := h'.push { cls := .type "tuple", data := .seq its.toArray }, toks := tk } := by
  have hp : H h'.objs.size = none := I.hok.fresh (Nat.le_refl _)
  have hg := Heap.get?_push_size h' (o := ({ cls := .type "tuple", data := .seq its.toArray } : Obj)) rfl
  exact ⟨.ref h'.objs.size, _, I.laid (t' := tk) (o := .frz { cls := .type "tuple", data := .seq its.toArray } (.tup xs)) (fun b u e => Heap.get?_push_of_some _ e) (Nat.le_refl _)
    ⟨hg, hz, its, r, ⟨_, hg, rfl, _, rfl⟩⟩, rfl, q _ _ rfl rfl hp⟩
/-- (a, b, ..) -/
def tTupZ (t : TA) : TE := fun σ H Q => t σ H fun xs H1 => xs.length ≤ sizeLine ∧ NewT xs H1 Q
theorem pe_tupZ {es : List Expr} {t : TA} {pos : Pos} {x1} (h : PA X es t) : PE X (.Tuple es x1 pos) (tTupZ t) := by
  refine ⟨fun pins s σ H Q I hq => ?_⟩
  refine wpAny_Tuple_spliced (thn (h.run pos pins s σ H _ I hq) fun us s1 ⟨xs, H1, I1, r, z, q⟩ => ⟨by rw [← r.length]; exact z, ?_⟩)
  exact newT_run (s := s1) I1 r z q
/-- tuple(a list) -/
theorem call_tupZ : CallR X (.type "tuple") (fun xs H Q => ∃ p ys, xs = [.ref p] ∧ SqL X.K H p ys ∧ NewT ys H Q) := by
  intro pins s σ H xs us Q I r h
  obtain ⟨p, ys, rfl, hq, q⟩ := h
  obtain ⟨u, rfl, rx⟩ := vals1 r
  cases rx
  obtain ⟨its, r', pl, hz⟩ := I.list hq
  have hlen := r'.length
  refine call_tuple_list pl.isList (fun h' kp => ?_) (by simp only [List.size_toArray] <;> omega)
  exact newT_run (s := s) (I.kept (t' := s.toks) kp) r' hz q
/-- t + u, neither empty (u empty: t itself) -/
def rCatZ (K : PySem.W.Frag) : R2 := fun x y H Q => ∃ a b xs ys, x = .ref a ∧ y = .ref b ∧ SqT K H a xs ∧ SqT K H b ys ∧ xs ≠ [] ∧ ys ≠ [] ∧ xs.length + ys.length ≤ sizeLine ∧ NewT (xs ++ ys) H Q
theorem op_catZ : OpR X (binaryOp .Add) (rCatZ X.K) := by
  intro pins s σ H x y v u Q I rx ry h
  obtain ⟨a, b, xs, ys, rfl, rfl, ha, hb, hx, hy, hz, q⟩ := h
  cases rx
  cases ry
  obtain ⟨its, r1, p1, _⟩ := I.tuple ha
  obtain ⟨its2, r2, p2, _⟩ := I.tuple hb
  refine HT.cat_tup p1 p2 (fun z => hx (r1.nil_iff.mp z)) (fun z => absurd (r2.nil_iff.mp z) hy) (fun z => ?_) (by rw [← r1.length, ← r2.length]; exact hz)
  have e : its.toArray ++ its2.toArray = (its ++ its2).toArray := by simp
  have q' := newT_run (s := s) (h' := s.heap) (tk := s.toks) I (r1.append r2) (by rw [List.length_append]; exact hz) q
  first
    | exact q'
    | (rw [e]; exact q')
/-- t[lo:hi], not the whole -/
def rSlZ (K : PySem.W.Frag) : V → Option Int → Option Int → Hp → VK → Prop := fun x lo hi H Q => ∃ a xs, x = .ref a ∧ SqT K H a xs ∧ ¬ (HT.sIx xs.length 0 lo = 0 ∧ HT.sIx xs.length xs.length hi = xs.length) ∧ NewT (cutV xs lo hi) H Q
theorem sl_tupZ : SlR X (rSlZ X.K) := by
  intro pins s σ H x v vl vu lo hi sl Q I rx hs pl pu h
  obtain ⟨a, xs, rfl, hx, hw, q⟩ := h
  cases rx
  obtain ⟨its, r, ht, hz⟩ := I.tuple hx
  have hlen : its.toArray.size = xs.length := by rw [List.size_toArray]; exact r.length.symm
  refine ⟨"tuple", _, PyProof.Rows.slot_tuple_getitem.lookup, ht.typeIs, ?_⟩
  refine HT.getItem_tuple_cut ht hs pl pu (by rw [hlen]; exact hw) ?_ (by rw [hlen]; exact hz)
  rw [hlen]
  exact newT_run (s := s) (h' := s.heap) (tk := s.toks) I ((r.drop (HT.sIx xs.length 0 lo)).take (HT.sIx xs.length xs.length hi - HT.sIx xs.length 0 lo)) (Nat.le_trans (cutV_length xs lo hi) hz) q
/-! ### a method of a plain tuple -/
def tBMP (K : PySem.W.Frag) (r : V → List V → Hp → VK → Prop) (to : TE) (t : TA) : TE := fun σ H Q => to σ H fun x H1 => (∃ a xs, x = .ref a ∧ PT K H1 a xs) ∧ t σ H1 fun ys H2 => r x ys H2 Q
theorem pe_bmP {o e : Expr} {es : List Expr} {to : TE} {t : TA} {name : Str} {apos cpos : Pos} {id : String} {r : V → List V → Hp → VK → Prop} (pa : PlainAttrs "tuple") (slot : Slot "tuple" name id) (hty : typeOf (.builtin id) = pure (.type "method_descriptor")) (hm : MtR X id r) (ho : PE X o to) (ha : PA X (e :: es) t)
    (hbase : attributeBase o name X.env (eval o X.env) = eval o X.env := by rfl)
    (hfew : ((backTo cpos (starEach (e :: es) X.env)).all (fun x => !x.1) && (backToKw cpos (keywordEach [] X.env)).all (fun x => x.1.isSome)
      && decide ((e :: es).length + ([] : List Keyword).length + (if ([] : List Keyword).isEmpty then 0 else 1) < 30)) = true := by rfl)
    (hline : (apos.endLine == cpos.line) = true := by rfl) (hs : starEach (e :: es) X.env = (false, eval e X.env) :: starEach es X.env := by rfl) (hplain : (backTo cpos (starEach es X.env)).any (·.1) = false := by rfl) :
    PE X (.Call (.Attribute o name apos) (e :: es) [] cpos) (tBMP X.K r to t) := by
  refine ⟨fun pins s σ H Q I h => ?_⟩
  refine wpAny_Call_method_late hbase hfew hline rfl (thn (ho.run pins s σ H _ I h) fun v s1 ⟨x, H1, I1, r1, ⟨a, xs, ex, ty⟩, q1⟩ => ?_)
  subst ex
  obtain rfl : v = Value.ref a := r1
  have hob : ∃ ob, s1.heap.get? a = some ob ∧ ob.cls = .type "tuple" ∧ ob.dict = none := by
    rcases ty with ⟨ob, h1, h2, h3⟩ | ⟨ob, its, n, h1, h2, h3, _⟩
    · exact ⟨ob, (show ObjOk X.prog X.w H1 s1.heap a (.frz ob (.tup xs)) from I1.hok a _ h1).1, h2, h3⟩
    · exact ⟨ob, I1.kIn a ob h1, h2, h3⟩
  obtain ⟨ob, g1, g2, g3⟩ := hob
  refine ⟨"tuple", id, pa, slot, hty, ⟨ob, g1, g2⟩, (fun b eb => by cases eb; exact ⟨ob, g1, g3⟩), ?_⟩
  have hA := ha.run cpos pins s1 σ H1 _ I1 q1
  rw [hs] at hA ⊢
  refine Calls.callWith_builtin (by show (false || (backTo cpos (starEach es X.env)).any (·.1)) = false; rw [hplain] <;> rfl) (Calls.evalArgs_plain ?_)
  exact thn hA fun us s2 ⟨vs, H2, I2, r2, q2⟩ => hm pins s2 σ H2 (.ref a) vs (.ref a) us Q I2 rfl r2 q2
/-- t.count(a text), t of texts -/
def rTCount (K : PySem.W.Frag) : V → List V → Hp → VK → Prop := fun x xs H Q => ∃ (a : Addr) (z : Str) (ws : List Str), x = .ref a ∧ xs = [.str z] ∧ SqT K H a (ws.map V.str) ∧ Q (.int ((ws.count z : Nat) : Int)) H
theorem dp_strs {K : PySem.W.Frag} {H : Hp} : ∀ (ws : List Str), DpAll K H (ws.map V.str) (ws.map PyData.str)
  | [] => .nil
  | z :: ws => .cons (.str z) (dp_strs ws)
theorem plain_strs : ∀ (ws : List Str), PyData.plainAll (ws.map PyData.str) = true
  | [] => rfl
  | z :: ws => by
    show (PyData.plain (.str z) && PyData.plainAll (ws.map PyData.str)) = true
    rw [plain_strs ws]
    rfl
theorem depth_strs : ∀ (ws : List Str), PyData.depthAll (ws.map PyData.str) = 0
  | [] => rfl
  | z :: ws => by
    show max (PyData.depth (.str z)) (PyData.depthAll (ws.map PyData.str)) = 0
    rw [depth_strs ws]
    rfl
theorem count_strs (z : Str) : ∀ (ws : List Str), (ws.map PyData.str).countP (fun y => PyData.eqv y (.str z)) = ws.count z
  | [] => rfl
  | x :: ws => by
    rw [List.map_cons, List.countP_cons, List.count_cons, count_strs z ws]
    have e : PyData.eqv (.str x) (.str z) = (x == z) := by simp [PyData.eqv]
    rw [e]
theorem mt_tcount (hu : X.A.units + 65 < cLine) : MtR X "tuple.count" (rTCount X.K) := by
  intro pins s σ H x xs v us Q I rx rxs h
  obtain ⟨a, z, ws, rfl, rfl, hx, q⟩ := h
  obtain rfl : v = Value.ref a := rx
  obtain ⟨u, rfl, ru⟩ := vals1 rxs
  obtain ⟨its, r, ht, hz⟩ := I.tuple hx
  obtain ⟨as, h4⟩ := Dp.readsAll I (ws.map PyData.str) (ws.map V.str) its (dp_strs ws) r
  obtain ⟨bs, h5⟩ := Dp.reads I (.str z) (.str z) u (.str z) ru
  refine PySem.SeqAt.count_tuple_data (vs := its.toArray) ht h4 h5 (plain_strs ws) rfl (by rw [depth_strs]; show X.A.units + 1 + min 0 0 < cLine; omega) ?_
  rw [count_strs]
  exact ⟨.int ((ws.count z : Nat) : Int), H, I.tok _, ⟨_, rfl⟩, q⟩
/-! ### xs[::e], e is 1 or -1 -/
theorem pick_one (items : Array Value) : slicePick items none none (some 1) = items.toList.toArray := by
  have e : slicePick items none none (some 1) = slicePick items none none none := rfl
  rw [e, slicePick_all, Array.toArray_toList]
def tStepL (K : PySem.W.Frag) (te ti : TE) : TE := fun σ H Q => te σ H fun x H1 => ti σ H1 fun i H2 => ∃ a xs, x = .ref a ∧ SqL K H2 a xs ∧ ((i = .int 1 ∧ ∀ p, H2 p = none → Q (.ref p) (upd H2 p (.lst xs))) ∨ (i = .int (-1) ∧ ∀ p, H2 p = none → Q (.ref p) (upd H2 p (.lst xs.reverse))))
theorem pe_stepL {e i : Expr} {te ti : TE} {p3 pos : Pos} (he : PE X e te) (hi : PE X i ti) : PE X (.Subscript e (.Slice none none (some i) p3) pos) (tStepL X.K te ti) := by
  refine ⟨fun pins s σ H Q I h => ?_⟩
  refine Subscript_ (thn (he.run pins s σ H _ I h) fun v s1 ⟨x, H1, I1, r1, q1⟩ => ?_)
  refine wpAny_Slice (thn (po_none.run pins s1 σ H1 (fun o H2 => o = none ∧ H2 = H1) I1 ⟨rfl, rfl⟩) fun vl s2 ⟨l, H2, I2, pl, el, e2⟩ => ?_)
  subst el e2
  refine thn (po_none.run pins s2 σ H2 (fun o H3 => o = none ∧ H3 = H2) I2 ⟨rfl, rfl⟩) fun vu s3 ⟨u, H3, I3, pu, eu, e3⟩ => ?_
  subst eu e3
  rw [evalPart_some]
  refine thn (hi.run pins s3 σ H3 _ I3 q1) fun vs s4 ⟨y, H4, I4, r4, q4⟩ => ?_
  obtain ⟨a, xs, ex, hx, q⟩ := q4
  subst ex
  obtain rfl : v = Value.ref a := r1
  have I5 : Inv X pins σ H4 { s4 with heap := s4.heap.push { cls := .type "slice", data := .fields #[vl, vu, vs] } } := I4.kept (t' := s4.toks) fun b ob q => Heap.get?_push_of_some _ q
  obtain ⟨its, r, ht, hz⟩ := I5.list hx
  have hlen := r.length
  show wpAny (model X.prog X.w) X.A (subscriptTail e (.Slice none none (some i) p3) (.ref a) (.ref s4.heap.objs.size)) (EP X pins σ Q) X.xe { s4 with heap := s4.heap.push { cls := .type "slice", data := .fields #[vl, vu, vs] } }
  refine tail_any (ops := [.ref a, .ref s4.heap.objs.size]) ht.isList.typeIs (PySem.slot_list_getitem.lookup) ?_ (by with_unfolding_all rfl)
  rcases q with ⟨ey, q⟩ | ⟨ey, q⟩
  · subst ey
    obtain ⟨t, rfl⟩ := r4
    refine wpAny_getItem_list_slice ht.isList (Heap.IsSliceOf.new _ vl vu _) pl pu (.int 1 t) (by decide) ?_ (by rw [List.size_toArray]; omega)
    rw [pick_one]
    refine ⟨.ref _, _, I5.laid (t' := s4.toks) (o := .lst xs) (fun b ob q => Heap.get?_push_of_some _ q) (Nat.le_refl _) ?_, rfl, q _ (I5.hok.fresh (Nat.le_refl _))⟩
    exact ⟨hz, _, 0, r, Heap.get?_push_size _ rfl⟩
  · subst ey
    obtain ⟨t, rfl⟩ := r4
    refine wpAny_getItem_list_slice ht.isList (Heap.IsSliceOf.new _ vl vu _) pl pu (.int (-1) t) (by decide) ?_ (by rw [List.size_toArray]; omega)
    rw [PySem.W.krv_pick]
    refine ⟨.ref _, _, I5.laid (t' := s4.toks) (o := .lst xs.reverse) (fun b ob q => Heap.get?_push_of_some _ q) (Nat.le_refl _) ?_, rfl, q _ (I5.hok.fresh (Nat.le_refl _))⟩
    exact ⟨by rw [List.length_reverse]; exact hz, _, 0, r.reverse, Heap.get?_push_size _ rfl⟩
/-! ### own special methods: ==, in, not in, o[i], len -/
/-- a == b, a's class has its own __eq__, which answers a bool -/
def rEqO (K : PySem.W.Frag) (sp : Sp) (f : Addr) (E : XK) : R2 := fun x y H Q => ∃ (a C dx : Addr) (fs : List (Str × V)) (t : Value), x = .ref a ∧ H a = some (.ins C dx fs) ∧ TyX K H y t ∧ PySem.W.notFirst K C t = true ∧
  PySem.W.findIn K (.ref C) "__eq__" = some (some (.ref f)) ∧ PySem.W.isFn K (.ref f) = true ∧ sp [x, y] H (fun v H' => (∃ b, v = .bl b) ∧ Q v H') E
theorem op_eqO {CX : CXT} {k : Nat} {f : Addr} {fd : FuncData} {ps : List Str} {sp : Sp} {E : XK} (F : FnOk X.prog X.w X.K X.mg X.base CX k f fd ps sp) (hr : Room k X.A) (hb : Binds X.K fd ps []) (hx : Passes CX X E) :
    OpR X (compareOp .Eq) (rEqO X.K sp f E) := by
  intro pins s σ H x y v u Q I rx ry h
  obtain ⟨a, C, dx, fs, t, rfl, ha, ty, hn, hs, hf, hq⟩ := h
  obtain rfl : v = Value.ref a := rx
  obtain ⟨mA, J, _⟩ := ins_get I.hok ha
  obtain ⟨od, J, _⟩ := J.look
  obtain ⟨m, hF⟩ := I.fr
  obtain ⟨P, Z, p, hne⟩ := kit_of I ry ty
  refine PySem.W.cmp_ofEq (PySem.W.cmp_K (op := .Eq) hr.units0 hF I.ok.mod.kin J (Z.ty _ _ I.kIn p) hn hs hf ?_)
  refine wpAny_mono (run_fn (us := [.ref a, u]) (vs := [.ref a, y]) F hr hb .nil hx I (.cons rfl (.cons ry .nil)) hq) (fun w s' hw => ?_) fun _ _ z => z
  obtain ⟨z, H', I', rz, ⟨b, ez⟩, hq'⟩ := hw
  subst ez
  obtain rfl : w = Value.bool b := rz
  exact ⟨.bl b, H', I', rfl, hq'⟩
/-- y in a, y not in a: a's class has its own __contains__, which answers a bool -/
def rInO (K : PySem.W.Frag) (neg : Bool) (sp : Sp) (f : Addr) (E : XK) : R2 := fun y x H Q => ∃ (a C dx : Addr) (fs : List (Str × V)), x = .ref a ∧ H a = some (.ins C dx fs) ∧
  PySem.W.findIn K (.ref C) "__contains__" = some (some (.ref f)) ∧ PySem.W.isFn K (.ref f) = true ∧ sp [x, y] H (fun v H' => ∃ b, v = .bl b ∧ Q (.bl (if neg then !b else b)) H') E
theorem op_inO {CX : CXT} {k : Nat} {f : Addr} {fd : FuncData} {ps : List Str} {sp : Sp} {E : XK} (F : FnOk X.prog X.w X.K X.mg X.base CX k f fd ps sp) (hr : Room k X.A) (hb : Binds X.K fd ps []) (hx : Passes CX X E) :
    OpR X (compareOp .In) (rInO X.K false sp f E) := by
  intro pins s σ H y x u v Q I ry rx h
  obtain ⟨a, C, dx, fs, rfl, ha, hs, hf, hq⟩ := h
  obtain rfl : v = Value.ref a := rx
  obtain ⟨mA, J, _⟩ := ins_get I.hok ha
  obtain ⟨od, J, _⟩ := J.look
  obtain ⟨m, hF⟩ := I.fr
  refine PySem.W.in_K hF I.ok.mod.kin J hs hf ?_
  refine wpAny_mono (run_fn (us := [.ref a, u]) (vs := [.ref a, y]) F hr hb .nil hx I (.cons rfl (.cons ry .nil)) hq) (fun w s' hw => ?_) fun _ _ z => z
  obtain ⟨z, H', I', rz, b, ez, hq'⟩ := hw
  subst ez
  obtain rfl : w = Value.bool b := rz
  exact wpAny_truthy_bool ⟨.bl b, H', I', rfl, hq'⟩
theorem op_notinO {CX : CXT} {k : Nat} {f : Addr} {fd : FuncData} {ps : List Str} {sp : Sp} {E : XK} (F : FnOk X.prog X.w X.K X.mg X.base CX k f fd ps sp) (hr : Room k X.A) (hb : Binds X.K fd ps []) (hx : Passes CX X E) :
    OpR X (compareOp .NotIn) (rInO X.K true sp f E) := by
  intro pins s σ H y x u v Q I ry rx h
  obtain ⟨a, C, dx, fs, rfl, ha, hs, hf, hq⟩ := h
  obtain rfl : v = Value.ref a := rx
  obtain ⟨mA, J, _⟩ := ins_get I.hok ha
  obtain ⟨od, J, _⟩ := J.look
  obtain ⟨m, hF⟩ := I.fr
  refine PySem.W.notIn_K hF I.ok.mod.kin J hs hf ?_
  refine wpAny_mono (run_fn (us := [.ref a, u]) (vs := [.ref a, y]) F hr hb .nil hx I (.cons rfl (.cons ry .nil)) hq) (fun w s' hw => ?_) fun _ _ z => z
  obtain ⟨z, H', I', rz, b, ez, hq'⟩ := hw
  subst ez
  obtain rfl : w = Value.bool b := rz
  exact wpAny_truthy_bool ⟨.bl (!b), H', I', rfl, hq'⟩
end
theorem room65 {k : Nat} {A : Around} (hr : Room k A) : A.units + 65 < cLine := by
  have := hr.un
  omega
/-! ### == and != of plain data, whatever its texts -/
def rEqP (K : PySem.W.Frag) (neg : Bool) : R2 := fun x y H Q => ∃ d e, Dp K H x d ∧ Dp K H y e ∧ d.plain = true ∧ e.plain = true ∧ d.depth ≤ 64 ∧ Q (.bl (if neg then !PyData.eqv d e else PyData.eqv d e)) H
section
variable {X : Cx}
theorem op_eqP (hu : X.A.units + 64 < cLine) : OpR X (compareOp .Eq) (rEqP X.K false) := by
  intro pins s σ H x y v u Q I rx ry h
  obtain ⟨d, e, hd, he, pd, pe, dd, q⟩ := h
  obtain ⟨as, h1⟩ := Dp.reads I d x v hd rx
  obtain ⟨bs, h2⟩ := Dp.reads I e y u he ry
  exact PySem.SeqAt.eq_plain h1 h2 pd pe (by omega) ⟨.bl _, H, I, rfl, q⟩
theorem op_neP (hu : X.A.units + 64 < cLine) : OpR X (compareOp .NotEq) (rEqP X.K true) := by
  intro pins s σ H x y v u Q I rx ry h
  obtain ⟨d, e, hd, he, pd, pe, dd, q⟩ := h
  obtain ⟨as, h1⟩ := Dp.reads I d x v hd rx
  obtain ⟨bs, h2⟩ := Dp.reads I e y u he ry
  exact PySem.SeqAt.ne_plain h1 h2 pd pe (by omega) ⟨.bl _, H, I, rfl, q⟩
end
mutual
theorem Dp.upG {K : PySem.W.Frag} {F F' : Hp} (g : Gr F F') : ∀ (d : PyData) (v : V), Dp K F v d → Dp K F' v d
  | .none, _, h => by cases h; exact .non
  | .bool b, _, h => by cases h; exact .bl b
  | .int i, _, h => by cases h; exact .int i
  | .str z, _, h => by cases h; exact .str z
  | .list ds, _, h => by
    cases h with
    | lst hs ha => exact .lst (g.sqL hs) (DpAll.upG g ds _ ha)
  | .tuple ds, _, h => by
    cases h with
    | tup hs ha => exact .tup (g.sqT hs) (DpAll.upG g ds _ ha)
  | .dict _, _, h => by cases h
theorem DpAll.upG {K : PySem.W.Frag} {F F' : Hp} (g : Gr F F') : ∀ (ds : List PyData) (vs : List V), DpAll K F vs ds → DpAll K F' vs ds
  | [], _, h => by cases h; exact .nil
  | d :: ds, _, h => by
    cases h with
    | cons h1 h2 => exact .cons (Dp.upG g d _ h1) (DpAll.upG g ds _ h2)
end
theorem eqvAll_strs : ∀ (ws vs : List Str), PyData.eqvAll (ws.map PyData.str) (vs.map PyData.str) = decide (ws = vs)
  | [], [] => by simp [PyData.eqvAll]
  | [], _ :: _ => by simp [PyData.eqvAll]
  | _ :: _, [] => by simp [PyData.eqvAll]
  | w :: ws, v :: vs => by
    show PyData.eqvAll (.str w :: ws.map PyData.str) (.str v :: vs.map PyData.str) = _
    rw [PyData.eqvAll, eqvAll_strs ws vs]
    have e : PyData.eqv (.str w) (.str v) = decide (w = v) := by
      have e1 : PyData.eqv (.str w) (.str v) = (w == v) := by simp [PyData.eqv]
      rw [e1]
      by_cases q : w = v <;> simp [q]
    rw [e]
    by_cases h1 : w = v
    · subst h1
      by_cases h2 : ws = vs
      · subst h2; simp
      · simp [h2]
    · simp [h1]
theorem eqv_tup (xs ys : List PyData) : PyData.eqv (.tuple xs) (.tuple ys) = PyData.eqvAll xs ys := by rw [PyData.eqv]
theorem inV_strs (z : Str) : ∀ (ws : List Str), inV (.str z) (ws.map V.str) = decide (z ∈ ws)
  | [] => by simp [inV]
  | w :: ws => by
    have ih := inV_strs z ws
    unfold inV at ih ⊢
    rw [List.map_cons, List.any_cons, ih]
    have e : eqV (.str w) (.str z) = decide (w = z) := by
      by_cases q : w = z
      · subst q; simp [eqV]
      · simp [eqV, q]
    rw [e]
    by_cases h1 : w = z
    · subst h1; simp
    · have h2 : ¬ z = w := fun q => h1 q.symm
      by_cases h3 : z ∈ ws
      · simp [h3]
      · simp [h1, h2, h3]
theorem flat_strs (ws : List Str) : (ws.map V.str).all flatV = true := by
  rw [List.all_map]
  exact List.all_eq_true.mpr fun x _ => rfl
theorem putF_new {f : Str} {v : V} : ∀ {fs : List (Str × V)}, (fs.all fun q => decide (q.1 ≠ f)) = true → putF f v fs = fs ++ [(f, v)]
  | [], _ => rfl
  | (g, x) :: r, h => by
    rw [List.all_cons, Bool.and_eq_true] at h
    have h1 : ¬ g = f := by simpa using h.1
    show (if g = f then (g, v) :: r else (g, x) :: putF f v r) = _
    rw [if_neg h1, putF_new h.2]
    rfl
theorem putF_k {f : Str} {v : V} {fs : List (Str × V)} (ks : List Str) (hk : fs.map (·.1) = ks) (h : (ks.all fun g => decide (g ≠ f)) = true) : putF f v fs = fs ++ [(f, v)] := by
  refine putF_new ?_
  rw [← hk, List.all_map] at h
  exact h
/-- a new instance: its dict, itself -/
theorem Sta.mkI {F H : Hp} {L : List (Addr × HO)} {x dx C : Addr} (s : Sta F L H) (hx : H x = none) (hd : H dx = none) (ne : dx ≠ x) :
    ∃ F', Sta F' ((x, .ins C dx []) :: L) (upd (upd H dx (.own x)) x (.ins C dx [])) ∧ Gr F F' ∧ Has F' dx (.own x) := by
  have s1 := s.newF hd (.own x)
  have hx1 : upd H dx (.own x) x = none := by rw [upd_ne (Ne.symm ne)]; exact hx
  exact ⟨_, s1.newL hx1 _, Gr.new (s.noF hd), ⟨upd_same⟩⟩
theorem Sta.frz {F H : Hp} {L : List (Addr × HO)} {a : Addr} {o : HO} (s : Sta F ((a, o) :: L) H) : ∃ F', Sta F' L H ∧ Gr F F' ∧ Has F' a o := ⟨_, s.freeze, Gr.new s.hdF, ⟨upd_same⟩⟩
end Sb


set_option Elab.async false
set_option linter.all false
set_option maxRecDepth 100000
set_option maxHeartbeats 4000000
namespace Sb
open PySem L2 PySem.Spec PyProof.Rows
section
variable {X : Cx}
/-- t + u of plain tuples, whatever they hold -/
def rCatZA (K : PySem.W.Frag) : R2 := fun x y H Q => ∃ a b xs ys, x = .ref a ∧ y = .ref b ∧ PT K H a xs ∧ PT K H b ys ∧ xs.length + ys.length ≤ sizeLine ∧
  (xs = [] → Q (.ref b) H) ∧ (xs ≠ [] → ys = [] → Q (.ref a) H) ∧ (xs ≠ [] → ys ≠ [] → NewT (xs ++ ys) H Q)
theorem op_catZA : OpR X (binaryOp .Add) (rCatZA X.K) := by
  intro pins s σ H x y v u Q I rx ry h
  obtain ⟨a, b, xs, ys, rfl, rfl, ha, hb, hz, q1, q2, q3⟩ := h
  by_cases hx : xs = []
  · subst hx
    obtain rfl : v = Value.ref a := rx
    obtain rfl : u = Value.ref b := ry
    obtain ⟨its, r1, p1, _⟩ := I.tuple ha.sqT
    obtain ⟨its2, r2, p2, _⟩ := I.tuple hb.sqT
    have e : its = [] := r1.nil_iff.mpr rfl
    subst e
    exact L2.cat_tup0 p1 p2 ⟨.ref b, H, I, rfl, q1 rfl⟩
  · by_cases hy : ys = []
    · subst hy
      obtain rfl : v = Value.ref a := rx
      obtain rfl : u = Value.ref b := ry
      obtain ⟨its, r1, p1, _⟩ := I.tuple ha.sqT
      obtain ⟨its2, r2, p2, _⟩ := I.tuple hb.sqT
      have e : its2 = [] := r2.nil_iff.mpr rfl
      refine HT.cat_tup p1 p2 (fun z => hx (r1.nil_iff.mp z)) (fun _ => ⟨.ref a, H, I, rfl, q2 hx rfl⟩) (fun z => absurd e z) (by rw [← r1.length, ← r2.length]; exact hz)
    · exact op_catZ pins s σ H _ _ v u Q I rx ry ⟨a, b, xs, ys, rfl, rfl, ha.sqT, hb.sqT, hx, hy, hz, q3 hx hy⟩
/-- t[lo:hi] of a plain tuple: the whole is t itself -/
def rSlZA (K : PySem.W.Frag) : V → Option Int → Option Int → Hp → VK → Prop := fun x lo hi H Q => ∃ a xs, x = .ref a ∧ PT K H a xs ∧
  ((HT.sIx xs.length 0 lo = 0 ∧ HT.sIx xs.length xs.length hi = xs.length) → Q (.ref a) H) ∧ (¬ (HT.sIx xs.length 0 lo = 0 ∧ HT.sIx xs.length xs.length hi = xs.length) → NewT (cutV xs lo hi) H Q)
theorem sl_tupZA : SlR X (rSlZA X.K) := by
  intro pins s σ H x v vl vu lo hi sl Q I rx hs pl pu h
  obtain ⟨a, xs, rfl, hx, q1, q2⟩ := h
  by_cases hw : HT.sIx xs.length 0 lo = 0 ∧ HT.sIx xs.length xs.length hi = xs.length
  · obtain rfl : v = Value.ref a := rx
    obtain ⟨its, r, ht, hz⟩ := I.tuple hx.sqT
    have hlen : its.toArray.size = xs.length := by rw [List.size_toArray]; exact r.length.symm
    exact ⟨"tuple", _, PyProof.Rows.slot_tuple_getitem.lookup, ht.typeIs, getItem_tuple_whole ht hs pl pu (by rw [hlen]; exact hw) ⟨.ref a, H, I, rfl, q1 hw⟩⟩
  · exact sl_tupZ pins s σ H _ v vl vu lo hi sl Q I rx hs pl pu ⟨a, xs, rfl, hx.sqT, hw, q2 hw⟩
end
section
variable {K : PySem.W.Frag} {F H : Hp} {L : List (Addr × HO)} {xs ys : List V} {Q : VK} {a b : Addr}
theorem newT_sta (S : Sta F L H) (k : ∀ (p : Addr) (F' H' : Hp), Gr F F' → PT K F' p xs → Sta F' L H' → Q (.ref p) H') : NewT xs H Q := fun p o hc hd hp => by
  obtain ⟨F', S', g, hP⟩ := S.mkT (K := K) (xs := xs) hp hc hd
  exact k p F' _ g hP S'
theorem cat_sta (S : Sta F L H) (pa : PT K F a xs) (pb : PT K F b ys) (hz : xs.length + ys.length ≤ 100000) (k : ∀ (p : Addr) (F' H' : Hp), Gr F F' → PT K F' p (xs ++ ys) → Sta F' L H' → Q (.ref p) H') : rCatZA K (.ref a) (.ref b) H Q := by
  refine ⟨a, b, xs, ys, rfl, rfl, pa.at S, pb.at S, sz hz, fun e => ?_, fun _ e => ?_, fun _ _ => newT_sta S k⟩
  · subst e
    exact k b F H (Gr.refl F) pb S
  · subst e
    refine k a F H (Gr.refl F) ?_ S
    rw [List.append_nil]
    exact pa
theorem cut_whole {xs : List V} {lo hi : Option Int} (h : HT.sIx xs.length 0 lo = 0 ∧ HT.sIx xs.length xs.length hi = xs.length) : cutV xs lo hi = xs := by
  unfold cutV
  rw [h.1, h.2, List.drop_zero, Nat.sub_zero, List.take_length]
theorem slice_sta {lo hi : Option Int} (S : Sta F L H) (pa : PT K F a xs) (k : ∀ (p : Addr) (F' H' : Hp), Gr F F' → PT K F' p (cutV xs lo hi) → Sta F' L H' → Q (.ref p) H') : rSlZA K (.ref a) lo hi H Q := by
  refine ⟨a, xs, rfl, pa.at S, fun w => ?_, fun _ => newT_sta S k⟩
  refine k a F H (Gr.refl F) ?_ S
  rw [cut_whole w]
  exact pa
end
end Sb


set_option Elab.async false
set_option linter.all false
set_option maxRecDepth 100000
set_option maxHeartbeats 8000000
namespace Sb
open PySem PySem.Spec PyProof.Rows L2
/-! ### try: several except clauses, with and without a name -/
/-- an exception at a has been caught; no clause has been looked at -/
structure Caught (X : Cx) (pins : List (Addr × Obj)) (σ : L2.St) (H : Hp) (a : Addr) (cls : Value) (d : Option Addr) (B : Heap) (sI s : Shared) : Prop where
  J : Inv X pins σ H sI
  nb : ∀ b o, sI.heap.get? b = some o → b ∉ frs X.stack → B.get? b = some o
  up : sI.heap.UpToSlots s.heap
  fl : HandSPX.FlyingZ B (X.env :: X.outer) a (Zc cls d) s.heap
  na : H a = none
  os : s.os = sI.os
  ag : AllBare s.gens
def Hand (X : Cx) (hds : List ExceptHandler) (Wh : Ends → WX) : Prop := ∀ (pins : List (Addr × Obj)) (D : Ends) (σ : L2.St) (H : Hp) (a : Addr) (cls : Value) (d : Option Addr) (B : Heap) (sI s : Shared),
  Caught X pins σ H a cls d B sI s → Wh D cls d σ H → wpAny (model X.prog X.w) X.A (handleBy (.ref a) X.env hds) (SP X pins D) X.xe s
section
variable {X : Cx} {pins : List (Addr × Obj)} {σ : L2.St} {H : Hp} {a : Addr} {cls : Value} {d : Option Addr} {B : Heap} {sI s : Shared}
/-- the suite's state -/
theorem Caught.into (hf : X.env.frame = some X.env.locals) (C : Caught X pins σ H a cls d B sI s) :
    ∃ oe, Zc cls d oe ∧ (∃ vs, oe.data = .fields vs) ∧ s.heap.get? a = some oe ∧ Inv X pins σ H s ∧ Inv (X.suite a ((a, oe) :: (X.pn ++ pins))) [] σ H s := by
  have J2 : Inv X pins σ H s := C.J.landed C.nb C.fl.1 C.up C.os C.ag
  obtain ⟨oe, vs, e1, e2, e3⟩ := C.fl.there
  have out : a ∉ frs (X.env :: X.outer) := fun hm => by
    obtain ⟨_, o', e4, e5⟩ := C.fl.2.2.1.mem hm
    rw [e1] at e4
    cases e4
    exact e5 _ e3
  have n1 : a ≠ X.env.locals := fun z => out (List.mem_filterMap.mpr ⟨X.env, List.mem_cons_self, by rw [hf, z]⟩)
  have n2 : a ∉ X.fs := fun hm => by
    obtain ⟨e, he, q⟩ := List.mem_filterMap.mp hm
    exact out (List.mem_filterMap.mpr ⟨e, List.mem_cons_of_mem _ he, q⟩)
  exact ⟨oe, e2, ⟨vs, e3⟩, e1, J2, J2.suite e1 e3 C.na n1 n2⟩
theorem Caught.on {h4 : Heap} (C : Caught X pins σ H a cls d B sI s) (f : HandSPX.FlyingZ B (X.env :: X.outer) a (Zc cls d) h4) (u : s.heap.UpToSlots h4) : Caught X pins σ H a cls d B sI { s with heap := h4 } :=
  ⟨C.J, C.nb, C.up.trans u, f, C.na, C.os, C.ag⟩
end
section
variable {X : Cx} {Wout : WX}
theorem hand_nil (hs : X.stack = X.env :: X.outer) (hf : X.env.frame = some X.env.locals) (tk : Takes X Wout) : Hand X [] (fun _ => Wout) := by
  intro pins D σ H a cls d B sI s C w
  refine wpAny_handleBy_nil ?_
  obtain ⟨k1, k2, k3, oe, vs, T, oT, ts, he, hz, hd, h1, hr⟩ := id C.fl
  unfold PySem.passOn
  refine wpAny_bind (wpAny_field he hd h1 ?_)
  rw [if_neg (show ¬ ((Value.ref T == Value.none) = true) from by simp)]
  have last : wpAny (model X.prog X.w) X.A (setFlight (.ref a) X.env.frame) (fun _ s4 => wpAny (model X.prog X.w) X.A (throw (.ref a) : Sem Flow) (SP X pins D) X.xe s4) X.xe s := by
    rw [hf]
    refine HandSPX.setFlight_upZ C.fl fun h4 hh4 up4 => wpAny_throw (tk _ _ ?_)
    exact ⟨a, B, sI, pins, σ, H, cls, d, rfl, C.J, C.nb, C.up.trans up4, .inr (.inr (by rw [hs]; exact hh4)), C.na, C.os, C.ag, w⟩
  first
    | exact wpAny_bind (wpAny_pure (wpAny_bind last))
    | exact wpAny_bind last
/-- what a clause looks at: the class c -/
def wIf (K : PySem.W.Frag) (c : Value) (yes no : WX) : WX := fun cls d σ H => ∃ b, PySem.W.exmOne K cls c = some b ∧ (b = true → yes cls d σ H) ∧ (b = false → no cls d σ H)
section
variable {x n : Str} {c : Value} {i : Nat} {suite : List Stmt} {b₀ : Stmt} {np pos' : Pos} {hds : List ExceptHandler} {ts : Addr → Value → Option Addr → TS} {Wh : Ends → WX}
/-- the name's value: the class -/
theorem Caught.test {pins : List (Addr × Obj)} {σ : L2.St} {H : Hp} {a : Addr} {cls : Value} {d : Option Addr} {B : Heap} {sI s : Shared} (hf : X.env.frame = some X.env.locals) (C : Caught X pins σ H a cls d B sI s) (hc : Names X x c) {b : Bool} (hb : PySem.W.exmOne X.K cls c = some b) {Q : Bool → Shared → Prop} {E E2 : Value → Shared → Prop} (q : Q b s) :
    wpAny (model X.prog X.w) (X.A.mark (some (.ref a))) (eval (.Name x np) X.env) (fun u s1 => wpAny (model X.prog X.w) (X.A.mark (some (.ref a))) (excMatches (.ref a) u) Q E s1) E2 s := by
  obtain ⟨oe, hz, hd, he, J2, J3⟩ := C.into hf
  have LT : PySem.W.Looks (model X.prog X.w) s.heap (typeOf (.ref a)) cls := fun A Q E s k q => wpAny_typeOf_ref (k _ _ he) (by rw [hz.1]; exact q)
  have q2 := (PySem.W.exm_one (M := model X.prog X.w) J2.kIn LT hb).here (A := X.A.mark (some (.ref a))) (Q := Q) (E := E) q
  obtain ⟨hg, hdbg, hm | ⟨hm, hv, hnn⟩⟩ := hc
  · exact ld_glob (X := X.suite a ((a, oe) :: (X.pn ++ pins))) J3 hg hm q2 hdbg
  · exact ld_blt (X := X.suite a ((a, oe) :: (X.pn ++ pins))) J3 hg hm hv q2 hnn hdbg
/-- except x: .. -/
theorem hand_one (hf : X.env.frame = some X.env.locals) (hc : Names X x c)
    (hsu : ∀ (a : Addr) (oe : Obj) (cls : Value) (d : Option Addr) (pn : List (Addr × Obj)), Zc cls d oe → (∃ vs, oe.data = .fields vs) → PSs (X.suite a ((a, oe) :: pn)) (b₀ :: suite) (ts a cls d)) (r : Hand X hds Wh) :
    Hand X (.ExceptHandler (some (.Name x np)) none (b₀ :: suite) pos' :: hds) (fun D => wIf X.K c (fun cls d σ H => ∀ a, H a = none → ts a cls d D σ H) (Wh D)) := by
  intro pins D σ H a cls d B sI s C ⟨b, hb, yes, no⟩
  refine wpAny_handleBy_cons (codeAny_handlers_test (C.test hf hc hb ?_)) (by intro q; cases q)
  cases b with
  | false => exact r pins D σ H a cls d B sI s C (no rfl)
  | true =>
    refine codeAny_handlers_suite ?_
    refine HandSPX.lands_againZ C.fl fun h4 fl4 up4 => ?_
    have C4 := C.on fl4 up4
    obtain ⟨oe, hz, hd, he, J2, J3⟩ := C4.into hf
    refine wpAny_mono ((hsu a oe cls d (X.pn ++ pins) hz hd).run [] _ _ H _ J3 (yes rfl a C.na)) (fun f s6 hsp => ?_) (fun _ _ z => False.elim z)
    cases f with
    | next =>
      obtain ⟨σ6, H6, S6, q6⟩ := hsp
      exact ⟨_, _, S6.unsuite C.J.ok, q6⟩
    | brk =>
      obtain ⟨σ6, H6, S6, q6⟩ := hsp
      exact ⟨_, _, S6.unsuite C.J.ok, q6⟩
    | cont =>
      obtain ⟨σ6, H6, S6, q6⟩ := hsp
      exact ⟨_, _, S6.unsuite C.J.ok, q6⟩
    | ret u =>
      obtain ⟨v6, σ6, H6, S6, r6, q6⟩ := hsp
      exact ⟨_, _, _, S6.unsuite C.J.ok, r6, q6⟩
/-- except x as n: .. -/
def endsAs (i : Nat) (D : Ends) : Ends := { nx := fun σ' H' => D.nx (σ'.set i none) H', rt := D.rt, bk := fun σ' H' => D.bk (σ'.set i none) H', ct := fun σ' H' => D.ct (σ'.set i none) H' }
theorem hand_as (hf : X.env.frame = some X.env.locals) (hN : X.N.Nodup) (hi : X.N[i]? = some n) (hln : X.env.kindOf n = some .local) (hc : Names X x c)
    (hsu : ∀ (a : Addr) (oe : Obj) (cls : Value) (d : Option Addr) (pn : List (Addr × Obj)), Zc cls d oe → (∃ vs, oe.data = .fields vs) → PSs (X.suite a ((a, oe) :: pn)) (b₀ :: suite) (ts a cls d)) (r : Hand X hds Wh) :
    Hand X (.ExceptHandler (some (.Name x np)) (some n) (b₀ :: suite) pos' :: hds) (fun D => wIf X.K c (fun cls d σ H => ∀ a, H a = none → ts a cls d (endsAs i D) (σ.set i (some (.ref a))) H) (Wh D)) := by
  intro pins D σ H a cls d B sI s C ⟨b, hb, yes, no⟩
  refine wpAny_handleBy_cons (codeAny_handlers_test (C.test hf hc hb ?_)) (by intro q; cases q)
  cases b with
  | false => exact r pins D σ H a cls d B sI s C (no rfl)
  | true =>
    refine codeAny_handlers_suite_as ?_
    refine HandSPX.lands_againZ C.fl fun h4 fl4 up4 => ?_
    have C4 := C.on fl4 up4
    obtain ⟨oe, hz, hd, he, J2, J3⟩ := C4.into hf
    refine store_ok (X := X.suite a ((a, oe) :: (X.pn ++ pins))) (v := .ref a) J3 hN hi (.inl hln) rfl (fun s5 S5 => ?_) (.inr hln)
    refine wpAny_mono ((hsu a oe cls d (X.pn ++ pins) hz hd).run [] s5 _ H _ S5 (yes rfl a C.na)) (fun f s6 hsp => ?_) (fun _ _ z => False.elim z)
    have gone : ∀ {σ6 : L2.St} {H6 : Hp} {Q : Shared → Prop}, Inv (X.suite a ((a, oe) :: (X.pn ++ pins))) [] σ6 H6 s6 → (∀ s7, Inv X pins (σ6.set i none) H6 s7 → Q s7) →
        wpAny (model X.prog X.w) X.A (do bindName X.env n .none; unbindBehindTheSuite X.env n pos') (fun _ s7 => Q s7) X.xe s6 := fun {σ6 H6 Q} S6 hq => gone_ok (S6.unsuite C.J.ok) hN hi hln hq
    cases f with
    | next =>
      obtain ⟨σ6, H6, S6, q6⟩ := hsp
      exact gone S6 fun s7 J7 => ⟨_, _, J7, q6⟩
    | brk =>
      obtain ⟨σ6, H6, S6, q6⟩ := hsp
      exact gone S6 fun s7 J7 => ⟨_, _, J7, q6⟩
    | cont =>
      obtain ⟨σ6, H6, S6, q6⟩ := hsp
      exact gone S6 fun s7 J7 => ⟨_, _, J7, q6⟩
    | ret u =>
      obtain ⟨v6, σ6, H6, S6, r6, q6⟩ := hsp
      exact gone S6 fun s7 J7 => ⟨_, _, _, J7, r6, q6⟩
end
/-- try: body / the clauses -/
theorem ps_tryH {body : List Stmt} {h₀ : ExceptHandler} {hds : List ExceptHandler} {pos : Pos} {tb : WX → TS} {Wh : Ends → WX} (hs : X.stack = X.env :: X.outer) (hf : X.env.frame = some X.env.locals)
    (hb : ∀ (W : WX) (pn : List (Addr × Obj)) (xe : Value → Shared → Prop), Takes (X.tr pn xe) W → PassesOwn (model X.prog X.w) X.A X.env xe → PSs (X.tr pn xe) body (tb W))
    (hh : Hand X (h₀ :: hds) Wh) : PS X (.Try body (h₀ :: hds) [] [] pos) (fun D σ H => tb (Wh D) D σ H) := by
  refine ⟨fun pins s σ H D I h => ?_⟩
  have ok := I.ok
  have hfr : X.A.frames = some (X.env :: X.outer) := by rw [ok.frames, hs]
  refine wpAny_Try_except (wpAny_mono ((hb (Wh D) (X.pn ++ pins) (fun e s₁ => wpAny (model X.prog X.w) X.A (noteFrame e X.env) (fun _ s₂ => wpAny (model X.prog X.w) X.A (setFlight e none) (fun _ s₃ =>
    wpAny (model X.prog X.w) X.A (handleBy e X.env (h₀ :: hds)) (SP X pins D) X.xe s₃) X.xe s₂) X.xe s₁) (fun u s' xx => ?_) PassesOwn.looking).run [] s σ H D (I.toTry _) h) (fun f s1 hsp => ?_) (fun e s1 he => he))
  · obtain ⟨a, B, sI, pins', σ', H', cls, d, rfl, J', nb, up, sky, na, os, ag, w⟩ := xx
    have J : Inv X pins σ' H' sI := J'.ofTry ok
    have sky' : Sky B (X.env :: X.outer) a (Zc cls d) X.env.locals s'.heap := by rw [← hs]; exact sky
    show wpAny (model X.prog X.w) X.A (noteFrame (.ref a) X.env) _ _ _
    exact Sky.land Zc.steady hfr hf sky' fun h3 fl3 up3 => hh pins D σ' H' a cls d B sI { s' with heap := h3 } ⟨J, nb, up.trans up3, fl3, na, os, ag⟩ w
  · cases f with
    | next =>
      obtain ⟨σ', H', J', q⟩ := hsp
      exact wpAny_execs_nil ⟨σ', H', J'.ofTry ok, q⟩
    | brk =>
      obtain ⟨σ', H', J', q⟩ := hsp
      exact ⟨σ', H', J'.ofTry ok, q⟩
    | cont =>
      obtain ⟨σ', H', J', q⟩ := hsp
      exact ⟨σ', H', J'.ofTry ok, q⟩
    | ret u =>
      obtain ⟨v, σ', H', J', r, q⟩ := hsp
      exact ⟨v, σ', H', J'.ofTry ok, r, q⟩
end
/-! ### raising an own error that keeps one value -/
/-- C.__init__(self, f): self.f = f -/
def spIni (K : PySem.W.Frag) (f : Str) : Sp := fun vs H Q _ => ∃ (a C : Addr) (y : V), vs = [.ref a, y] ∧ OexC K C ∧ PySem.W.findIn K (.ref C) f = some none ∧ H a = some (exo a C none) ∧
  ∀ dx, H dx = none → dx ≠ a → Q .non (upd (upd H dx (exd dx [(f, y)])) a (exo a C (some dx)))
/-- raise C(y): the reading behind the argument -/
theorem er_read {K : PySem.W.Frag} {H1 : Hp} {C : Addr} {y : V} {f : Str} {Q : XK} {E : XK} (T : OexC K C) (hno : PySem.W.findIn K (.ref C) f = some none) (q : ∀ d, H1 d = none → Q (.ref C) (some d) (upd H1 d (.xd [(f, y)]))) :
    [y].length ≤ 1000 ∧ ∀ a, H1 a = none → spIni K f (.ref a :: ([y] ++ [])) (upd H1 a (exo a C none))
      (fun v H2 => v = .non ∧ ∃ (d : Addr) (fs : List (Str × V)), H2 a = some (exo a C (some d)) ∧ H2 d = some (exd d fs) ∧ H1 d = none ∧ Q (.ref C) (some d) (upd (del H2 a) d (.xd fs))) E := by
  refine ⟨by show 1 ≤ 1000; decide, fun a ha => ⟨a, C, y, rfl, T, hno, upd_same, fun dx h1 ne => ⟨rfl, dx, [(f, y)], upd_same, by rw [upd_ne ne]; exact upd_same, ?_, ?_⟩⟩⟩
  · rw [upd_ne ne] at h1
    exact h1
  · have h2 : H1 dx = none := by
      rw [upd_ne ne] at h1
      exact h1
    have e : upd (del (upd (upd (upd H1 a (exo a C none)) dx (exd dx [(f, y)])) a (exo a C (some dx))) a) dx (.xd [(f, y)]) = upd H1 dx (.xd [(f, y)]) := by
      funext b
      by_cases hb : b = dx
      · subst hb
        rw [upd_same, upd_same]
      · rw [upd_ne hb, upd_ne hb]
        by_cases hba : b = a
        · subst hba
          rw [del_same, ha]
        · rw [del_ne hba, upd_ne hba, upd_ne hb, upd_ne hba]
    rw [e]
    exact q dx h2
/-- a call in a try body: what it lets out, at any slots -/
theorem passN {X : Cx} {W : WX} {n : Nat} (hn : X.N.length = n) (tk : Takes X W) : Passes (L2.CX X.prog X.w) X (fun cls d H => ∀ σ, σ.length = n → W cls d σ H) :=
  fun pins σ H s e s' I c => tk e s' (XE.of_call I (fun cls d H' h => h σ (I.len.trans hn)) c)
/-- z * n -/
theorem op_mulS {X : Cx} : OpR X (binaryOp .Mult) (fun x y H Q => ∃ (z : Str) (n : Int), x = .str z ∧ y = .int n ∧ 0 ≤ n ∧ n ≤ 1000 ∧ z.length ≤ 1000 ∧ Q (.str (Txt.mul z n)) H) := by
  intro pins s σ H x y v u Q I rx ry h
  obtain ⟨z, n, rfl, rfl, h0, h1, h2, q⟩ := h
  obtain ⟨t, rfl⟩ := rx
  obtain ⟨t', rfl⟩ := ry
  exact SB.mul (mulOk_of 1000 1000 h2 (by omega) (by omega) (by decide) (by decide)) fun t2 k2 => ⟨.str (Txt.mul z n), H, I.tok _, ⟨_, rfl⟩, q⟩
end Sb


set_option Elab.async false
set_option linter.all false
set_option maxRecDepth 100000
set_option maxHeartbeats 8000000
namespace Sb
open PySem PySem.Spec PyProof.Rows L2
/-! ### own __len__ and __getitem__ -/
section
variable {X : Cx}
theorem run_in1 {CX : CXT} {k : Nat} {f : Addr} {fd : FuncData} {ps : List Str} {sp : Sp} {E : XK} {pins : List (Addr × Obj)} {σ : L2.St} {H : Hp} {s : Shared} {Q : VK} {us : List Value} {vs : List V} (F : FnOk X.prog X.w X.K X.mg X.base CX k f fd ps sp) (hr : Room (k + 1) X.A) (hb : Binds X.K fd ps []) (hx : Passes CX X E)
    (I : Inv X pins σ H s) (r : Vals vs us) (h : sp vs H Q E) : wpAny (model X.prog X.w) X.A.in1 (call (.ref f) us) (EP X pins σ Q) X.xe s := by
  have hl : us.length = ps.length := by rw [← r.length]; exact F.len _ _ _ _ h
  have b := hb s us I.kIn (by rw [List.append_nil]; exact hl)
  rw [List.append_nil] at b
  refine wpAny_call (codeAny_mono (F.run X.A.in1 X.stack s H ⟨us, []⟩ us vs Q E hr.in1 I.env0.in1 b r h) fun r s' hq => ?_)
  cases r with
  | error e => exact hx pins σ H s e s' I hq
  | ok fl =>
    cases fl with
    | ret u => exact I.after hq
    | next => exact False.elim hq
    | brk => exact False.elim hq
    | cont => exact False.elim hq
/-- len(o), o's class has its own __len__ -/
def rLenO (K : PySem.W.Frag) (sp : Sp) (f : Addr) (E : XK) : List V → Hp → VK → Prop := fun xs H Q => ∃ (a C dx : Addr) (fs : List (Str × V)), xs = [.ref a] ∧ H a = some (.ins C dx fs) ∧
  PySem.W.findIn K (.ref C) "__len__" = some (some (.ref f)) ∧ PySem.W.isFn K (.ref f) = true ∧ sp [.ref a] H (fun v H' => ∃ n : Nat, v = .int n ∧ n ≤ 100000 ∧ Q (.int n) H') E
theorem call_lenO {CX : CXT} {k : Nat} {f : Addr} {fd : FuncData} {ps : List Str} {sp : Sp} {E : XK} (F : FnOk X.prog X.w X.K X.mg X.base CX k f fd ps sp) (hr : Room (k + 1) X.A) (hb : Binds X.K fd ps []) (hx : Passes CX X E) :
    CallR X (.builtin "len") (rLenO X.K sp f E) := by
  intro pins s σ H vs us Q I r h
  obtain ⟨a, C, dx, fs, rfl, ha, hs, hf, hq⟩ := h
  rw [Vals.ref1 r]
  obtain ⟨mA, J, _⟩ := ins_get I.hok ha
  obtain ⟨od, J, _⟩ := J.look
  obtain ⟨m, hF⟩ := I.fr
  refine PySem.W.len_K hF I.ok.mod.kin J hs hf (wpAny_mono (run_in1 (us := [.ref a]) (vs := [.ref a]) F hr hb hx I (.cons rfl .nil) hq) (fun w s' hw => ?_) fun _ _ z => z)
  obtain ⟨z, H', I', rz, n, ez, hn, hq'⟩ := hw
  subst ez
  obtain ⟨t, rfl⟩ : ∃ t, w = Value.int (n : Int) t := rz
  refine ⟨⟨by omega, by omega⟩, ?_⟩
  exact ⟨.int n, H', I'.tok _, ⟨_, rfl⟩, hq'⟩
/-- o[y], o's class has its own __getitem__ -/
def rIxO (K : PySem.W.Frag) (sp : Sp) (f : Addr) (E : XK) : R2 := fun x y H Q => ∃ (a C dx : Addr) (fs : List (Str × V)), x = .ref a ∧ H a = some (.ins C dx fs) ∧
  PySem.W.findIn K (.ref C) "__getitem__" = some (some (.ref f)) ∧ PySem.W.fnIn K f = true ∧ PySem.W.isFn K (.ref f) = true ∧ sp [.ref a, y] H Q E
theorem pe_ixO {CX : CXT} {k : Nat} {f : Addr} {fd : FuncData} {ps : List Str} {sp : Sp} {E : XK} {o i : Expr} {to ti : TE} {pos : Pos} (F : FnOk X.prog X.w X.K X.mg X.base CX k f fd ps sp) (hr : Room (k + 1) X.A) (hb : Binds X.K fd ps []) (hx : Passes CX X E)
    (ho : PE X o to) (hi : PE X i ti) (hsl : ∀ v u, subscripted i true v u = runValue (.builtin "lifetime.subscript" ⟨[v, u], []⟩) := by intro _ _; rfl) : PE X (.Subscript o i pos) (tOp (rIxO X.K sp f E) to ti) := by
  refine ⟨fun pins s σ H Q I h => ?_⟩
  refine Subscript_ (binT ho hi I h fun v u s2 x y H2 I2 rx ry q2 => ?_)
  obtain ⟨a, C, dx, fs, rfl, ha, hs, hf, hfn, hq⟩ := q2
  obtain rfl : v = Value.ref a := rx
  obtain ⟨mA, J, _⟩ := ins_get I2.hok ha
  obtain ⟨od, J, _⟩ := J.look
  obtain ⟨m, hF⟩ := I2.fr
  exact PySem.W.sub_K hF I2.ok.mod.kin J hs hf hfn (run_in1 (us := [.ref a, u]) (vs := [.ref a, y]) F hr hb hx I2 (.cons rfl (.cons ry .nil)) hq) (hsl _ _)
end
end Sb


set_option Elab.async false
set_option linter.all false
set_option maxRecDepth 100000
set_option maxHeartbeats 8000000
namespace Sb
open PySem PySem.Spec PyProof.Rows L2
/-! ### a != b, a's class has its own __eq__ and object's __ne__ -/
section
variable {prog : Program} {w : World} {A : Around} {E : Value → Shared → Prop} {s : Shared} {K : PySem.W.Frag} {x C Lo f : Addr} {h₀ : Heap} {m : Str → Option Value} {ox : Obj} {od : Option Obj} {b tb : Value}
theorem ifBound_ne {M : Model} {args : List Value} {Q : Option Value → Shared → Prop} (X : K.In s.heap) (I : PySem.W.InstAt s.heap x ox C od) (hs : PySem.W.findIn K (.ref C) "__ne__" = some (some (.builtin "object.__ne__")))
    (h : wpAny M A (call (.builtin "object.__ne__") (.ref x :: args)) (fun v => Q (some v)) E s) : wpAny M A (callSpecialIfBound? (.ref x) "__ne__" args) Q E s := by
  simp only [callSpecialIfBound?, bindSpecialIfBound?]
  refine wpAny_holding (wpAny_bind (wpAny_bind (wpAny_bind (I.type.here ((PySem.W.looks_findIn X hs).here ?_)))))
  simp only [F.cmp_object.ne.bind]
  refine wpAny_bind (wpAny_askSetting (wpAny_ite ?_))
  have fin : wpAny M A (call (.builtin "object.__ne__") ([.ref x] ++ args) >>= fun v => pure (some v)) Q E s := wpAny_bind (wpAny_mono h (fun v s' h' => wpAny_pure h') fun _ _ h' => h')
  split
  · exact wpAny_bind (wpAny_pure (wpAny_pure fin))
  · exact wpAny_tryCatch (wpAny_bind (wpAny_pure (wpAny_pure fin)))
theorem ne_own {Q : Value → Shared → Prop} (hu : A.units + 1 < cLine) (X : K.In s.heap) (I : PySem.W.InstAt s.heap x ox C od) (hb : PySem.W.Looks (model prog w) s.heap (typeOf b) tb) (hn : PySem.W.notFirst K C tb = true)
    (hne : PySem.W.findIn K (.ref C) "__ne__" = some (some (.builtin "object.__ne__"))) (hob : PySem.W.subIn K (.ref C) (.type "object") = some true)
    (hs : PySem.W.findIn K (.ref C) "__eq__" = some (some (.ref f))) (hf : PySem.W.isFn K (.ref f) = true)
    (h : wpAny (model prog w) A.in1 (call (.ref f) [.ref x, b]) (fun v s' => ∃ c, v = .bool c ∧ Q (.bool !c) s') E s) : wpAny (model prog w) A (richCompare .NotEq (.ref x) b) Q E s := by
  have one : wpAny (model prog w) A (tryCompare (.ref x) (cmpInfo .NotEq).2.1 b) (fun r s' => ∃ v, r = some v ∧ Q v s') E s := by
    show wpAny (model prog w) A (tryCompare (.ref x) "__ne__" b) _ E s
    unfold tryCompare
    refine wpAny_bind (ifBound_ne X I hne (wpAny_call (codeAny_call_builtin F.cmp_object.ne.plain F.cmpEntry_ne (PySem.W.check_slot F.cmpKind_ne F.cmpSplit_ne ?_ (F.cmpArgs_ne _ _) ?_))))
    · exact (I.type).andThen (PySem.W.looks_subIn X hob)
    · unfold Builtin.«object.__ne__»
      have hu' : A.in1.units < cLine := hu
      repeat (first | with_reducible refine wpAny_cRoomFor hu' ?_ | (with_reducible refine PySem.W.ifBound_K X I hs hf ?_; refine wpAny_mono h (fun v s' hv => ?_) (fun _ _ e => e); obtain ⟨c, rfl, hq⟩ := hv) | wp_step)
      exact ⟨_, rfl, by assumption⟩
  unfold richCompare
  simp only [oneThing_ref]
  refine wpAny_holding (wpAny_bind (wpAny_cRoomFor (by omega) ?_))
  refine wpAny_bind (I.type.here (wpAny_bind (hb.here ?_)))
  split
  · rename_i q
    have e : PySem.W.subIn K tb (.ref C) = some false := by
      rcases Bool.or_eq_true_iff.mp hn with e | e
      · rw [beq_iff_eq.mp e] at q; simp at q
      · exact beq_iff_eq.mp e
    refine wpAny_bind ((PySem.W.looks_subIn X e).here ?_)
    simp only [Bool.false_eq_true, if_false]
    refine wpAny_bind (wpAny_mono one (fun r s' z => ?_) fun _ _ e => e)
    obtain ⟨v, rfl, hq⟩ := z
    exact wpAny_pure hq
  · refine wpAny_bind (wpAny_pure ?_)
    simp only [Bool.false_eq_true, if_false]
    refine wpAny_bind (wpAny_mono one (fun r s' z => ?_) fun _ _ e => e)
    obtain ⟨v, rfl, hq⟩ := z
    exact wpAny_pure hq
end
/-- object's own __ne__, as the class at C has it -/
def neB (K : PySem.W.Frag) (C : Addr) : Bool := decide (PySem.W.findIn K (.ref C) "__ne__" = some (some (.builtin "object.__ne__")))
theorem neB_ok {K : PySem.W.Frag} {C : Addr} (h : neB K C = true) : PySem.W.findIn K (.ref C) "__ne__" = some (some (.builtin "object.__ne__")) := of_decide_eq_true h
section
variable {X : Cx}
/-- a != b by a's own __eq__ -/
def rNeO (K : PySem.W.Frag) (sp : Sp) (f : Addr) (E : XK) : R2 := fun x y H Q => ∃ (a C dx : Addr) (fs : List (Str × V)) (t : Value), x = .ref a ∧ H a = some (.ins C dx fs) ∧ TyX K H y t ∧ PySem.W.notFirst K C t = true ∧
  PySem.W.findIn K (.ref C) "__ne__" = some (some (.builtin "object.__ne__")) ∧ PySem.W.mroIn K C (.type "object") = some true ∧
  PySem.W.findIn K (.ref C) "__eq__" = some (some (.ref f)) ∧ PySem.W.isFn K (.ref f) = true ∧ sp [x, y] H (fun v H' => ∃ b, v = .bl b ∧ Q (.bl (!b)) H') E
theorem op_neO {CX : CXT} {k : Nat} {f : Addr} {fd : FuncData} {ps : List Str} {sp : Sp} {E : XK} (F : FnOk X.prog X.w X.K X.mg X.base CX k f fd ps sp) (hr : Room (k + 1) X.A) (hb : Binds X.K fd ps []) (hx : Passes CX X E) :
    OpR X (compareOp .NotEq) (rNeO X.K sp f E) := by
  intro pins s σ H x y v u Q I rx ry h
  obtain ⟨a, C, dx, fs, t, rfl, ha, ty, hn, hne, hob, hs, hf, hq⟩ := h
  obtain rfl : v = Value.ref a := rx
  obtain ⟨mA, J, _⟩ := ins_get I.hok ha
  obtain ⟨od, J, _⟩ := J.look
  obtain ⟨P, Z, p, hne2⟩ := kit_of I ry ty
  refine PySem.W.cmp_ofNotEq (ne_own (Nat.lt_of_le_of_lt (Nat.add_le_add_left (by decide) _) hr.units) I.kIn J (Z.ty _ _ I.kIn p) hn hne hob hs hf ?_)
  refine wpAny_mono (run_in1 (us := [.ref a, u]) (vs := [.ref a, y]) F hr hb hx I (.cons rfl (.cons ry .nil)) hq) (fun w s' hw => ?_) fun _ _ z => z
  obtain ⟨z, H', I', rz, b, ez, hq'⟩ := hw
  subst ez
  obtain rfl : w = Value.bool b := rz
  exact ⟨b, rfl, .bl (!b), H', I', rfl, hq'⟩
end
end Sb


set_option Elab.async false
set_option linter.all false
set_option maxRecDepth 100000
set_option maxHeartbeats 4000000
namespace Sb
open PySem PySem.Spec PyProof.Rows L2
def letB (c : Nat) : Bool := !decide ([c] < ("a" : Str).cps.toList) && !decide (("z" : Str).cps.toList < [c])
def wordB (z : Str) : Bool := decide (1 ≤ z.length) && decide (z.length ≤ 12) && z.cps.toList.all letB
def isW : V → Bool
  | .str z => wordB z
  | _ => false
/-- a thing that is_word may be asked about -/
def WT (K : PySem.W.Frag) (F : Hp) (x : V) : Prop := ∃ (t : Value) (b : Bool), TyX K F x t ∧ PySem.W.kitOne K t (.type "str") = some b ∧ (b = true → ∃ z : Str, x = .str z ∧ z.length ≤ 100000) ∧ (b = false → isW x = false)
theorem WT.up {K : PySem.W.Frag} {F F' : Hp} {x : V} (h : WT K F x) (g : Gr F F') : WT K F' x := by
  obtain ⟨t, b, h1, h2⟩ := h
  exact ⟨t, b, g.tyX h1, h2⟩
theorem WT.str {K : PySem.W.Frag} {F : Hp} {z : Str} (h : z.length ≤ 100000) : WT K F (.str z) := ⟨_, true, .base (.str z), kit_ty (by decide +kernel), fun _ => ⟨z, rfl, h⟩, fun e => by cases e⟩
def spIsWord (K : PySem.W.Frag) : Sp := fun vs H Q _ => ∃ (F : Hp) (L : List (Addr × HO)) (x : V), vs = [x] ∧ Sta F L H ∧ WT K F x ∧ ∀ H', Sta F L H' → Q (.bl (isW x)) H'
theorem all_map (f : Nat → Bool) (l : List Nat) : (l.map f).all id = l.all f := by rw [List.all_map]; rfl
/-- a tuple's items, words or not; as many as there may be; none twice -/
def areW (xs : List V) (m : Int) : Bool := decide ((xs.length : Int) ≤ m) && (xs.all isW && xs.all fun x => decide (xs.count x = 1))
/-- a thing that are_words may be asked about, and the answer -/
def AW (K : PySem.W.Frag) (F : Hp) (x : V) (m : Int) (r : Bool) : Prop := ∃ (t : Value) (b : Bool), TyX K F x t ∧ PySem.W.kitOne K t (.type "tuple") = some b ∧
  (b = false → r = false) ∧ (b = true → ∃ a xs, x = .ref a ∧ PT K F a xs ∧ xs.length ≤ 1000 ∧ (∀ y ∈ xs, WT K F y) ∧ r = areW xs m)
theorem AW.up {K : PySem.W.Frag} {F F' : Hp} {x : V} {m : Int} {r : Bool} (h : AW K F x m r) (g : Gr F F') : AW K F' x m r := by
  obtain ⟨t, b, h1, h2, h3, h4⟩ := h
  refine ⟨t, b, g.tyX h1, h2, h3, fun e => ?_⟩
  obtain ⟨a, xs, q1, q2, q3, q4, q5⟩ := h4 e
  exact ⟨a, xs, q1, q2.up g, q3, fun y hy => (q4 y hy).up g, q5⟩
def spAreWords (K : PySem.W.Frag) : Sp := fun vs H Q _ => ∃ (F : Hp) (L : List (Addr × HO)) (x : V) (m : Int) (r : Bool), vs = [x, .int m] ∧ Sta F L H ∧ AW K F x m r ∧ ∀ H', Sta F L H' → Q (.bl r) H'
theorem words_strs {xs : List V} (h : xs.all isW = true) : ∃ ws : List Str, xs = ws.map V.str := by
  induction xs with
  | nil => exact ⟨[], rfl⟩
  | cons x xs ih =>
    rw [List.all_cons, Bool.and_eq_true] at h
    obtain ⟨ws, rfl⟩ := ih h.2
    cases x with
    | str z => exact ⟨z :: ws, rfl⟩
    | _ => exact absurd h.1 (by simp [isW])
theorem count_str (z : Str) : ∀ (ws : List Str), (ws.map V.str).count (.str z) = ws.count z
  | [] => rfl
  | x :: ws => by
    rw [List.map_cons, List.count_cons, List.count_cons, count_str z ws]
    have e : (V.str x == V.str z) = (x == z) := by
      by_cases q : x = z
      · subst q; simp
      · have h1 : (x == z) = false := by simpa using q
        have h2 : (V.str x == V.str z) = false := by simpa using q
        rw [h1, h2]
    rw [e]
theorem take_map_all {α : Type} (f : α → Bool) (xs : List α) : (xs.map f).all id = xs.all f := by rw [List.all_map]; rfl
structure Lib where
  name : Str
  needs : List Str
  defs : List Str
  uses : List Str
  weak : List Str
  eager : Bool
  own : Bool
  deriving DecidableEq
abbrev sv (ws : List Str) : List V := ws.map V.str
def Lib.ok (l : Lib) : Bool := wordB l.name && (areW (sv l.needs) 12 && (!decide (l.name ∈ l.needs) && (areW (sv l.defs) 20 && (areW (sv l.uses) 20 && (areW (sv l.weak) 20 && (l.weak.all fun z => decide (z ∈ l.uses)))))))
abbrev libC (K : PySem.W.Frag) : Addr := He.ga K "Library"
def libFs (l : Lib) (a1 a2 a3 a4 : Addr) : List (Str × V) := [("name", .str l.name), ("needs", .ref a1), ("defines", .ref a2), ("uses", .ref a3), ("weak", .ref a4), ("eager", .bl l.eager), ("own_first", .bl l.own)]
/-- at a: the library l -/
structure LibAt (K : PySem.W.Frag) (F : Hp) (a : Addr) (l : Lib) : Prop where
  ok : l.ok = true
  at_ : ∃ dx a1 a2 a3 a4, F a = some (.ins (libC K) dx (libFs l a1 a2 a3 a4)) ∧ PT K F a1 (sv l.needs) ∧ PT K F a2 (sv l.defs) ∧ PT K F a3 (sv l.uses) ∧ PT K F a4 (sv l.weak)
theorem LibAt.up {K : PySem.W.Frag} {F F' : Hp} {a : Addr} {l : Lib} (h : LibAt K F a l) (g : Gr F F') : LibAt K F' a l := by
  obtain ⟨h0, dx, a1, a2, a3, a4, h1, h2, h3, h4, h5⟩ := h
  exact ⟨h0, dx, a1, a2, a3, a4, g _ _ h1, h2.up g, h3.up g, h4.up g, h5.up g⟩
theorem words_wt {K : PySem.W.Frag} {F : Hp} {ws : List Str} {m : Int} (h : areW (sv ws) m = true) : ∀ y ∈ sv ws, WT K F y := by
  intro y hy
  obtain ⟨z, hz, rfl⟩ := List.mem_map.mp hy
  unfold areW at h
  obtain ⟨_, h⟩ := and2 h
  obtain ⟨h, _⟩ := and2 h
  have hw : wordB z = true := List.all_eq_true.mp h _ hy
  unfold wordB at hw
  obtain ⟨hw, _⟩ := and2 hw
  obtain ⟨_, hw⟩ := and2 hw
  exact WT.str (by have := of_decide_eq_true hw; omega)
theorem aw_of {K : PySem.W.Frag} {F : Hp} {a : Addr} {ws : List Str} {m : Int} (hp : PT K F a (sv ws)) (h : areW (sv ws) m = true) (hm : m ≤ 1000) : AW K F (.ref a) m true := by
  refine ⟨_, true, ty_tup hp.sqT, kit_ty (by decide +kernel), (fun e => by cases e), fun _ => ⟨a, _, rfl, hp, ?_, words_wt h, h.symm⟩⟩
  unfold areW at h
  obtain ⟨h, _⟩ := and2 h
  have := of_decide_eq_true h
  omega
theorem wt_name {K : PySem.W.Frag} {F : Hp} {z : Str} (h : wordB z = true) : WT K F (.str z) := by
  unfold wordB at h
  obtain ⟨h, _⟩ := and2 h
  obtain ⟨_, h⟩ := and2 h
  exact WT.str (by have := of_decide_eq_true h; omega)
/-- Library.__init__ of valid values -/
def spLibInit (K : PySem.W.Frag) : Sp := fun vs H Q _ => ∃ (F : Hp) (L : List (Addr × HO)) (p dx a1 a2 a3 a4 : Addr) (l : Lib), vs = [.ref p, .str l.name, .ref a1, .ref a2, .ref a3, .ref a4, .bl l.eager, .bl l.own] ∧
  Sta F ((p, .ins (libC K) dx []) :: L) H ∧ l.ok = true ∧ PT K F a1 (sv l.needs) ∧ PT K F a2 (sv l.defs) ∧ PT K F a3 (sv l.uses) ∧ PT K F a4 (sv l.weak) ∧
  ∀ (F' H' : Hp), Gr F F' → LibAt K F' p l → Sta F' L H' → Q .non H'
abbrev storeC (K : PySem.W.Frag) : Addr := He.ga K "Store"
def stK (ls : List (Addr × Lib)) : List (Key × V) := ls.map fun p => ((Sum.inr p.2.name : Key), V.ref p.1)
abbrev stN (ls : List (Addr × Lib)) : List Str := ls.map fun p => p.2.name
/-- at a: a store of these libraries, in their order -/
structure StoreAt (K : PySem.W.Frag) (F : Hp) (a : Addr) (ls : List (Addr × Lib)) : Prop where
  at_ : ∃ dx td, F a = some (.ins (storeC K) dx [("_table", .ref td)]) ∧ F td = some (.dK (stK ls))
  libs : ∀ p ∈ ls, LibAt K F p.1 p.2
  nd : (stN ls).Nodup
  len : ls.length ≤ 40
theorem StoreAt.up {K : PySem.W.Frag} {F F' : Hp} {a : Addr} {ls : List (Addr × Lib)} (h : StoreAt K F a ls) (g : Gr F F') : StoreAt K F' a ls := by
  obtain ⟨⟨dx, td, h1, h2⟩, h3, h4, h5⟩ := h
  exact ⟨⟨dx, td, g _ _ h1, g _ _ h2⟩, fun p hp => (h3 p hp).up g, h4, h5⟩
theorem stK_val : ∀ (ls : List (Addr × Lib)) (z : Str), (valV (stK ls) (.inr z)).isSome = decide (z ∈ stN ls)
  | [], z => by simp [stK, valV, stN]
  | p :: ls, z => by
    have ih := stK_val ls z
    by_cases q : p.2.name = z
    · have e : valV (stK (p :: ls)) (.inr z) = some (.ref p.1) := valV_pos (p := ((Sum.inr p.2.name : Key), V.ref p.1)) (by rw [q])
      rw [e]
      simp [stN, q]
    · have e : valV (stK (p :: ls)) (.inr z) = valV (stK ls) (.inr z) := by
        have q' : ¬ ((Sum.inr p.2.name : Key) = Sum.inr z) := fun e => q (Sum.inr.inj e)
        simp [stK, valV, List.find?_cons, q']
      rw [e, ih]
      have q2 : z ≠ p.2.name := fun e => q e.symm
      simp [stN, q2]
theorem stK_put {ls : List (Addr × Lib)} {p : Addr × Lib} (h : p.2.name ∉ stN ls) : putK (stK ls) (.inr p.2.name) (.ref p.1) = stK (ls ++ [p]) := by
  unfold putK
  have e : ((stK ls).any fun kv => decide (kv.1 = (Sum.inr p.2.name : Key))) = false := by
    rw [List.any_eq_false]
    intro kv hkv
    obtain ⟨q, hq, rfl⟩ := List.mem_map.mp hkv
    simp only [decide_eq_true_eq]
    intro e
    exact h (List.mem_map.mpr ⟨q, hq, Sum.inr.inj e⟩)
  rw [if_neg (by rw [e]; decide)]
  unfold stK
  rw [List.map_append]
  rfl
theorem kit_self {K : PySem.W.Frag} {C : Addr} : PySem.W.kitOne K (.ref C) (.ref C) = some true := by
  have e : (Value.ref C == Value.ref C) = true := by simp
  unfold PySem.W.kitOne
  rw [if_pos e]
/-- an item of the list that a store is made of: a library, or something else -/
def ItemT (K : PySem.W.Frag) (F : Hp) (y : V) : Option (Addr × Lib) → Prop
  | some p => y = .ref p.1 ∧ LibAt K F p.1 p.2
  | none => ∃ t : Value, TyX K F y t ∧ PySem.W.kitOne K t (.ref (libC K)) = some false
theorem ItemT.up {K : PySem.W.Frag} {F F' : Hp} {y : V} {o : Option (Addr × Lib)} (h : ItemT K F y o) (g : Gr F F') : ItemT K F' y o := by
  cases o with
  | some p => exact ⟨h.1, h.2.up g⟩
  | none =>
    obtain ⟨t, h1, h2⟩ := h
    exact ⟨t, g.tyX h1, h2⟩
/-- the first place at which no store can be made -/
def dueS (seen : List Str) (at_ : Nat) : List (Option (Addr × Lib)) → Option Nat
  | [] => none
  | none :: _ => some at_
  | some p :: r => if at_ = 40 ∨ p.2.name ∈ seen then some at_ else dueS (seen ++ [p.2.name]) (at_ + 1) r
def spStoreInit (K : PySem.W.Frag) : Sp := fun vs H Q E => ∃ (F : Hp) (L : List (Addr × HO)) (p dx : Addr) (y : V), vs = [.ref p, y] ∧ Sta F ((p, .ins (storeC K) dx []) :: L) H ∧
  ((∃ t : Value, TyX K F y t ∧ PySem.W.kitOne K t (.type "list") = some false ∧ ∀ d F' H', Gr F F' → F' d = some (.xd [("at", .non)]) → Sta F' L H' → E (.ref (He.ga K "NoStore")) (some d) H') ∨
   ∃ (q : Addr) (xs : List V) (os : List (Option (Addr × Lib))), y = .ref q ∧ (∀ F' H', Gr F F' → Sta F' L H' → SqL K H' q xs ∧ TyX K H' (.ref q) (.type "list")) ∧ xs.length = os.length ∧ (∀ (i : Nat) (x : V) (o : Option (Addr × Lib)), xs[i]? = some x → os[i]? = some o → ItemT K F x o) ∧
    (∀ k : Nat, dueS [] 0 os = some k → ∀ d F' H', Gr F F' → F' d = some (.xd [("at", .int (k : Int))]) → Sta F' L H' → E (.ref (He.ga K "NoStore")) (some d) H') ∧
    (dueS [] 0 os = none → ∀ F' H', Gr F F' → StoreAt K F' p (os.filterMap id) → Sta F' L H' → Q .non H'))
/-- x in a store of ls: the answer -/
def InT (K : PySem.W.Frag) (F : Hp) (ls : List (Addr × Lib)) (x : V) (r : Bool) : Prop := ∃ (t : Value) (b : Bool), TyX K F x t ∧ PySem.W.kitOne K t (.type "str") = some b ∧ (b = true → ∃ z, x = .str z ∧ r = decide (z ∈ stN ls)) ∧ (b = false → r = false)
theorem InT.str {K : PySem.W.Frag} {F : Hp} {ls : List (Addr × Lib)} (z : Str) : InT K F ls (.str z) (decide (z ∈ stN ls)) := ⟨_, true, .base (.str z), kit_ty (by decide +kernel), fun _ => ⟨z, rfl, rfl⟩, fun e => by cases e⟩
theorem InT.no {K : PySem.W.Frag} {F : Hp} {ls : List (Addr × Lib)} {x : V} {n : String} (h : TyX K F x (.type n)) (hk : PySem.W.kitOne K (.type n) (.type "str") = some false) : InT K F ls x false := ⟨_, false, h, hk, (fun e => by cases e), fun _ => rfl⟩
theorem InT.up {K : PySem.W.Frag} {F F' : Hp} {ls : List (Addr × Lib)} {x : V} {r : Bool} (h : InT K F ls x r) (g : Gr F F') : InT K F' ls x r := by
  obtain ⟨t, b, h1, h2, h3, h4⟩ := h
  exact ⟨t, b, g.tyX h1, h2, h3, h4⟩
def spStoreIn (K : PySem.W.Frag) : Sp := fun vs H Q _ => ∃ (F : Hp) (L : List (Addr × HO)) (a : Addr) (ls : List (Addr × Lib)) (x : V) (r : Bool), vs = [.ref a, x] ∧ Sta F L H ∧ StoreAt K F a ls ∧ InT K F ls x r ∧ ∀ H', Sta F L H' → Q (.bl r) H'
def spStoreGet (K : PySem.W.Frag) : Sp := fun vs H Q E => ∃ (F : Hp) (L : List (Addr × HO)) (a : Addr) (ls : List (Addr × Lib)) (x : V) (r : Bool), vs = [.ref a, x] ∧ Sta F L H ∧ StoreAt K F a ls ∧ InT K F ls x r ∧
  (r = false → ∀ d F' H', Gr F F' → F' d = some (.xd [("name", x)]) → Sta F' L H' → E (.ref (He.ga K "NoName")) (some d) H') ∧
  (∀ p, p ∈ ls → x = .str p.2.name → ∀ H', Sta F L H' → Q (.ref p.1) H')
theorem stK_get : ∀ {ls : List (Addr × Lib)} {z : Str}, z ∈ stN ls → ∃ p ∈ ls, p.2.name = z ∧ valV (stK ls) (.inr z) = some (.ref p.1)
  | [], z, h => by cases h
  | p :: ls, z, h => by
    by_cases q : p.2.name = z
    · exact ⟨p, List.mem_cons_self, q, valV_pos (p := ((Sum.inr p.2.name : Key), V.ref p.1)) (by rw [q])⟩
    · have h2 : z ∈ stN ls := by
        rcases List.mem_cons.mp h with h | h
        · exact absurd h.symm q
        · exact h
      obtain ⟨r, hr, e1, e2⟩ := stK_get h2
      refine ⟨r, List.mem_cons_of_mem _ hr, e1, ?_⟩
      have q' : ¬ ((Sum.inr p.2.name : Key) = Sum.inr z) := fun e => q (Sum.inr.inj e)
      have e : valV (stK (p :: ls)) (.inr z) = valV (stK ls) (.inr z) := by simp [stK, valV, List.find?_cons, q']
      rw [e, e2]
def spStoreLen (K : PySem.W.Frag) : Sp := fun vs H Q _ => ∃ (F : Hp) (L : List (Addr × HO)) (a : Addr) (ls : List (Addr × Lib)), vs = [.ref a] ∧ Sta F L H ∧ StoreAt K F a ls ∧ ∀ H', Sta F L H' → Q (.int (ls.length : Nat)) H'
def spNames (K : PySem.W.Frag) : Sp := fun vs H Q _ => ∃ (F : Hp) (L : List (Addr × HO)) (a : Addr) (ls : List (Addr × Lib)), vs = [.ref a] ∧ Sta F L H ∧ StoreAt K F a ls ∧
  ∀ (p : Addr) (ws : List Str) (H' : Hp), ws.Perm (stN ls) → PyProof.Rows.sortedS ws = true → Sta F ((p, .lst (ws.map V.str)) :: L) H' → Q (.ref p) H'
end Sb


set_option Elab.async false
set_option linter.all false
set_option maxRecDepth 100000
set_option maxHeartbeats 4000000
namespace Mf
open PySem PySem.Spec PyProof.Rows L2 Sb
/-! ### trees: values that never change -/
inductive T where
  | non | bl (b : Bool) | int (i : Int) | str (x : Str)
  | scr (ns : List Int) | lst (xs : List T) | tup (xs : List T) | dic (kvs : List (Key × T)) | dct (kvs : List (List Key × T))
  | lib (l : Lib) | sto (ls : List Lib)
  deriving Inhabited
mutual
/-- v is the tree, in what never changes -/
def RT (K : PySem.W.Frag) (F : Hp) : T → V → Prop
  | .non, v => v = .non
  | .bl b, v => v = .bl b
  | .int i, v => v = .int i
  | .str x, v => v = .str x
  | .scr ns, v => ∃ p, v = .ref p ∧ SqL K F p (ns.map V.int)
  | .lst xs, v => ∃ p vs, v = .ref p ∧ F p = some (.lst vs) ∧ RTs K F xs vs
  | .tup xs, v => ∃ p vs, v = .ref p ∧ PT K F p vs ∧ RTs K F xs vs
  | .dic kvs, v => ∃ p o us, v = .ref p ∧ F p = some (.frz o (.dK us)) ∧ RTk K F kvs us
  | .dct kvs, v => ∃ p o us, v = .ref p ∧ F p = some (.frz o (.dT us)) ∧ RTt K F kvs us
  | .lib l, v => ∃ a, v = .ref a ∧ LibAt K F a l
  | .sto ls, v => ∃ a als, v = .ref a ∧ StoreAt K F a als ∧ als.map (·.2) = ls
def RTs (K : PySem.W.Frag) (F : Hp) : List T → List V → Prop
  | [], vs => vs = []
  | x :: xs, vs => ∃ v ws, vs = v :: ws ∧ RT K F x v ∧ RTs K F xs ws
def RTk (K : PySem.W.Frag) (F : Hp) : List (Key × T) → List (Key × V) → Prop
  | [], us => us = []
  | (k, x) :: xs, us => ∃ v ws, us = (k, v) :: ws ∧ RT K F x v ∧ RTk K F xs ws
def RTt (K : PySem.W.Frag) (F : Hp) : List (List Key × T) → List (List Key × V) → Prop
  | [], us => us = []
  | (k, x) :: xs, us => ∃ v ws, us = (k, v) :: ws ∧ RT K F x v ∧ RTt K F xs ws
end
variable {K : PySem.W.Frag} {F F' : Hp}
mutual
theorem RT.up (g : Gr F F') : ∀ (t : T) (v : V), RT K F t v → RT K F' t v
  | .non, v, h => h
  | .bl b, v, h => h
  | .int i, v, h => h
  | .str x, v, h => h
  | .scr ns, v, ⟨p, e, h1⟩ => ⟨p, e, g.sqL h1⟩
  | .lst xs, v, ⟨p, vs, e, h1, h2⟩ => ⟨p, vs, e, g _ _ h1, RTs.up g xs vs h2⟩
  | .tup xs, v, ⟨p, vs, e, h1, h2⟩ => ⟨p, vs, e, h1.up g, RTs.up g xs vs h2⟩
  | .dic kvs, v, ⟨p, o, us, e, h1, h2⟩ => ⟨p, o, us, e, g _ _ h1, RTk.up g kvs us h2⟩
  | .dct kvs, v, ⟨p, o, us, e, h1, h2⟩ => ⟨p, o, us, e, g _ _ h1, RTt.up g kvs us h2⟩
  | .lib l, v, ⟨a, e, h⟩ => ⟨a, e, h.up g⟩
  | .sto ls, v, ⟨a, als, e, h1, h2⟩ => ⟨a, als, e, h1.up g, h2⟩
theorem RTs.up (g : Gr F F') : ∀ (xs : List T) (vs : List V), RTs K F xs vs → RTs K F' xs vs
  | [], _, h => h
  | x :: xs, _, ⟨v, ws, e, h1, h2⟩ => ⟨v, ws, e, RT.up g x v h1, RTs.up g xs ws h2⟩
theorem RTk.up (g : Gr F F') : ∀ (xs : List (Key × T)) (vs : List (Key × V)), RTk K F xs vs → RTk K F' xs vs
  | [], _, h => h
  | (k, x) :: xs, _, ⟨v, ws, e, h1, h2⟩ => ⟨v, ws, e, RT.up g x v h1, RTk.up g xs ws h2⟩
theorem RTt.up (g : Gr F F') : ∀ (xs : List (List Key × T)) (vs : List (List Key × V)), RTt K F xs vs → RTt K F' xs vs
  | [], _, h => h
  | (k, x) :: xs, _, ⟨v, ws, e, h1, h2⟩ => ⟨v, ws, e, RT.up g x v h1, RTt.up g xs ws h2⟩
end
end Mf


set_option Elab.async false
set_option linter.all false
set_option maxRecDepth 100000
set_option maxHeartbeats 4000000
namespace Mf
open PySem PySem.Spec PyProof.Rows L2 Sb
/-! ### the state of a run: slots, and the objects that may change -/
inductive Obj where
  | lst (xs : List T) | dic (kvs : List (Key × T)) | dct (kvs : List (List Key × T)) | frz (t : T) | gone
  deriving Inhabited
inductive SV where
  | un | t (t : T) | o (i : Nat)
  deriving Inhabited
abbrev Cells := List (Addr × HO)
structure St where
  sl : List SV
  g : List Obj
/-- what an expression gives: a value, or a new thing that nothing else holds -/
inductive RZ where
  | v (x : SV) | n (o : Obj)
/-- how a piece of code ends -/
inductive O (α : Type) where
  | ok (a : α) (g : List Obj) | er (c : Str) (t : T) (g : List Obj)
abbrev M (α : Type) := St → Option (O α)
def M.ret {α : Type} (a : α) : M α := fun s => some (.ok a s.g)
def M.bind {α β : Type} (m : M α) (k : α → M β) : M β := fun s => match m s with
  | none => none
  | some (.er c t g) => some (.er c t g)
  | some (.ok a g) => k a ⟨s.sl, g⟩
def RO (K : PySem.W.Frag) (F : Hp) : Obj → Addr → Cells → Prop
  | .lst xs, a, c => ∃ vs, c = [(a, .lst vs)] ∧ RTs K F xs vs
  | .dic xs, a, c => ∃ vs, c = [(a, .dK vs)] ∧ RTk K F xs vs
  | .dct xs, a, c => ∃ vs, c = [(a, .dT vs)] ∧ RTt K F xs vs
  | .frz t, a, c => c = [] ∧ RT K F t (.ref a)
  | .gone, a, c => c = []
variable {K : PySem.W.Frag} {F F' F2 : Hp} {g g' : List Obj} {ad ad' : Nat → Addr} {L L' : Cells} {H H' : Hp} {σ : L2.St}
theorem RO.up (gr : Gr F F') : ∀ {o : Obj} {a : Addr} {c : Cells}, RO K F o a c → RO K F' o a c
  | .lst _, _, _, ⟨vs, e, h⟩ => ⟨vs, e, RTs.up gr _ _ h⟩
  | .dic _, _, _, ⟨vs, e, h⟩ => ⟨vs, e, RTk.up gr _ _ h⟩
  | .dct _, _, _, ⟨vs, e, h⟩ => ⟨vs, e, RTt.up gr _ _ h⟩
  | .frz _, _, _, ⟨e, h⟩ => ⟨e, RT.up gr _ _ h⟩
  | .gone, _, _, h => h
def RSV (K : PySem.W.Frag) (F : Hp) (n : Nat) (ad : Nat → Addr) : SV → V → Prop
  | .un, _ => False
  | .t t, v => RT K F t v
  | .o i, v => i < n ∧ v = .ref (ad i)
def Ag (n : Nat) (ad ad' : Nat → Addr) : Prop := ∀ i, i < n → ad' i = ad i
theorem Ag.refl (n : Nat) (ad : Nat → Addr) : Ag n ad ad := fun _ _ => rfl
theorem Ag.trans {n m : Nat} {a b c : Nat → Addr} (h : Ag n a b) (h2 : Ag m b c) (le : n ≤ m) : Ag n a c := fun i hi => (h2 i (Nat.lt_of_lt_of_le hi le)).trans (h i hi)
theorem RSV.up {n m : Nat} (gr : Gr F F') (ag : Ag n ad ad') (le : n ≤ m) : ∀ {x : SV} {v : V}, RSV K F n ad x v → RSV K F' m ad' x v
  | .un, _, h => h
  | .t _, _, h => RT.up gr _ _ h
  | .o i, _, ⟨h, e⟩ => ⟨Nat.lt_of_lt_of_le h le, by rw [ag i h]; exact e⟩
def RSl (K : PySem.W.Frag) (F : Hp) (n : Nat) (ad : Nat → Addr) : List SV → L2.St → Prop
  | [], σ => σ = []
  | .un :: xs, σ => ∃ v ws, σ = v :: ws ∧ RSl K F n ad xs ws
  | x :: xs, σ => ∃ v ws, σ = some v :: ws ∧ RSV K F n ad x v ∧ RSl K F n ad xs ws
/-- the things that may change, and the rest L of what is owned -/
def RG (K : PySem.W.Frag) (g : List Obj) (F : Hp) (ad : Nat → Addr) (L : Cells) (H : Hp) : Prop :=
  ∃ co : Nat → Cells, (∀ i o, g[i]? = some o → RO K F o (ad i) (co i)) ∧ Sta F ((List.range g.length).flatMap co ++ L) H
/-- what came of it: the heap has grown -/
structure Nx (g : List Obj) (F : Hp) (ad : Nat → Addr) (g' : List Obj) (F' : Hp) (ad' : Nat → Addr) : Prop where
  gr : Gr F F'
  ag : Ag g.length ad ad'
  le : g.length ≤ g'.length
theorem Nx.refl : Nx g F ad g F ad := ⟨Gr.refl _, Ag.refl _ _, Nat.le_refl _⟩
theorem Nx.trans {g2 : List Obj} {ad2 : Nat → Addr} (a : Nx g F ad g' F' ad') (b : Nx g' F' ad' g2 F2 ad2) : Nx g F ad g2 F2 ad2 :=
  ⟨a.gr.trans b.gr, a.ag.trans b.ag a.le, Nat.le_trans a.le b.le⟩
theorem RSV.nx (n : Nx g F ad g' F' ad') {x : SV} {v : V} (h : RSV K F g.length ad x v) : RSV K F' g'.length ad' x v := h.up n.gr n.ag n.le
theorem RSl.up {n m : Nat} (gr : Gr F F') (ag : Ag n ad ad') (le : n ≤ m) : ∀ {xs : List SV} {σ : L2.St}, RSl K F n ad xs σ → RSl K F' m ad' xs σ
  | [], _, h => h
  | .un :: xs, _, ⟨v, ws, e, h⟩ => ⟨v, ws, e, RSl.up gr ag le h⟩
  | .t _ :: xs, _, ⟨v, ws, e, h, h2⟩ => ⟨v, ws, e, RSV.up gr ag le (x := .t _) h, RSl.up gr ag le h2⟩
  | .o _ :: xs, _, ⟨v, ws, e, h, h2⟩ => ⟨v, ws, e, RSV.up gr ag le (x := .o _) h, RSl.up gr ag le h2⟩
theorem RSl.nx (n : Nx g F ad g' F' ad') {xs : List SV} (h : RSl K F g.length ad xs σ) : RSl K F' g'.length ad' xs σ := h.up n.gr n.ag n.le
theorem RSl.get {n : Nat} : ∀ {xs : List SV} {σ : L2.St} {i : Nat} {x : SV}, RSl K F n ad xs σ → xs[i]? = some x → x ≠ .un → ∃ v, σ[i]? = some (some v) ∧ RSV K F n ad x v
  | [], _, i, x, _, e, _ => by simp at e
  | y :: xs, σ, 0, x, h, e, ne => by
    simp at e
    subst e
    cases y with
    | un => exact absurd rfl ne
    | t t => obtain ⟨v, ws, rfl, h, _⟩ := h; exact ⟨v, rfl, h⟩
    | o i => obtain ⟨v, ws, rfl, h, _⟩ := h; exact ⟨v, rfl, h⟩
  | y :: xs, σ, i + 1, x, h, e, ne => by
    have e : xs[i]? = some x := by simpa using e
    cases y with
    | un =>
      obtain ⟨v, ws, rfl, h⟩ := h
      simpa using RSl.get h e ne
    | t t =>
      obtain ⟨v, ws, rfl, _, h⟩ := h
      simpa using RSl.get h e ne
    | o j =>
      obtain ⟨v, ws, rfl, _, h⟩ := h
      simpa using RSl.get h e ne
theorem RSl.len {n : Nat} : ∀ {xs : List SV} {σ : L2.St}, RSl K F n ad xs σ → σ.length = xs.length
  | [], _, h => by subst h; rfl
  | .un :: xs, _, ⟨v, ws, e, h⟩ => by subst e; simp [RSl.len h]
  | .t _ :: xs, _, ⟨v, ws, e, _, h⟩ => by subst e; simp [RSl.len h]
  | .o _ :: xs, _, ⟨v, ws, e, _, h⟩ => by subst e; simp [RSl.len h]
theorem RSl.cons {n : Nat} {x : SV} {xs : List SV} {v : Option V} {ws : L2.St} (h : x = .un ∨ ∃ u, v = some u ∧ RSV K F n ad x u) (h2 : RSl K F n ad xs ws) : RSl K F n ad (x :: xs) (v :: ws) := by
  cases x with
  | un => exact ⟨v, ws, rfl, h2⟩
  | t t =>
    rcases h with h | ⟨u, rfl, h⟩
    · cases h
    · exact ⟨u, ws, rfl, h, h2⟩
  | o i =>
    rcases h with h | ⟨u, rfl, h⟩
    · cases h
    · exact ⟨u, ws, rfl, h, h2⟩
theorem RSl.uncons {n : Nat} {x : SV} {xs : List SV} {σ : L2.St} (h : RSl K F n ad (x :: xs) σ) : ∃ v ws, σ = v :: ws ∧ (x = .un ∨ ∃ u, v = some u ∧ RSV K F n ad x u) ∧ RSl K F n ad xs ws := by
  cases x with
  | un => obtain ⟨v, ws, e, h⟩ := h; exact ⟨v, ws, e, .inl rfl, h⟩
  | t t => obtain ⟨v, ws, e, h, h2⟩ := h; exact ⟨_, ws, e, .inr ⟨v, rfl, h⟩, h2⟩
  | o t => obtain ⟨v, ws, e, h, h2⟩ := h; exact ⟨_, ws, e, .inr ⟨v, rfl, h⟩, h2⟩
/-- a slot is set -/
theorem RSl.set {n : Nat} {x : SV} {v : V} (hv : RSV K F n ad x v) : ∀ {xs : List SV} {σ : L2.St} (i : Nat), RSl K F n ad xs σ → RSl K F n ad (xs.set i x) (σ.set i (some v))
  | [], σ, i, h => by
    have e : σ = [] := h
    subst e
    exact (rfl : RSl K F n ad [] [])
  | y :: xs, σ, 0, h => by
    obtain ⟨u, ws, rfl, _, h2⟩ := h.uncons
    exact RSl.cons (.inr ⟨v, rfl, hv⟩) h2
  | y :: xs, σ, i + 1, h => by
    obtain ⟨u, ws, rfl, h1, h2⟩ := h.uncons
    exact RSl.cons h1 (RSl.set hv i h2)
/-- a slot is forgotten -/
theorem RSl.clr {n : Nat} (v : Option V) : ∀ {xs : List SV} {σ : L2.St} (i : Nat), RSl K F n ad xs σ → RSl K F n ad (xs.set i .un) (σ.set i v)
  | [], σ, i, h => by
    have e : σ = [] := h
    subst e
    exact (rfl : RSl K F n ad [] [])
  | y :: xs, σ, 0, h => by
    obtain ⟨u, ws, rfl, _, h2⟩ := h.uncons
    exact RSl.cons (.inl rfl) h2
  | y :: xs, σ, i + 1, h => by
    obtain ⟨u, ws, rfl, h1, h2⟩ := h.uncons
    exact RSl.cons h1 (RSl.clr v i h2)
/-! ### the things that may change -/
theorem RG.gr (h : RG K g F ad L H) : Gr F H := by
  obtain ⟨co, _, S⟩ := h
  exact S.fr
theorem range_split {n i : Nat} (h : i < n) : ((List.range n).Perm (i :: (List.range n).filter fun j => decide (j ≠ i))) := by
  have nd : (List.range n).Nodup := List.nodup_range
  have hm : i ∈ List.range n := List.mem_range.mpr h
  have e : ∀ l : List Nat, l.Nodup → i ∈ l → l.Perm (i :: l.filter fun j => decide (j ≠ i)) := by
    intro l
    induction l with
    | nil => intro _ h; cases h
    | cons a l ih =>
      intro nd hm
      obtain ⟨h1, h2⟩ := List.nodup_cons.mp nd
      by_cases q : a = i
      · subst q
        have e : (a :: l).filter (fun j => decide (j ≠ a)) = l := by
          rw [List.filter_cons_of_neg (by simp)]
          refine List.filter_eq_self.mpr fun b hb => ?_
          have : b ≠ a := fun e => h1 (e ▸ hb)
          simpa using this
        rw [e]
      · have hm : i ∈ l := by
          rcases List.mem_cons.mp hm with h | h
          · exact absurd h.symm q
          · exact h
        rw [List.filter_cons_of_pos (by simpa using q)]
        exact ((ih h2 hm).cons a).trans (List.Perm.swap ..)
  exact e _ nd hm
theorem flatMap_perm {α β : Type} {f : α → List β} {l l' : List α} (h : l.Perm l') : (l.flatMap f).Perm (l'.flatMap f) := h.flatMap_right f
theorem flatMap_cong {α β : Type} {f f' : α → List β} : ∀ {l : List α}, (∀ x ∈ l, f x = f' x) → l.flatMap f = l.flatMap f'
  | [], _ => rfl
  | a :: l, h => by
    rw [List.flatMap_cons, List.flatMap_cons, h a List.mem_cons_self, flatMap_cong fun x hx => h x (List.mem_cons_of_mem _ hx)]
/-- one thing taken out: what stands there, and how it is put back -/
theorem RG.focus (h : RG K g F ad L H) {i : Nat} {o : Obj} (hi : g[i]? = some o) : ∃ (c R : Cells), RO K F o (ad i) c ∧ Sta F (c ++ R) H ∧
    ∀ (F' : Hp) (o' : Obj) (c' : Cells) (H' : Hp), Gr F F' → RO K F' o' (ad i) c' → Sta F' (c' ++ R) H' → RG K (g.set i o') F' ad L H' := by
  obtain ⟨co, h1, S⟩ := h
  have hlt : i < g.length := by
    obtain ⟨h, _⟩ := List.getElem?_eq_some_iff.mp hi
    exact h
  have hp := range_split hlt
  have e1 : ((List.range g.length).flatMap co ++ L).Perm (co i ++ (((List.range g.length).filter fun j => decide (j ≠ i)).flatMap co ++ L)) := by
    have q := (flatMap_perm (f := co) hp).append_right L
    rw [List.flatMap_cons, List.append_assoc] at q
    exact q
  refine ⟨co i, _, h1 i o hi, S.perm e1.symm, fun F' o' c' H' gr r S' => ?_⟩
  refine ⟨fun j => if j = i then c' else co j, fun j u hj => ?_, ?_⟩
  · by_cases q : j = i
    · subst q
      rw [List.getElem?_set_self hlt] at hj
      cases hj
      show RO K F' o' (ad j) (if j = j then c' else co j)
      rw [if_pos rfl]
      exact r
    · rw [List.getElem?_set_ne (Ne.symm q)] at hj
      show RO K F' u (ad j) (if j = i then c' else co j)
      rw [if_neg q]
      exact (h1 j u hj).up gr
  · rw [List.length_set]
    have q := (flatMap_perm (f := fun j => if j = i then c' else co j) hp).append_right L
    rw [List.flatMap_cons, List.append_assoc, if_pos rfl] at q
    have e2 : ((List.range g.length).filter fun j => decide (j ≠ i)).flatMap (fun j => if j = i then c' else co j) = ((List.range g.length).filter fun j => decide (j ≠ i)).flatMap co :=
      flatMap_cong fun j hj => by
        have : j ≠ i := by simpa using (List.mem_filter.mp hj).2
        rw [if_neg this]
    rw [e2] at q
    exact S'.perm q
theorem RG.mono (h : RG K g F ad L H) (f : ∀ co : Cells, Sta F (co ++ L) H → Gr F F' ∧ Sta F' (co ++ L') H') : RG K g F' ad L' H' := by
  obtain ⟨co, h1, S⟩ := h
  obtain ⟨gr, S'⟩ := f _ S
  exact ⟨co, fun i o e => (h1 i o e).up gr, S'⟩
/-- a new thing, owned -/
theorem RG.new (h : RG K g F ad L H) {p : Addr} (hp : H p = none) (o : HO) : RG K g F ad ((p, o) :: L) (upd H p o) :=
  h.mono fun co S => ⟨Gr.refl _, (S.newL hp o).perm List.perm_middle⟩
/-- a new thing, forgotten -/
theorem RG.newX (h : RG K g F ad L H) {p : Addr} (hp : H p = none) (o : HO) : RG K g F ad L (upd H p o) := h.mono fun co S => ⟨Gr.refl _, S.newX hp o⟩
/-- a new thing that never changes -/
theorem RG.newF (h : RG K g F ad L H) {p : Addr} (hp : H p = none) (o : HO) : ∃ F', Gr F F' ∧ Has F' p o ∧ RG K g F' ad L (upd H p o) := by
  have hF : F p = none := by
    obtain ⟨co, _, S⟩ := h
    exact S.noF hp
  exact ⟨upd F p o, Gr.new hF, ⟨upd_same⟩, h.mono fun co S => ⟨Gr.new hF, S.newF hp o⟩⟩
theorem RG.newT (h : RG K g F ad L H) {p : Addr} {o : PySem.Obj} {xs : List V} (hp : H p = none) (hc : o.cls = .type "tuple") (hd : o.dict = none) :
    ∃ F', Gr F F' ∧ PT K F' p xs ∧ RG K g F' ad L (upd H p (.frz o (.tup xs))) := by
  obtain ⟨F', gr, hh, r⟩ := h.newF hp (.frz o (.tup xs))
  exact ⟨F', gr, .inl ⟨o, hh.1, hc, hd⟩, r⟩
/-- the first owned cell is let go: it never changes again; it is forgotten; it changes -/
theorem RG.frz {p : Addr} {o : HO} (h : RG K g F ad ((p, o) :: L) H) : ∃ F', Gr F F' ∧ Has F' p o ∧ RG K g F' ad L H := by
  have hF : F p = none := by
    obtain ⟨co, _, S⟩ := h
    exact (S.own p o (List.mem_append_right _ List.mem_cons_self)).2
  exact ⟨upd F p o, Gr.new hF, ⟨upd_same⟩, h.mono fun co S => ⟨Gr.new hF, (S.perm List.perm_middle.symm).freeze⟩⟩
theorem RG.tl {x : Addr × HO} (h : RG K g F ad (x :: L) H) : RG K g F ad L H := h.mono fun co S => ⟨Gr.refl _, Sta.tl (a := x.1) (o := x.2) (S.perm List.perm_middle.symm)⟩
theorem RG.hd {p : Addr} {o : HO} (h : RG K g F ad ((p, o) :: L) H) : H p = some o := by
  obtain ⟨co, _, S⟩ := h
  exact S.l (List.mem_append_right _ List.mem_cons_self)
theorem RG.setL {p : Addr} {o : HO} (h : RG K g F ad ((p, o) :: L) H) (u : HO) : RG K g F ad ((p, u) :: L) (upd H p u) :=
  h.mono fun co S => ⟨Gr.refl _, ((S.perm List.perm_middle.symm).set u).perm List.perm_middle⟩
theorem RG.permL (h : RG K g F ad L H) (e : L'.Perm L) : RG K g F ad L' H := h.mono fun co S => ⟨Gr.refl _, S.perm (e.append_left co)⟩
/-- an owned thing becomes one of the things that may change -/
theorem RG.push {o : Obj} {p : Addr} {c : Cells} (h : RG K g F ad (c ++ L) H) (r : RO K F o p c) : ∃ ad', Ag g.length ad ad' ∧ ad' g.length = p ∧ RG K (g ++ [o]) F ad' L H := by
  obtain ⟨co, h1, S⟩ := h
  refine ⟨fun j => if j < g.length then ad j else p, fun i hi => by simp [hi], by simp, fun j => if j < g.length then co j else c, fun i u e => ?_, ?_⟩
  · by_cases q : i < g.length
    · simp only [q, if_true]
      rw [List.getElem?_append_left q] at e
      exact h1 i u e
    · simp only [q, if_false]
      rw [List.getElem?_append_right (by omega)] at e
      have e0 : i - g.length = 0 := by
        cases z : i - g.length with
        | zero => rfl
        | succ k => rw [z] at e; simp at e
      rw [e0] at e
      cases e
      exact r
  · rw [List.length_append, List.length_singleton, List.range_succ, List.flatMap_append]
    have e1 : (List.range g.length).flatMap (fun j => if j < g.length then co j else c) = (List.range g.length).flatMap co := flatMap_cong fun x hx => by
      rw [if_pos (List.mem_range.mp hx)]
    have e2 : [g.length].flatMap (fun j => if j < g.length then co j else c) = c := by simp
    rw [e1, e2, List.append_assoc]
    exact S
/-- the things from n on are forgotten -/
theorem RG.cut (h : RG K g F ad L H) (n : Nat) : RG K (g.take n) F ad L H := by
  obtain ⟨co, h1, S⟩ := h
  refine ⟨co, fun i o e => ?_, ?_⟩
  · by_cases q : i < n
    · rw [List.getElem?_take_of_lt q] at e
      exact h1 i o e
    · rw [List.getElem?_take_eq_none (by omega)] at e
      cases e
  · have e : g.length = min n g.length + (g.length - min n g.length) := by omega
    rw [List.length_take]
    rw [e, List.range_add, List.flatMap_append, List.append_assoc] at S
    have p : ∀ {A B C : Cells}, Sta F (A ++ (B ++ C)) H → Sta F (A ++ C) H := fun {A B C} S => by
      have S2 : Sta F (B ++ (A ++ C)) H := S.perm (by
        rw [← List.append_assoc, ← List.append_assoc]
        exact List.perm_append_comm.append_right C)
      clear S
      induction B with
      | nil => exact S2
      | cons x B ih => exact ih (Sta.tl (a := x.1) (o := x.2) S2)
    exact p S
end Mf


set_option Elab.async false
set_option linter.all false
set_option maxRecDepth 100000
set_option maxHeartbeats 4000000
namespace Mf
open PySem PySem.Spec PyProof.Rows L2 Sb
variable {K : PySem.W.Frag} {F F' F2 : Hp} {g g' : List Obj} {ad ad' : Nat → Addr} {L L' : Cells} {H H' : Hp} {σ : L2.St}
/-- the field of an own error -/
def fieldOf (c : Str) : Str :=
  if c = "NoLibrary" then "part" else if c = "NoStore" then "at" else if c = "NoName" then "name" else if c = "Missing" then "name" else if c = "NoSymbol" then "symbol" else if c = "NoPreloads" then "at"
  else if c = "NotLoaded" then "name" else if c = "NotUsed" then "symbol" else if c = "Unresolved" then "use" else if c = "NoHandle" then "handle" else "symbol"
abbrev Rel (α β : Type) := Cells → List Obj → Hp → (Nat → Addr) → α → β → Hp → Prop
/-- what is wanted of an outcome -/
def PO {α β : Type} (K : PySem.W.Frag) (g : List Obj) (F : Hp) (ad : Nat → Addr) (L : Cells) (R : Rel α β) (Q : β → Hp → Prop) (E : XK) : O α → Prop
  | .ok a g' => ∀ b F' ad' H', Nx g F ad g' F' ad' → R L g' F' ad' a b H' → Q b H'
  | .er c t g' => ∀ d v F' ad' H', Nx g F ad g' F' ad' → RG K g' F' ad' L H' → RT K F' t v → F' d = some (.xd [(fieldOf c, v)]) → E (.ref (He.ga K c)) (some d) H'
theorem PO.nx {α β : Type} {R : Rel α β} {Q : β → Hp → Prop} {E : XK} (n : Nx g F ad g' F' ad') : ∀ {r : O α}, PO K g F ad L R Q E r → PO K g' F' ad' L R Q E r
  | .ok _ _, h => fun b F2 ad2 H2 n2 hr => h b F2 ad2 H2 (n.trans n2) hr
  | .er _ _ _, h => fun d v F2 ad2 H2 n2 hr => h d v F2 ad2 H2 (n.trans n2) hr
/-- a reading keeps what the mirror says -/
def JJ {α β : Type} (K : PySem.W.Frag) (E : XK) (R : Rel α β) (t : L2.St → Hp → (β → Hp → Prop) → Prop) (f : M α) : Prop :=
  ∀ (sl : List SV) (g : List Obj) (F : Hp) (ad : Nat → Addr) (L : Cells) (σ : L2.St) (H : Hp) (Q : β → Hp → Prop) (r : O α), RSl K F g.length ad sl σ → RG K g F ad L H → f ⟨sl, g⟩ = some r → PO K g F ad L R Q E r → t σ H Q
/-- one thing, then another -/
theorem JJ.bind {α β γ δ : Type} {E : XK} {R : Rel α β} {R2 : Rel γ δ} {t : L2.St → Hp → (β → Hp → Prop) → Prop} {f : M α} {k : α → M γ} {u : β → L2.St → Hp → (δ → Hp → Prop) → Prop} (h : JJ K E R t f)
    (h2 : ∀ (a : α) (b : β) (sl : List SV) (g : List Obj) (F : Hp) (ad : Nat → Addr) (L : Cells) (σ : L2.St) (H : Hp) (Q : δ → Hp → Prop) (r : O γ), RSl K F g.length ad sl σ → R L g F ad a b H → k a ⟨sl, g⟩ = some r → PO K g F ad L R2 Q E r → u b σ H Q) :
    JJ K E R2 (fun σ H Q => t σ H fun b H1 => u b σ H1 Q) (f.bind k) := by
  intro sl g F ad L σ H Q r hs hg hf hp
  unfold M.bind at hf
  cases e : f ⟨sl, g⟩ with
  | none => rw [e] at hf; cases hf
  | some o =>
    rw [e] at hf
    refine h sl g F ad L σ H _ o hs hg e ?_
    cases o with
    | er c t g' =>
      cases hf
      exact hp
    | ok a g' => exact fun b F' ad' H' n hr => h2 a b sl g' F' ad' L σ H' Q r (hs.nx n) hr hf (hp.nx n)
/-- one thing, then what follows -/
theorem JJ.use {α β γ δ : Type} {E : XK} {R : Rel α β} {R2 : Rel γ δ} {t : L2.St → Hp → (β → Hp → Prop) → Prop} {f : M α} {k : α → M γ} {sl : List SV} {r : O γ} {Q : β → Hp → Prop} {Q2 : δ → Hp → Prop} (h : JJ K E R t f) (hs : RSl K F g.length ad sl σ) (hg : RG K g F ad L H)
    (hf : f.bind k ⟨sl, g⟩ = some r) (hp : PO K g F ad L R2 Q2 E r) (c : ∀ a b g' F' ad' H', Nx g F ad g' F' ad' → R L g' F' ad' a b H' → k a ⟨sl, g'⟩ = some r → Q b H') : t σ H Q := by
  unfold M.bind at hf
  cases e : f ⟨sl, g⟩ with
  | none => rw [e] at hf; cases hf
  | some o =>
    rw [e] at hf
    refine h sl g F ad L σ H _ o hs hg e ?_
    cases o with
    | er c t g' =>
      cases hf
      exact hp
    | ok a g' => exact fun b F' ad' H' n hr => c a b g' F' ad' H' n hr hf
def relV (K : PySem.W.Frag) : Rel SV V := fun L g F ad x v H => RSV K F g.length ad x v ∧ RG K g F ad L H
def relZ (K : PySem.W.Frag) : Rel RZ V := fun L g F ad z v H => match z with
  | .v x => RSV K F g.length ad x v ∧ RG K g F ad L H
  | .n o => ∃ p c, v = .ref p ∧ RO K F o p c ∧ RG K g F ad (c ++ L) H
def RSVs (K : PySem.W.Frag) (F : Hp) (n : Nat) (ad : Nat → Addr) : List SV → List V → Prop
  | [], vs => vs = []
  | x :: xs, vs => ∃ v ws, vs = v :: ws ∧ RSV K F n ad x v ∧ RSVs K F n ad xs ws
theorem RSVs.up {n m : Nat} (gr : Gr F F') (ag : Ag n ad ad') (le : n ≤ m) : ∀ {xs : List SV} {vs : List V}, RSVs K F n ad xs vs → RSVs K F' m ad' xs vs
  | [], _, h => h
  | _ :: _, _, ⟨v, ws, e, h1, h2⟩ => ⟨v, ws, e, h1.up gr ag le, RSVs.up gr ag le h2⟩
theorem RSVs.len {n : Nat} : ∀ {xs : List SV} {vs : List V}, RSVs K F n ad xs vs → vs.length = xs.length
  | [], _, h => by subst h; rfl
  | _ :: _, _, ⟨v, ws, e, h1, h2⟩ => by subst e; simp [h2.len]
def relA (K : PySem.W.Frag) : Rel (List SV) (List V) := fun L g F ad xs vs H => RSVs K F g.length ad xs vs ∧ RG K g F ad L H
def relB (K : PySem.W.Frag) : Rel Bool Bool := fun L g F ad x v H => x = v ∧ RG K g F ad L H
abbrev EV (K : PySem.W.Frag) (E : XK) (te : TE) (f : M SV) : Prop := JJ K E (relV K) te f
abbrev EE (K : PySem.W.Frag) (E : XK) (te : TE) (f : M RZ) : Prop := JJ K E (relZ K) te f
abbrev AA (K : PySem.W.Frag) (E : XK) (ta : TA) (f : M (List SV)) : Prop := JJ K E (relA K) ta f
abbrev TT (K : PySem.W.Frag) (E : XK) (tt : L2.TT) (f : M Bool) : Prop := JJ K E (relB K) tt f
section
variable {E : XK} {te ta tb : TE} {fa fb : M SV}
/-! ### names, constants -/
def mVar (i : Nat) : M SV := fun s => match s.sl[i]? with
  | some (.t t) => some (.ok (.t t) s.g)
  | some (.o j) => some (.ok (.o j) s.g)
  | _ => none
theorem ev_var (i : Nat) : EV K E (tVar i) (mVar i) := by
  intro sl g F ad L σ H Q r hs hg hf hp
  have key : ∀ x, sl[i]? = some x → x ≠ .un → mVar i ⟨sl, g⟩ = some (.ok x g) → tVar i σ H Q := fun x e ne q => by
    obtain ⟨v, h1, h2⟩ := hs.get e ne
    rw [q] at hf
    cases hf
    exact ⟨v, h1, hp v F ad H Nx.refl ⟨h2, hg⟩⟩
  cases e : sl[i]? with
  | none => simp [mVar, e] at hf
  | some x => cases x with
    | un => simp [mVar, e] at hf
    | t t => exact key _ e (by simp) (by simp [mVar, e])
    | o j => exact key _ e (by simp) (by simp [mVar, e])
theorem ev_c {v : V} {t : T} (h : ∀ F, RT K F t v) : EV K E (tC v) (M.ret (.t t)) := by
  intro sl g F ad L σ H Q r hs hg hf hp
  cases hf
  exact hp v F ad H Nx.refl ⟨h F, hg⟩
theorem ev_int (i : Int) : EV K E (tC (.int i)) (M.ret (.t (.int i))) := ev_c fun _ => rfl
theorem ev_str (x : Str) : EV K E (tC (.str x)) (M.ret (.t (.str x))) := ev_c fun _ => rfl
theorem ev_bl (b : Bool) : EV K E (tC (.bl b)) (M.ret (.t (.bl b))) := ev_c fun _ => rfl
theorem ev_non : EV K E (tC .non) (M.ret (.t .non)) := ev_c fun _ => rfl
/-! ### from a result to a value -/
/-- as a tree: a list is let go -/
def mT (f : M RZ) : M SV := f.bind fun z => match z with
  | .v (.t t) => M.ret (.t t)
  | .v (.o i) => fun s => match s.g[i]? with
    | some (.lst xs) => some (.ok (.t (.lst xs)) (s.g.set i (.frz (.lst xs))))
    | some (.frz t) => some (.ok (.t t) s.g)
    | _ => none
  | .n (.lst xs) => M.ret (.t (.lst xs))
  | _ => fun _ => none
/-- as a thing that may change -/
def mO (f : M RZ) : M SV := f.bind fun z => match z with
  | .v x => M.ret x
  | .n o => fun s => some (.ok (.o s.g.length) (s.g ++ [o]))
/-- it is a value -/
def mV (f : M RZ) : M SV := f.bind fun z => match z with
  | .v x => M.ret x
  | .n _ => fun _ => none
def mZ (f : M SV) : M RZ := f.bind fun x => M.ret (.v x)
theorem JJ.id {α β : Type} {R : Rel α β} {t : L2.St → Hp → (β → Hp → Prop) → Prop} {f : M α} (h : JJ K E R t f) : JJ K E R (fun σ H Q => t σ H fun b H1 => Q b H1) f := h
theorem RG.frzL {xs : List T} {p : Addr} {c : Cells} (h : RG K g F ad (c ++ L) H) (r : RO K F (.lst xs) p c) : ∃ F', Gr F F' ∧ RT K F' (.lst xs) (.ref p) ∧ RG K g F' ad L H := by
  obtain ⟨vs, rfl, r⟩ := r
  obtain ⟨F', gr, hh, h'⟩ := RG.frz (L := L) h
  exact ⟨F', gr, ⟨p, vs, rfl, hh.1, RTs.up gr _ _ r⟩, h'⟩
theorem ev_T {f : M RZ} (h : EE K E te f) : EV K E te (mT f) := by
  refine JJ.bind (u := fun b _ H Q => Q b H) h fun a b sl g F ad L σ H Q r hs hr hk hp => ?_
  cases a with
  | v x =>
    obtain ⟨h1, h2⟩ := hr
    cases x with
    | un => exact h1.elim
    | t t =>
      cases hk
      exact hp b F ad H Nx.refl ⟨h1, h2⟩
    | o i =>
      obtain ⟨hlt, rfl⟩ := h1
      cases e : g[i]? with
      | none => simp [e] at hk
      | some u =>
        simp only [e] at hk
        cases u with
        | lst xs =>
          cases hk
          obtain ⟨c, R, ⟨vs, rfl, ro⟩, S, back⟩ := h2.focus e
          obtain ⟨F', S', gr, hh⟩ := Sta.frz S
          have rt : RT K F' (.lst xs) (.ref (ad i)) := ⟨ad i, vs, rfl, hh.1, RTs.up gr _ _ ro⟩
          have h3 := back F' (.frz (.lst xs)) [] H gr ⟨rfl, rt⟩ S'
          exact hp _ F' ad H ⟨gr, Ag.refl _ _, by rw [List.length_set]; exact Nat.le_refl _⟩ ⟨rt, h3⟩
        | frz t =>
          cases hk
          obtain ⟨c, R, ⟨rfl, ro⟩, S, back⟩ := h2.focus e
          exact hp _ F ad H Nx.refl ⟨ro, h2⟩
        | dic _ => simp at hk
        | dct _ => simp at hk
        | gone => simp at hk
  | n o =>
    obtain ⟨p, c, rfl, h1, h2⟩ := hr
    cases o with
    | lst xs =>
      cases hk
      obtain ⟨F', gr, rt, h3⟩ := h2.frzL h1
      exact hp _ F' ad H ⟨gr, Ag.refl _ _, Nat.le_refl _⟩ ⟨rt, h3⟩
    | dic _ => simp at hk
    | dct _ => simp at hk
    | frz _ => simp at hk
    | gone => simp at hk
theorem ev_O {f : M RZ} (h : EE K E te f) : EV K E te (mO f) := by
  refine JJ.bind (u := fun b _ H Q => Q b H) h fun a b sl g F ad L σ H Q r hs hr hk hp => ?_
  cases a with
  | v x =>
    cases hk
    exact hp b F ad H Nx.refl hr
  | n o =>
    obtain ⟨p, c, rfl, h1, h2⟩ := hr
    cases hk
    obtain ⟨ad', ag, e, h3⟩ := h2.push h1
    refine hp _ F ad' H ⟨Gr.refl _, ag, by simp⟩ ⟨⟨by simp, by rw [e]⟩, h3⟩
theorem ev_V {f : M RZ} (h : EE K E te f) : EV K E te (mV f) := by
  refine JJ.bind (u := fun b _ H Q => Q b H) h fun a b sl g F ad L σ H Q r hs hr hk hp => ?_
  cases a with
  | v x =>
    cases hk
    exact hp b F ad H Nx.refl hr
  | n o => cases hk
theorem ee_v {f : M SV} (h : EV K E te f) : EE K E te (mZ f) := by
  refine JJ.bind (u := fun b _ H Q => Q b H) h fun a b sl g F ad L σ H Q r hs hr hk hp => ?_
  cases hk
  exact hp b F ad H Nx.refl hr
/-! ### argument lists, operators by values -/
def mNil : M (List SV) := M.ret []
def mCons (f : M SV) (k : M (List SV)) : M (List SV) := f.bind fun x => k.bind fun xs => M.ret (x :: xs)
theorem aa_nil : AA K E tNil mNil := by
  intro sl g F ad L σ H Q r hs hg hf hp
  cases hf
  exact hp [] F ad H Nx.refl ⟨rfl, hg⟩
theorem aa_cons {tr : TA} {f : M SV} {k : M (List SV)} (h : EV K E te f) (hk : AA K E tr k) : AA K E (L2.tCons te tr) (mCons f k) := by
  refine JJ.bind (u := fun v σ H Q => tr σ H fun xs H2 => Q (v :: xs) H2) h fun x v sl g F ad L σ H Q r hs hr hf hp => ?_
  obtain ⟨h1, h2⟩ := hr
  unfold M.bind at hf
  cases e : k ⟨sl, g⟩ with
  | none => rw [e] at hf; cases hf
  | some o =>
    rw [e] at hf
    refine hk sl g F ad L σ H _ o hs h2 e ?_
    cases o with
    | er c t g' =>
      cases hf
      exact hp
    | ok xs g' =>
      cases hf
      exact fun vs F' ad' H' n hr => hp _ F' ad' H' n ⟨⟨v, vs, rfl, h1.nx n, hr.1⟩, hr.2⟩
/-- an operation upon values: it raises nothing -/
abbrev VO := List Obj → List SV → Option (RZ × List Obj)
def VOK (K : PySem.W.Frag) (r : List V → Hp → VK → Prop) (op : VO) : Prop :=
  ∀ (g : List Obj) (F : Hp) (ad : Nat → Addr) (L : Cells) (H : Hp) (xs : List SV) (vs : List V) (Q : VK) (z : RZ) (g' : List Obj), RG K g F ad L H → RSVs K F g.length ad xs vs → op g xs = some (z, g') →
    (∀ v F' ad' H', Nx g F ad g' F' ad' → relZ K L g' F' ad' z v H' → Q v H') → r vs H Q
def mOp (op : VO) (f : M (List SV)) : M RZ := f.bind fun xs s => (op s.g xs).map fun z => .ok z.1 z.2
theorem ee_op {r : List V → Hp → VK → Prop} {op : VO} {t : TA} {f : M (List SV)} (ho : VOK K r op) (h : AA K E t f) : EE K E (tCB r t) (mOp op f) := by
  refine JJ.bind (u := fun vs _ H Q => r vs H Q) h fun xs vs sl g F ad L σ H Q o hs hr hk hp => ?_
  cases e : op g xs with
  | none => simp [e] at hk
  | some z =>
    obtain ⟨z, g'⟩ := z
    simp only [e, Option.map_some, Option.some.injEq] at hk
    subst hk
    exact ho g F ad L H xs vs Q z g' hr.2 hr.1 e fun v F' ad' H' n hz => hp v F' ad' H' n hz
def r2 (r : R2) : List V → Hp → VK → Prop := fun vs H Q => match vs with
  | [x, y] => r x y H Q
  | _ => False
def mOp2 (op : VO) (fa fb : M SV) : M RZ := mOp op (mCons fa (mCons fb mNil))
theorem ee_op2 {r : R2} {op : VO} (ho : VOK K (r2 r) op) (ha : EV K E ta fa) (hb : EV K E tb fb) : EE K E (tOp r ta tb) (mOp2 op fa fb) :=
  ee_op ho (aa_cons ha (aa_cons hb aa_nil))
/-- a method of a built-in type -/
def rM (r : V → List V → Hp → VK → Prop) : List V → Hp → VK → Prop := fun vs H Q => match vs with
  | x :: xs => r x xs H Q
  | _ => False
end
end Mf


set_option Elab.async false
set_option linter.all false
set_option maxRecDepth 100000
set_option maxHeartbeats 4000000
namespace Mf
open PySem PySem.Spec PyProof.Rows L2 Sb
variable {K : PySem.W.Frag} {F F' F2 : Hp} {g g' : List Obj} {ad ad' : Nat → Addr} {L L' : Cells} {H H' : Hp} {σ : L2.St}
/-! ### statements -/
inductive Fl where
  | nx (sl : List SV) | rt (z : RZ)
/-- what is wanted behind a statement -/
def PS' (K : PySem.W.Frag) (g : List Obj) (F : Hp) (ad : Nat → Addr) (L : Cells) (D : Ends) (E : XK) : O Fl → Prop
  | .ok (.nx sl') g' => ∀ σ' F' ad' H', Nx g F ad g' F' ad' → RSl K F' g'.length ad' sl' σ' → RG K g' F' ad' L H' → D.nx σ' H'
  | .ok (.rt z) g' => ∀ v F' ad' H', Nx g F ad g' F' ad' → relZ K L g' F' ad' z v H' → D.rt v H'
  | .er c t g' => ∀ d v F' ad' H', Nx g F ad g' F' ad' → RG K g' F' ad' L H' → RT K F' t v → F' d = some (.xd [(fieldOf c, v)]) → E (.ref (He.ga K c)) (some d) H'
theorem PS'.nx {D : Ends} {E : XK} (n : Nx g F ad g' F' ad') : ∀ {r : O Fl}, PS' K g F ad L D E r → PS' K g' F' ad' L D E r
  | .ok (.nx _) _, h => fun s F2 ad2 H2 n2 hr => h s F2 ad2 H2 (n.trans n2) hr
  | .ok (.rt _) _, h => fun b F2 ad2 H2 n2 hr => h b F2 ad2 H2 (n.trans n2) hr
  | .er _ _ _, h => fun d v F2 ad2 H2 n2 hr => h d v F2 ad2 H2 (n.trans n2) hr
def SS (K : PySem.W.Frag) (E : XK) (ts : TS) (f : M Fl) : Prop :=
  ∀ (sl : List SV) (g : List Obj) (F : Hp) (ad : Nat → Addr) (L : Cells) (σ : L2.St) (H : Hp) (D : Ends) (r : O Fl), RSl K F g.length ad sl σ → RG K g F ad L H → f ⟨sl, g⟩ = some r → PS' K g F ad L D E r → ts D σ H
section
variable {E : XK} {te : TE} {ts tu : TS} {fs fu : M Fl}
/-- an expression within a statement -/
theorem JJ.stmt {α β : Type} {R : Rel α β} {t : L2.St → Hp → (β → Hp → Prop) → Prop} {f : M α} {k : α → M Fl} {u : β → TS} (h : JJ K E R t f)
    (h2 : ∀ (a : α) (b : β) (sl : List SV) (g : List Obj) (F : Hp) (ad : Nat → Addr) (L : Cells) (σ : L2.St) (H : Hp) (D : Ends) (r : O Fl), RSl K F g.length ad sl σ → R L g F ad a b H → k a ⟨sl, g⟩ = some r → PS' K g F ad L D E r → u b D σ H) :
    SS K E (fun D σ H => t σ H fun b H1 => u b D σ H1) (f.bind k) := by
  intro sl g F ad L σ H D r hs hg hf hp
  unfold M.bind at hf
  cases e : f ⟨sl, g⟩ with
  | none => rw [e] at hf; cases hf
  | some o =>
    rw [e] at hf
    refine h sl g F ad L σ H _ o hs hg e ?_
    cases o with
    | er c t g' =>
      cases hf
      exact hp
    | ok a g' => exact fun b F' ad' H' n hr => h2 a b sl g' F' ad' L σ H' D r (hs.nx n) hr hf (hp.nx n)
def sNx : M Fl := fun s => some (.ok (.nx s.sl) s.g)
theorem ss_nil : SS K E tNext sNx := by
  intro sl g F ad L σ H D r hs hg hf hp
  cases hf
  exact hp σ F ad H Nx.refl hs hg
def sSeq (f k : M Fl) : M Fl := fun s => match f s with
  | none => none
  | some (.er c t g) => some (.er c t g)
  | some (.ok (.rt z) g) => some (.ok (.rt z) g)
  | some (.ok (.nx sl) g) => k ⟨sl, g⟩
theorem ss_seq (h : SS K E ts fs) (k : SS K E tu fu) : SS K E (tSeq ts tu) (sSeq fs fu) := by
  intro sl g F ad L σ H D r hs hg hf hp
  unfold sSeq at hf
  cases e : fs ⟨sl, g⟩ with
  | none => rw [e] at hf; cases hf
  | some o =>
    rw [e] at hf
    refine h sl g F ad L σ H _ o hs hg e ?_
    cases o with
    | er c t g' =>
      cases hf
      exact hp
    | ok a g' =>
      cases a with
      | rt z =>
        cases hf
        exact hp
      | nx sl' => exact fun σ' F' ad' H' n hs' hg' => k sl' g' F' ad' L σ' H' D r hs' hg' hf (hp.nx n)
def sRet (f : M RZ) : M Fl := f.bind fun z => M.ret (.rt z)
theorem ss_ret {f : M RZ} (h : EE K E te f) : SS K E (tRet te) (sRet f) := by
  refine JJ.stmt (u := fun b D _ H => D.rt b H) h fun a b sl g F ad L σ H D r hs hr hk hp => ?_
  cases hk
  exact hp b F ad H Nx.refl hr
theorem ss_retN : SS K E tRetN (M.ret (.rt (.v (.t .non)))) := by
  intro sl g F ad L σ H D r hs hg hf hp
  cases hf
  exact hp .non F ad H Nx.refl ⟨rfl, hg⟩
def sDrop (f : M RZ) : M Fl := f.bind fun _ => sNx
theorem RG.dropC {c : Cells} (h : RG K g F ad (c ++ L) H) : RG K g F ad L H := by
  induction c with
  | nil => exact h
  | cons x c ih => exact ih h.tl
theorem ss_drop {f : M RZ} (h : EE K E te f) : SS K E (tDrop te) (sDrop f) := by
  refine JJ.stmt (u := fun _ D σ H => D.nx σ H) h fun a b sl g F ad L σ H D r hs hr hk hp => ?_
  cases hk
  refine hp σ F ad H Nx.refl hs ?_
  cases a with
  | v x => exact hr.2
  | n o =>
    obtain ⟨p, c, _, _, h⟩ := hr
    exact h.dropC
def sIf (c : M Bool) (f k : M Fl) : M Fl := c.bind fun b => if b = true then f else k
theorem ss_if {tc : L2.TT} {c : M Bool} (h : TT K E tc c) (h1 : SS K E ts fs) (h2 : SS K E tu fu) : SS K E (tIfS tc ts tu) (sIf c fs fu) := by
  refine JJ.stmt (u := fun b D σ H => if b = true then ts D σ H else tu D σ H) h fun a b sl g F ad L σ H D r hs hr hk hp => ?_
  obtain ⟨rfl, hg⟩ := hr
  cases a with
  | true => exact h1 sl g F ad L σ H D r hs hg hk hp
  | false => exact h2 sl g F ad L σ H D r hs hg hk hp
/-- x = e -/
def sSet (i : Nat) (f : M SV) : M Fl := f.bind fun x s => some (.ok (.nx (s.sl.set i x)) s.g)
theorem ss_set {i : Nat} {f : M SV} (h : EV K E te f) : SS K E (tAsg te (gName i)) (sSet i f) := by
  refine JJ.stmt (u := fun b D σ H => gName i b σ H D.nx) h fun a b sl g F ad L σ H D r hs hr hk hp => ?_
  cases hk
  exact hp _ F ad H Nx.refl (hs.set hr.1 i) hr.2
/-! ### a def by its body -/
/-- what a result is to the caller: n things were handed in -/
def exitZ (n : Nat) (g : List Obj) : RZ → Option (O RZ)
  | .v (.t t) => some (.ok (.v (.t t)) (g.take n))
  | .v (.o i) => if i < n then some (.ok (.v (.o i)) (g.take n)) else match g[i]? with
    | some (.frz t) => some (.ok (.v (.t t)) (g.take n))
    | some .gone => none
    | some o => some (.ok (.n o) (g.take n))
    | none => none
  | .v .un => none
  | .n o => some (.ok (.n o) (g.take n))
def runD (ns : Nat) (body : M Fl) (xs : List SV) (g : List Obj) : Option (O RZ) := match body ⟨xs ++ List.replicate (ns - xs.length) .un, g⟩ with
  | none => none
  | some (.er c t g') => some (.er c t (g'.take g.length))
  | some (.ok (.nx _) g') => some (.ok (.v (.t .non)) (g'.take g.length))
  | some (.ok (.rt z) g') => exitZ g.length g' z
abbrev Mir := List SV → List Obj → Option (O RZ)
/-- the promise of a def whose mirror is m -/
def spM (K : PySem.W.Frag) (n : Nat) (m : Mir) : Sp := fun vs H Q E => ∃ (xs : List SV) (g : List Obj) (F : Hp) (ad : Nat → Addr) (L : Cells) (r : O RZ), xs.length = n ∧ RSVs K F g.length ad xs vs ∧ RG K g F ad L H ∧ m xs g = some r ∧ PO K g F ad L (relZ K) Q E r
theorem spM.len {n : Nat} {m : Mir} {vs : List V} {Q : VK} (h : spM K n m vs H Q E) : vs.length = n := by
  obtain ⟨xs, g, F, ad, L, r, e, h, _⟩ := h
  rw [h.len, e]
theorem RSl.app {n : Nat} {ys : List SV} {τ : L2.St} (h2 : RSl K F n ad ys τ) : ∀ {xs : List SV} {vs : List V}, RSVs K F n ad xs vs → RSl K F n ad (xs ++ ys) (vs.map some ++ τ)
  | [], vs, h => by
    have e : vs = [] := h
    subst e
    exact h2
  | x :: xs, _, ⟨v, ws, e, h, h3⟩ => by
    subst e
    exact RSl.cons (.inr ⟨v, rfl, h⟩) (RSl.app h2 h3)
theorem RSl.uns {n : Nat} : ∀ (k : Nat), RSl K F n ad (List.replicate k .un) (List.replicate k none)
  | 0 => (rfl : RSl K F n ad [] [])
  | k + 1 => RSl.cons (.inl rfl) (RSl.uns k)
theorem RG.out {i : Nat} {o : Obj} (h : RG K g F ad L H) (hi : g[i]? = some o) : ∃ c, RO K F o (ad i) c ∧ RG K (g.set i .gone) F ad (c ++ L) H := by
  obtain ⟨co, h1, S⟩ := h
  have hlt : i < g.length := by
    obtain ⟨h, _⟩ := List.getElem?_eq_some_iff.mp hi
    exact h
  have hp := range_split hlt
  refine ⟨co i, h1 i o hi, fun j => if j = i then [] else co j, fun j u hj => ?_, ?_⟩
  · by_cases q : j = i
    · subst q
      rw [List.getElem?_set_self hlt] at hj
      cases hj
      show RO K F .gone (ad j) (if j = j then [] else co j)
      rw [if_pos rfl]
      exact (rfl : ([] : Cells) = [])
    · rw [List.getElem?_set_ne (Ne.symm q)] at hj
      show RO K F u (ad j) (if j = i then [] else co j)
      rw [if_neg q]
      exact h1 j u hj
  · rw [List.length_set]
    have e1 : ((List.range g.length).flatMap co ++ L).Perm (((List.range g.length).filter fun j => decide (j ≠ i)).flatMap co ++ (co i ++ L)) := by
      have q := (flatMap_perm (f := co) hp).append_right L
      rw [List.flatMap_cons] at q
      refine q.trans ?_
      rw [List.append_assoc, ← List.append_assoc, ← List.append_assoc]
      exact List.perm_append_comm.append_right L
    have q := (flatMap_perm (f := fun j => if j = i then [] else co j) hp).append_right (co i ++ L)
    rw [List.flatMap_cons, if_pos rfl, List.nil_append] at q
    have e2 : ((List.range g.length).filter fun j => decide (j ≠ i)).flatMap (fun j => if j = i then [] else co j) = ((List.range g.length).filter fun j => decide (j ≠ i)).flatMap co :=
      flatMap_cong fun j hj => by
        have : j ≠ i := by simpa using (List.mem_filter.mp hj).2
        rw [if_neg this]
    rw [e2] at q
    exact (S.perm e1.symm).perm q
theorem take_set {α : Type} {l : List α} {n i : Nat} {x : α} (h : n ≤ i) : (l.set i x).take n = l.take n := by
  rw [List.take_set]
  exact List.set_eq_of_length_le (by rw [List.length_take]; omega)
theorem Nx.cut {n : Nat} (h : Nx g F ad g' F' ad') (e : n = g.length) : Nx g F ad (g'.take n) F' ad' := ⟨h.gr, h.ag, by rw [List.length_take]; have := h.le; omega⟩
theorem len_take {n : Nat} (h : n ≤ g'.length) : (g'.take n).length = n := by rw [List.length_take]; omega
theorem exit_ok {z : RZ} {v : V} {n : Nat} {Q : VK} {r : O RZ} (hn : n ≤ g'.length) (h : relZ K L g' F' ad' z v H') (e : exitZ n g' z = some r) (k : ∀ a, r = .ok a (g'.take n) → relZ K L (g'.take n) F' ad' a v H' → Q v H') : Q v H' := by
  cases z with
  | n o =>
    cases e
    obtain ⟨p, c, e, h1, h2⟩ := h
    exact k _ rfl ⟨p, c, e, h1, h2.cut n⟩
  | v x =>
    obtain ⟨h1, h2⟩ := h
    cases x with
    | un => cases e
    | t t =>
      cases e
      exact k _ rfl ⟨h1, h2.cut n⟩
    | o i =>
      obtain ⟨hlt, rfl⟩ := h1
      by_cases q : i < n
      · simp only [exitZ, q, if_true] at e
        cases e
        exact k _ rfl ⟨⟨by rw [len_take hn]; exact q, rfl⟩, h2.cut n⟩
      · simp only [exitZ, q, if_false] at e
        cases eo : g'[i]? with
        | none => rw [eo] at e; cases e
        | some o =>
          rw [eo] at e
          obtain ⟨c, h3, h4⟩ := h2.out eo
          have h5 := h4.cut n
          rw [take_set (by omega)] at h5
          cases o with
          | gone => cases e
          | frz t =>
            cases e
            obtain ⟨rfl, h3⟩ := h3
            exact k _ rfl ⟨h3, h5⟩
          | lst xs =>
            cases e
            exact k _ rfl ⟨_, c, rfl, h3, h5⟩
          | dic xs =>
            cases e
            exact k _ rfl ⟨_, c, rfl, h3, h5⟩
          | dct xs =>
            cases e
            exact k _ rfl ⟨_, c, rfl, h3, h5⟩
theorem body_ok {N : List Str} {n ns : Nat} {f : M Fl} {vs : List V} {Q : VK} (hN : N.length = ns) (hS : SS K E ts f) (h : spM K n (runD ns f) vs H Q E) : ts { nx := fun _ H' => Q .non H', rt := Q } (L2.start N vs) H := by
  obtain ⟨xs, g, F, ad, L, r, hl, hv, hg, hm, hp⟩ := h
  have hs : RSl K F g.length ad (xs ++ List.replicate (ns - xs.length) .un) (L2.start N vs) := by
    unfold L2.start
    rw [hN, hv.len]
    exact (RSl.uns _).app hv
  unfold runD at hm
  cases e : f ⟨xs ++ List.replicate (ns - xs.length) .un, g⟩ with
  | none => rw [e] at hm; cases hm
  | some o =>
    rw [e] at hm
    refine hS _ g F ad L _ H _ o hs hg e ?_
    cases o with
    | er c t g' =>
      cases hm
      exact fun d v F' ad' H' n hg' ht hd => hp d v F' ad' H' (n.cut rfl) (hg'.cut _) ht hd
    | ok a g' =>
      cases a with
      | nx sl' =>
        cases hm
        exact fun σ' F' ad' H' n hs' hg' => hp .non F' ad' H' (n.cut rfl) ⟨rfl, hg'.cut _⟩
      | rt z => exact fun v F' ad' H' n hr => exit_ok n.le hr hm fun a ea ha => (by subst ea; exact hp v F' ad' H' (n.cut rfl) ha)
end
end Mf


set_option Elab.async false
set_option linter.all false
set_option maxRecDepth 100000
set_option maxHeartbeats 4000000
namespace Mf
open PySem PySem.Spec PyProof.Rows L2 Sb
variable {K : PySem.W.Frag} {F F' F2 : Hp} {g g' : List Obj} {ad ad' : Nat → Addr} {L L' : Cells} {H H' : Hp} {σ : L2.St}
/-! ### calls -/
/-- the things that the arguments name -/
def hs : List SV → List Nat
  | [] => []
  | .o i :: xs => i :: hs xs
  | _ :: xs => hs xs
def pick (g : List Obj) : List Nat → Option (List Obj)
  | [] => some []
  | i :: is => match g[i]?, pick g is with
    | some o, some os => some (o :: os)
    | _, _ => none
def put (g : List Obj) : List Nat → List Obj → List Obj
  | i :: is, o :: os => put (g.set i o) is os
  | _, _ => g
/-- the arguments, their things numbered as handed in -/
def ren : Nat → List SV → List SV
  | _, [] => []
  | k, .o _ :: xs => .o k :: ren (k + 1) xs
  | k, x :: xs => x :: ren k xs
def back (is : List Nat) : RZ → Option RZ
  | .v (.o j) => match is[j]? with
    | some i => some (.v (.o i))
    | none => none
  | z => some z
def callG (m : Mir) (xs : List SV) : M RZ := fun s => if (hs xs).Nodup then match pick s.g (hs xs) with
    | none => none
    | some gs => match m (ren 0 xs) gs with
      | none => none
      | some (.er c t gs') => if gs'.length = gs.length then some (.er c t (put s.g (hs xs) gs')) else none
      | some (.ok z gs') => if gs'.length = gs.length then match back (hs xs) z with
        | none => none
        | some z' => some (.ok z' (put s.g (hs xs) gs'))
        else none
  else none
theorem pick_len : ∀ {is : List Nat} {gs : List Obj}, pick g is = some gs → gs.length = is.length
  | [], gs, h => by cases h; rfl
  | i :: is, gs, h => by
    unfold pick at h
    cases e1 : g[i]? with
    | none => rw [e1] at h; cases h
    | some o =>
      cases e2 : pick g is with
      | none => rw [e1, e2] at h; cases h
      | some os =>
        rw [e1, e2] at h
        cases h
        simp [pick_len e2]
theorem pick_get : ∀ {is : List Nat} {gs : List Obj} {j i : Nat}, pick g is = some gs → is[j]? = some i → gs[j]? = g[i]?
  | [], gs, j, i, h, e => by simp at e
  | k :: is, gs, j, i, h, e => by
    unfold pick at h
    cases e1 : g[k]? with
    | none => rw [e1] at h; cases h
    | some o =>
      cases e2 : pick g is with
      | none => rw [e1, e2] at h; cases h
      | some os =>
        rw [e1, e2] at h
        cases h
        cases j with
        | zero =>
          simp at e
          subst e
          simp [e1]
        | succ j => simpa using pick_get e2 (by simpa using e)
theorem put_len : ∀ {is : List Nat} {g gs : List Obj}, (put g is gs).length = g.length
  | [], _, _ => by simp [put]
  | _ :: _, _, [] => by simp [put]
  | i :: is, g, o :: os => by rw [put, put_len, List.length_set]
theorem put_out : ∀ {is : List Nat} {g gs : List Obj} {i : Nat}, i ∉ is → (put g is gs)[i]? = g[i]?
  | [], _, _, _, _ => by simp [put]
  | _ :: _, _, [], _, _ => by simp [put]
  | k :: is, g, o :: os, i, h => by
    have h1 : i ≠ k := fun e => h (e ▸ List.mem_cons_self)
    have h2 : i ∉ is := fun e => h (List.mem_cons_of_mem _ e)
    rw [put, put_out h2, List.getElem?_set_ne (Ne.symm h1)]
theorem put_in : ∀ {is : List Nat} {g gs : List Obj} {j i : Nat}, is.Nodup → (∀ i ∈ is, i < g.length) → gs.length = is.length → is[j]? = some i → (put g is gs)[i]? = gs[j]?
  | [], _, _, _, _, _, _, _, e => by simp at e
  | k :: is, g, [], j, i, _, _, hl, _ => by simp at hl
  | k :: is, g, o :: os, j, i, nd, hlt, hl, e => by
    obtain ⟨n1, n2⟩ := List.nodup_cons.mp nd
    rw [put]
    cases j with
    | zero =>
      simp at e
      subst e
      rw [put_out n1, List.getElem?_set_self (hlt k List.mem_cons_self)]
      rfl
    | succ j =>
      have e : is[j]? = some i := by simpa using e
      have q := put_in (g := g.set k o) (gs := os) n2 (fun x hx => by rw [List.length_set]; exact hlt x (List.mem_cons_of_mem _ hx)) (by simpa using hl) e
      rw [q]
      rfl
theorem pick_lt : ∀ {is : List Nat} {gs : List Obj}, pick g is = some gs → ∀ i ∈ is, i < g.length
  | [], _, _, _, h => by cases h
  | k :: is, gs, h, i, hi => by
    unfold pick at h
    cases e1 : g[k]? with
    | none => rw [e1] at h; cases h
    | some o =>
      cases e2 : pick g is with
      | none => rw [e1, e2] at h; cases h
      | some os =>
        rcases List.mem_cons.mp hi with rfl | hi
        · exact (List.getElem?_eq_some_iff.mp e1).1
        · exact pick_lt e2 i hi
theorem range_part {is : List Nat} (nd : is.Nodup) {n : Nat} (h : ∀ i ∈ is, i < n) : (List.range n).Perm (is ++ (List.range n).filter fun j => decide (j ∉ is)) := by
  refine (List.perm_ext_iff_of_nodup List.nodup_range ?_).mpr fun a => ?_
  · refine List.nodup_append.mpr ⟨nd, List.nodup_range.sublist List.filter_sublist, fun a ha b hb e => ?_⟩
    subst e
    have : a ∉ is := by simpa using (List.mem_filter.mp hb).2
    exact this ha
  · rw [List.mem_append, List.mem_filter, List.mem_range]
    constructor
    · intro ha
      by_cases q : a ∈ is
      · exact .inl q
      · exact .inr ⟨ha, by simpa using q⟩
    · rintro (ha | ⟨ha, _⟩)
      · exact h a ha
      · exact ha
theorem flatMap_get {β : Type} (f : Nat → List β) : ∀ (is : List Nat), (List.range is.length).flatMap (fun j => f (is.getD j 0)) = is.flatMap f
  | [] => rfl
  | i :: is => by
    rw [List.length_cons, List.range_succ_eq_map, List.flatMap_cons, List.flatMap_map, List.flatMap_cons]
    have e : (List.range is.length).flatMap (fun j => f ((i :: is).getD (j + 1) 0)) = (List.range is.length).flatMap fun j => f (is.getD j 0) := rfl
    rw [e, flatMap_get f is]
    rfl
/-- some of the things, as a callee has them -/
theorem RG.these {is : List Nat} {gs : List Obj} (h : RG K g F ad L H) (nd : is.Nodup) (e : pick g is = some gs) : ∃ L1 : Cells, RG K gs F (fun j => ad (is.getD j 0)) L1 H ∧
    ∀ (F' : Hp) (ad1 : Nat → Addr) (gs' : List Obj) (c : Cells) (H' : Hp), Gr F F' → Ag gs.length (fun j => ad (is.getD j 0)) ad1 → gs'.length = gs.length → RG K gs' F' ad1 (c ++ L1) H' → RG K (put g is gs') F' ad (c ++ L) H' := by
  obtain ⟨co, h1, S⟩ := h
  have hlt := pick_lt e
  have hlen := pick_len e
  have hp := range_part nd hlt
  have split : ∀ f : Nat → Cells, ((List.range g.length).flatMap f).Perm (is.flatMap f ++ ((List.range g.length).filter fun j => decide (j ∉ is)).flatMap f) := fun f => by
    have q := flatMap_perm (f := f) hp
    rw [List.flatMap_append] at q
    exact q
  refine ⟨((List.range g.length).filter fun j => decide (j ∉ is)).flatMap co ++ L, ⟨fun j => co (is.getD j 0), fun j o ej => ?_, ?_⟩, fun F' ad1 gs' c H' gr ag hl' h' => ?_⟩
  · have hj : j < is.length := by
      rw [← hlen]
      exact (List.getElem?_eq_some_iff.mp ej).1
    have e2 : is[j]? = .some (is.getD j 0) := by simp [List.getD, hj]
    rw [pick_get e e2] at ej
    exact h1 _ o ej
  · rw [hlen, flatMap_get co is, ← List.append_assoc]
    exact S.perm ((split co).append_right L).symm
  · obtain ⟨co1, h2, S2⟩ := h'
    have ix : ∀ {i}, i ∈ is → is.idxOf i < is.length := fun {i} hi => List.idxOf_lt_length_of_mem hi
    have gx : ∀ {i}, i ∈ is → is[is.idxOf i]? = .some i := fun {i} hi => by rw [List.getElem?_eq_getElem (ix hi), List.getElem_idxOf]
    refine ⟨fun i => if i ∈ is then co1 (is.idxOf i) else co i, fun i o ei => ?_, ?_⟩
    · by_cases q : i ∈ is
      · show RO K F' o (ad i) (if i ∈ is then co1 (is.idxOf i) else co i)
        rw [if_pos q]
        rw [put_in nd hlt (by rw [hl', hlen]) (gx q)] at ei
        have r := h2 _ o ei
        have e3 : ad1 (is.idxOf i) = ad i := by
          rw [ag _ (by rw [hlen]; exact ix q)]
          show ad (is.getD (is.idxOf i) 0) = ad i
          have : is.getD (is.idxOf i) 0 = i := by rw [List.getD, gx q]; rfl
          rw [this]
        rw [e3] at r
        exact r
      · show RO K F' o (ad i) (if i ∈ is then co1 (is.idxOf i) else co i)
        rw [if_neg q]
        rw [put_out q] at ei
        exact (h1 i o ei).up gr
    · rw [put_len]
      have q := (split fun i => if i ∈ is then co1 (is.idxOf i) else co i).append_right (c ++ L)
      have e2 : ((List.range g.length).filter fun j => decide (j ∉ is)).flatMap (fun i => if i ∈ is then co1 (is.idxOf i) else co i) = ((List.range g.length).filter fun j => decide (j ∉ is)).flatMap co :=
        flatMap_cong fun j hj => by
          have : j ∉ is := by simpa using (List.mem_filter.mp hj).2
          rw [if_neg this]
      have e3 : is.flatMap (fun i => if i ∈ is then co1 (is.idxOf i) else co i) = (List.range gs'.length).flatMap co1 := by
        rw [← flatMap_get (fun i => if i ∈ is then co1 (is.idxOf i) else co i) is, hl', hlen]
        refine flatMap_cong fun j hj => ?_
        have hj := List.mem_range.mp hj
        have e4 : is.getD j 0 = is[j] := by simp [List.getD, hj]
        rw [e4, if_pos (List.getElem_mem hj), nd.idxOf_getElem]
      rw [e2, e3] at q
      refine S2.perm (q.trans ?_)
      rw [List.append_assoc]
      refine List.Perm.append_left _ ?_
      rw [← List.append_assoc, ← List.append_assoc]
      exact List.perm_append_comm.append_right L
theorem hs_ren : ∀ {xs : List SV} {vs : List V} {n : Nat} (k : Nat) (ad2 : Nat → Addr) (m : Nat), RSVs K F n ad xs vs → (∀ j i, (hs xs)[j]? = some i → ad2 (k + j) = ad i) → k + (hs xs).length ≤ m → RSVs K F m ad2 (ren k xs) vs
  | [], _, _, _, _, _, h, _, _ => h
  | .un :: xs, _, n, k, ad2, m, ⟨v, ws, e, h1, h2⟩, _, _ => h1.elim
  | .t t :: xs, _, n, k, ad2, m, ⟨v, ws, e, h1, h2⟩, hk, hm => ⟨v, ws, e, h1, hs_ren k ad2 m h2 hk hm⟩
  | .o i :: xs, _, n, k, ad2, m, ⟨v, ws, e, ⟨h1, e1⟩, h2⟩, hk, hm => by
    have h0 : ad2 k = ad i := hk 0 i rfl
    have hm : k + ((hs xs).length + 1) ≤ m := hm
    refine ⟨v, ws, e, ⟨by omega, by rw [e1, h0]⟩, hs_ren (k + 1) ad2 m h2 (fun j i' e' => ?_) (by omega)⟩
    have q := hk (j + 1) i' (by show (i :: hs xs)[j + 1]? = some i'; simpa using e')
    rw [show k + 1 + j = k + (j + 1) by omega]
    exact q
theorem ren_len : ∀ (xs : List SV) (k : Nat), (ren k xs).length = xs.length
  | [], _ => rfl
  | .un :: xs, k => by simp [ren, ren_len xs]
  | .t _ :: xs, k => by simp [ren, ren_len xs]
  | .o _ :: xs, k => by simp [ren, ren_len xs]
section
variable {E : XK} {te : TE} {ta : TA}
theorem call_post {n : Nat} {m : Mir} {xs : List SV} {vs : List V} {sl : List SV} {Q : VK} {r : O RZ} (hn : xs.length = n) (hv : RSVs K F g.length ad xs vs) (hg : RG K g F ad L H) (hf : callG m xs ⟨sl, g⟩ = some r) (hp : PO K g F ad L (relZ K) Q E r) : spM K n m vs H Q E := by
  unfold callG at hf
  by_cases nd : (hs xs).Nodup
  case neg => rw [if_neg nd] at hf; cases hf
  rw [if_pos nd] at hf
  dsimp only at hf
  cases e : pick g (hs xs) with
  | none => rw [e] at hf; cases hf
  | some gs =>
    rw [e] at hf
    dsimp only at hf
    obtain ⟨L1, h1, bk⟩ := hg.these nd e
    have hlen := pick_len e
    cases em : m (ren 0 xs) gs with
    | none => rw [em] at hf; cases hf
    | some o =>
      rw [em] at hf
      refine ⟨ren 0 xs, gs, F, _, L1, o, by rw [ren_len, hn], hs_ren 0 _ _ hv (fun j i ej => ?_) (by omega), h1, em, ?_⟩
      · show ad ((hs xs).getD (0 + j) 0) = ad i
        rw [Nat.zero_add, List.getD, ej]
        rfl
      · cases o with
        | er c t gs' =>
          dsimp only at hf
          by_cases hl : gs'.length = gs.length
          · rw [if_pos hl] at hf
            cases hf
            intro d v F' ad1 H' nx hr ht hd
            exact hp d v F' ad H' ⟨nx.gr, Ag.refl _ _, by rw [put_len]; exact Nat.le_refl _⟩ (bk F' ad1 gs' [] H' nx.gr nx.ag hl hr) ht hd
          · rw [if_neg hl] at hf; cases hf
        | ok z gs' =>
          dsimp only at hf
          by_cases hl : gs'.length = gs.length
          · rw [if_pos hl] at hf
            cases eb : back (hs xs) z with
            | none => rw [eb] at hf; cases hf
            | some z' =>
              rw [eb] at hf
              cases hf
              intro v F' ad1 H' nx hr
              refine hp v F' ad H' ⟨nx.gr, Ag.refl _ _, by rw [put_len]; exact Nat.le_refl _⟩ ?_
              cases z with
              | n o =>
                cases eb
                obtain ⟨p, c, e1, h2, h3⟩ := hr
                exact ⟨p, c, e1, h2, bk F' ad1 gs' c H' nx.gr nx.ag hl h3⟩
              | v x =>
                obtain ⟨h2, h3⟩ := hr
                have h4 := bk F' ad1 gs' [] H' nx.gr nx.ag hl h3
                cases x with
                | un => exact h2.elim
                | t t =>
                  cases eb
                  exact ⟨h2, h4⟩
                | o j =>
                  unfold back at eb
                  cases ej : (hs xs)[j]? with
                  | none => simp [ej] at eb
                  | some i =>
                    simp only [ej, Option.some.injEq] at eb
                    subst eb
                    obtain ⟨h5, e5⟩ := h2
                    have hm : i ∈ hs xs := List.mem_of_getElem? ej
                    refine ⟨⟨by rw [put_len]; exact pick_lt e i hm, ?_⟩, h4⟩
                    rw [e5, nx.ag j (by omega)]
                    show V.ref (ad ((hs xs).getD j 0)) = _
                    rw [List.getD, ej]
                    rfl
          · rw [if_neg hl] at hf; cases hf
def mCall (n : Nat) (m : Mir) (f : M (List SV)) : M RZ := f.bind fun xs => if xs.length = n then callG m xs else fun _ => none
theorem ee_call {n : Nat} {m : Mir} {f : M (List SV)} (h : AA K E ta f) : EE K E (tCall (spM K n m) [] E ta) (mCall n m f) := by
  refine JJ.bind (u := fun vs σ H Q => spM K n m (vs ++ []) H Q E) h fun xs vs sl g F ad L σ H Q r hs hr hk hp => ?_
  rw [List.append_nil]
  by_cases q : xs.length = n
  · rw [if_pos q] at hk
    exact call_post q hr.1 hr.2 hk hp
  · rw [if_neg q] at hk; cases hk
end
end Mf


set_option Elab.async false
set_option linter.all false
set_option maxRecDepth 100000
set_option maxHeartbeats 4000000
namespace Mf
open PySem PySem.Spec PyProof.Rows L2 Sb
variable {K : PySem.W.Frag} {F F' F2 : Hp} {g g' : List Obj} {ad ad' : Nat → Addr} {L L' : Cells} {H H' : Hp} {σ : L2.St}
section
variable {E : XK} {te ta tb : TE} {tt tu : L2.TT} {c d : M Bool} {fa fb : M SV}
/-! ### tests -/
def mB (f : M SV) : M Bool := f.bind fun x => match x with
  | .t (.bl b) => M.ret b
  | _ => fun _ => none
theorem tt_of {u : L2.TT} (hu : ∀ σ H (Q : Bool → Hp → Prop), (te σ H fun x H1 => ∃ k, x = .bl k ∧ Q k H1) → u σ H Q) (h : EV K E te fa) : TT K E u (mB fa) := by
  have key : JJ K E (relB K) (fun σ H (Q : Bool → Hp → Prop) => te σ H fun x H1 => ∃ k, x = V.bl k ∧ Q k H1) (mB fa) := by
    refine JJ.bind (u := fun x _ H1 (Q : Bool → Hp → Prop) => ∃ k, x = V.bl k ∧ Q k H1) h fun a b sl g F ad L σ H Q r hs hr hk hp => ?_
    obtain ⟨h1, h2⟩ := hr
    cases a with
    | un => exact h1.elim
    | o i => cases hk
    | t t => cases t with
      | bl k =>
        cases hk
        exact ⟨k, h1, hp k F ad H Nx.refl ⟨rfl, h2⟩⟩
      | _ => cases hk
  intro sl g F ad L σ H Q r hs hg hf hp
  exact hu σ H Q (key sl g F ad L σ H Q r hs hg hf hp)
theorem tt_B (h : EV K E te fa) : TT K E (tB te) (mB fa) := tt_of (fun _ _ _ h => h) h
theorem tt_T (h : EV K E te fa) : TT K E (tTest te) (mB fa) := tt_of (fun _ _ _ h => h) h
def mAnd (c d : M Bool) : M Bool := c.bind fun b => if b = true then d else M.ret false
def mOr (c d : M Bool) : M Bool := c.bind fun b => if b = true then M.ret true else d
def mNot (c : M Bool) : M Bool := c.bind fun b => M.ret (!b)
theorem tt_and (h : TT K E tt c) (k : TT K E tu d) : TT K E (tAnd tt tu) (mAnd c d) := by
  refine JJ.bind (u := fun b σ H Q => if b = true then tu σ H Q else Q false H) h fun a b sl g F ad L σ H Q r hs hr hk hp => ?_
  obtain ⟨rfl, hg⟩ := hr
  cases a with
  | true => exact k sl g F ad L σ H Q r hs hg hk hp
  | false =>
    cases hk
    exact hp false F ad H Nx.refl ⟨rfl, hg⟩
theorem tt_or (h : TT K E tt c) (k : TT K E tu d) : TT K E (tOr tt tu) (mOr c d) := by
  refine JJ.bind (u := fun b σ H Q => if b = true then Q true H else tu σ H Q) h fun a b sl g F ad L σ H Q r hs hr hk hp => ?_
  obtain ⟨rfl, hg⟩ := hr
  cases a with
  | false => exact k sl g F ad L σ H Q r hs hg hk hp
  | true =>
    cases hk
    exact hp true F ad H Nx.refl ⟨rfl, hg⟩
theorem tt_not (h : TT K E tt c) : TT K E (tNot tt) (mNot c) := by
  refine JJ.bind (u := fun b σ H Q => Q (!b) H) h fun a b sl g F ad L σ H Q r hs hr hk hp => ?_
  obtain ⟨rfl, hg⟩ := hr
  cases hk
  exact hp _ F ad H Nx.refl ⟨rfl, hg⟩
theorem tt_yes : TT K E tYes (M.ret true) := by
  intro sl g F ad L σ H Q r hs hg hf hp
  cases hf
  exact hp true F ad H Nx.refl ⟨rfl, hg⟩
/-- a if c else b -/
def mIf {α : Type} (c : M Bool) (f k : M α) : M α := c.bind fun b => if b = true then f else k
theorem ee_if {f k : M RZ} (h : TT K E tt c) (h1 : EE K E ta f) (h2 : EE K E tb k) : EE K E (tIf tt ta tb) (mIf c f k) := by
  refine JJ.bind (u := fun b σ H Q => if b = true then ta σ H Q else tb σ H Q) h fun a b sl g F ad L σ H Q r hs hr hk hp => ?_
  obtain ⟨rfl, hg⟩ := hr
  cases a with
  | true => exact h1 sl g F ad L σ H Q r hs hg hk hp
  | false => exact h2 sl g F ad L σ H Q r hs hg hk hp
/-- a bool, and another, as values -/
def mAndV (f k : M SV) : M SV := f.bind fun x => match x with
  | .t (.bl b) => if b = true then k else M.ret (.t (.bl false))
  | _ => fun _ => none
def mOrV (f k : M SV) : M SV := f.bind fun x => match x with
  | .t (.bl b) => if b = true then M.ret (.t (.bl true)) else k
  | _ => fun _ => none
def mNotV (f : M SV) : M SV := f.bind fun x => match x with
  | .t (.bl b) => M.ret (.t (.bl (!b)))
  | _ => fun _ => none
theorem ev_and (h : EV K E ta fa) (k : EV K E tb fb) : EV K E (tAndV ta tb) (mAndV fa fb) := by
  refine JJ.bind (u := fun x σ H Q => ∃ c, x = .bl c ∧ if c = true then tb σ H Q else Q (.bl false) H) h fun a b sl g F ad L σ H Q r hs hr hk hp => ?_
  obtain ⟨h1, h2⟩ := hr
  cases a with
  | un => exact h1.elim
  | o i => cases hk
  | t t => cases t with
    | bl q =>
      refine ⟨q, h1, ?_⟩
      cases q with
      | true => exact k sl g F ad L σ H Q r hs h2 hk hp
      | false =>
        cases hk
        exact hp _ F ad H Nx.refl ⟨rfl, h2⟩
    | _ => cases hk
theorem ev_or (h : EV K E ta fa) (k : EV K E tb fb) : EV K E (tOrV ta tb) (mOrV fa fb) := by
  refine JJ.bind (u := fun x σ H Q => ∃ c, x = .bl c ∧ if c = true then Q (.bl true) H else tb σ H Q) h fun a b sl g F ad L σ H Q r hs hr hk hp => ?_
  obtain ⟨h1, h2⟩ := hr
  cases a with
  | un => exact h1.elim
  | o i => cases hk
  | t t => cases t with
    | bl q =>
      refine ⟨q, h1, ?_⟩
      cases q with
      | false => exact k sl g F ad L σ H Q r hs h2 hk hp
      | true =>
        cases hk
        exact hp _ F ad H Nx.refl ⟨rfl, h2⟩
    | _ => cases hk
theorem ev_not (h : EV K E ta fa) : EV K E (tNotV ta) (mNotV fa) := by
  refine JJ.bind (u := fun x σ H (Q : VK) => ∃ c, x = V.bl c ∧ Q (.bl (!c)) H) h fun a b sl g F ad L σ H Q r hs hr hk hp => ?_
  obtain ⟨h1, h2⟩ := hr
  cases a with
  | un => exact h1.elim
  | o i => cases hk
  | t t => cases t with
    | bl q =>
      cases hk
      exact ⟨q, h1, hp _ F ad H Nx.refl ⟨rfl, h2⟩⟩
    | _ => cases hk
end
/-! ### what a loop walks, and its targets -/
inductive Im where
  | one (t : T) | two (a b : T)
  deriving Inhabited
def ImV (K : PySem.W.Frag) (F H : Hp) : Im → V → Hp → Prop
  | .one t, x, H' => H' = H ∧ RT K F t x
  | .two a b, x, H' => ∃ p u w, x = .ref p ∧ H p = none ∧ H' = upd H p (.tup [u, w]) ∧ RT K F a u ∧ RT K F b w
def relI (K : PySem.W.Frag) : Rel (List Im) It := fun L g F ad ims J H => ∃ (G : Hp → Prop) (Y : Nat → Hp → V → Hp → Prop), Walk J ims.length G Y ∧ (∀ F' H', Gr F F' → Gr F' H' → G H') ∧
  (∀ i H x H', i < ims.length → Y i H x H' → ∃ im, ims[i]? = some im ∧ ImV K F H im x H') ∧ RG K g F ad L H
abbrev II (K : PySem.W.Frag) (E : XK) (wi : TI) (f : M (List Im)) : Prop := JJ K E (relI K) wi f
/-- the slots js alone were stored to -/
def Wp (js : List Nat) (σ σ' : L2.St) : Prop := ∀ vs : List Nat, (∀ j ∈ js, j ∈ vs) → wipe σ' vs = wipe σ vs
theorem wipe_set {j : Nat} {v : Option V} : ∀ {vs : List Nat} {σ : L2.St}, j ∈ vs → wipe (σ.set j v) vs = wipe σ vs
  | [], _, h => by cases h
  | k :: vs, σ, h => by
    unfold wipe
    by_cases q : j ∈ vs
    · rw [wipe_set q]
    · have e : j = k := by
        rcases List.mem_cons.mp h with h | h
        · exact h
        · exact absurd h q
      subst e
      have e2 : ∀ (ws : List Nat), j ∉ ws → wipe (σ.set j v) ws = (wipe σ ws).set j v := by
        intro ws
        induction ws with
        | nil => intro _; rfl
        | cons a ws ih =>
          intro hn
          have h1 : j ≠ a := fun e => hn (e ▸ List.mem_cons_self)
          unfold wipe
          rw [ih fun e => hn (List.mem_cons_of_mem _ e), List.set_comm _ _ h1]
      rw [e2 vs q, List.set_set]
theorem wipe_swap {σ : L2.St} : ∀ (vs : List Nat) (j : Nat), wipe (σ.set j none) vs = (wipe σ vs).set j none
  | [], _ => rfl
  | k :: vs, j => by
    unfold wipe
    rw [wipe_swap vs j]
    by_cases q : j = k
    · subst q; rfl
    · rw [List.set_comm _ _ q]
theorem wipe_wipe {σ : L2.St} : ∀ (vs : List Nat), wipe (wipe σ vs) vs = wipe σ vs
  | [] => rfl
  | k :: vs => by
    show (wipe ((wipe σ vs).set k none) vs).set k none = _
    rw [wipe_swap, wipe_wipe vs, List.set_set]
    rfl
/-- a target, by the item that it gets -/
def GG (K : PySem.W.Frag) (js : List Nat) (tg : TG) (f : Im → List SV → Option (List SV)) : Prop :=
  ∀ (im : Im) (sl sl' : List SV) (n : Nat) (F : Hp) (ad : Nat → Addr) (v : V) (σ : L2.St) (H0 H : Hp) (Q : L2.St → Hp → Prop), Gr F H → RSl K F n ad sl σ → ImV K F H0 im v H → f im sl = some sl' →
    (∀ σ', RSl K F n ad sl' σ' → Wp js σ σ' → Q σ' H) → tg v σ H Q
def GGs (K : PySem.W.Frag) (js : List Nat) (tg : TGs) (f : List T → List SV → Option (List SV)) : Prop :=
  ∀ (ts : List T) (sl sl' : List SV) (n : Nat) (F : Hp) (ad : Nat → Addr) (vs : List V) (σ : L2.St) (H : Hp) (Q : L2.St → Hp → Prop), Gr F H → RSl K F n ad sl σ → RTs K F ts vs → f ts sl = some sl' →
    (∀ σ', RSl K F n ad sl' σ' → Wp js σ σ' → Q σ' H) → tg vs σ H Q
def gN (i : Nat) : Im → List SV → Option (List SV) := fun im sl => match im with
  | .one t => some (sl.set i (.t t))
  | .two _ _ => none
theorem gg_name (i : Nat) : GG K [i] (gName i) (gN i) := by
  intro im sl sl' n F ad v σ H0 H Q gr hs hi hf hq
  cases im with
  | two a b => cases hf
  | one t =>
    cases hf
    exact hq _ (hs.set (x := .t t) hi.2 i) fun vs h => wipe_set (h i List.mem_cons_self)
def gsNil : List T → List SV → Option (List SV) := fun ts sl => match ts with
  | [] => some sl
  | _ => none
def gsCons (f : Im → List SV → Option (List SV)) (k : List T → List SV → Option (List SV)) : List T → List SV → Option (List SV) := fun ts sl => match ts with
  | t :: ts => match f (.one t) sl with
    | some sl' => k ts sl'
    | none => none
  | [] => none
theorem ggs_nil : GGs K [] gNil gsNil := by
  intro ts sl sl' n F ad vs σ H Q gr hs ht hf hq
  cases ts with
  | nil =>
    cases hf
    exact ⟨ht, hq σ hs fun _ _ => rfl⟩
  | cons t ts => cases hf
theorem ggs_cons {js ks : List Nat} {t : TG} {u : TGs} {f : Im → List SV → Option (List SV)} {k : List T → List SV → Option (List SV)} (h : GG K js t f) (h2 : GGs K ks u k) : GGs K (js ++ ks) (gCons t u) (gsCons f k) := by
  intro ts sl sl' n F ad vs σ H Q gr hs ht hf hq
  cases ts with
  | nil => cases hf
  | cons x ts =>
    obtain ⟨v, ws, rfl, h3, h4⟩ := ht
    unfold gsCons at hf
    dsimp only at hf
    cases e : f (.one x) sl with
    | none => rw [e] at hf; cases hf
    | some sl1 =>
      rw [e] at hf
      refine ⟨v, ws, rfl, h (.one x) sl sl1 n F ad v σ H H _ gr hs ⟨rfl, h3⟩ e fun σ1 hs1 w1 => ?_⟩
      exact h2 ts sl1 sl' n F ad ws σ1 H Q gr hs1 h4 hf fun σ2 hs2 w2 => hq σ2 hs2 fun vs hv => by
        rw [w2 vs fun j hj => hv j (List.mem_append_right _ hj), w1 vs fun j hj => hv j (List.mem_append_left _ hj)]
def gT (k : List T → List SV → Option (List SV)) : Im → List SV → Option (List SV) := fun im sl => match im with
  | .one (.tup ts) => k ts sl
  | .two a b => k [a, b] sl
  | _ => none
theorem RTs.len : ∀ {ts : List T} {vs : List V}, RTs K F ts vs → vs.length = ts.length
  | [], _, h => by
    have e : _ = [] := h
    subst e
    rfl
  | _ :: _, _, ⟨_, _, e, _, h⟩ => by subst e; simp [RTs.len h]
theorem gg_tup {js : List Nat} {m : Nat} {u : TGs} {k : List T → List SV → Option (List SV)} (h : GGs K js u k) (hm : ∀ ts sl sl', k ts sl = some sl' → ts.length = m) : GG K js (gTup K m u) (gT k) := by
  intro im sl sl' n F ad v σ H0 H Q gr hs hi hf hq
  cases im with
  | two a b =>
    obtain ⟨p, x, y, rfl, _, eH, h1, h2⟩ := hi
    have e := hm _ _ _ hf
    refine ⟨p, [x, y], rfl, ?_, by simpa using e, ?_⟩
    · rw [eH]
      exact .inl (.inl upd_same)
    · exact h [a, b] sl sl' n F ad [x, y] σ H Q gr hs ⟨x, [y], rfl, h1, y, [], rfl, h2, rfl⟩ hf hq
  | one t =>
    obtain ⟨rfl, ht⟩ := hi
    cases t with
    | tup ts =>
      obtain ⟨p, vs, rfl, h1, h2⟩ := ht
      have e := hm _ _ _ hf
      exact ⟨p, vs, rfl, gr.sqT h1.sqT, by rw [h2.len, e], h ts sl sl' n F ad vs σ H Q gr hs h2 hf hq⟩
    | _ => cases hf
theorem gs_len_nil : ∀ ts sl sl', gsNil ts sl = some sl' → ts.length = 0 := by
  intro ts sl sl' h
  cases ts with
  | nil => rfl
  | cons _ _ => cases h
theorem gs_len_cons {m : Nat} {f : Im → List SV → Option (List SV)} {k : List T → List SV → Option (List SV)} (hm : ∀ ts sl sl', k ts sl = some sl' → ts.length = m) : ∀ ts sl sl', gsCons f k ts sl = some sl' → ts.length = m + 1 := by
  intro ts sl sl' h
  cases ts with
  | nil => cases h
  | cons t ts =>
    unfold gsCons at h
    dsimp only at h
    cases e : f (.one t) sl with
    | none => rw [e] at h; cases h
    | some s1 =>
      rw [e] at h
      rw [List.length_cons, hm _ _ _ h]
section
variable {E : XK}
/-! ### for -/
def loopF (ft : Im → List SV → Option (List SV)) (fb : M Fl) : List Im → M Fl
  | [] => sNx
  | im :: r => fun s => match ft im s.sl with
    | none => none
    | some sl => match fb ⟨sl, s.g⟩ with
      | some (.ok (.nx sl2) g2) => loopF ft fb r ⟨sl2, g2⟩
      | o => o
def sFor (fi : M (List Im)) (ft : Im → List SV → Option (List SV)) (fb : M Fl) : M Fl := fi.bind fun ims => loopF ft fb ims
/-- what an item leaves of the heap -/
theorem RG.item {im : Im} {x : V} (h : RG K g F ad L H) (hi : ImV K F H im x H') : RG K g F ad L H' := by
  cases im with
  | one t => rw [hi.1]; exact h
  | two a b =>
    obtain ⟨p, u, w, _, hp, e, _⟩ := hi
    rw [e]
    exact h.newX hp _
theorem ImV.up (gr : Gr F F') {im : Im} {x : V} (hi : ImV K F H im x H') : ImV K F' H im x H' := by
  cases im with
  | one t => exact ⟨hi.1, RT.up gr _ _ hi.2⟩
  | two a b =>
    obtain ⟨p, u, w, h1, h2, h3, h4, h5⟩ := hi
    exact ⟨p, u, w, h1, h2, h3, RT.up gr _ _ h4, RT.up gr _ _ h5⟩
theorem ss_for {wi : TI} {fi : M (List Im)} {js : List Nat} {tg : TG} {ft : Im → List SV → Option (List SV)} {tb : TS} {fb : M Fl} (hw : II K E wi fi) (hg : GG K js tg ft) (hb : SS K E tb fb) : SS K E (tFor wi tg tb) (sFor fi ft fb) := by
  refine JJ.stmt (u := fun J D σ H => ∃ W : Nat → Nat → L2.St → Hp → Prop, (∃ m, W 0 m σ H) ∧ ∀ i m σ H, W i m σ H →
    (J.stop i H ∧ D.nx σ H) ∨ (J.go i H ∧ ∃ N : L2.St → Hp → Prop, (∀ σ' H', N σ' H' → ∃ m', m' < m ∧ W (i + 1) m' σ' H') ∧ ∀ x H', J.yld i H x H' → tg x σ H' fun σ2 H2 => tb { D with nx := N, ct := N, bk := D.nx } σ2 H2)) hw
    fun ims J sl g F ad L σ H D r hs hr hk hp => ?_
  obtain ⟨G, Y, wk, hG, hY, hg0⟩ := hr
  refine for_it wk (fun i σ H => ∃ sl1 g1 F1 ad1, Nx g F ad g1 F1 ad1 ∧ RSl K F1 g1.length ad1 sl1 σ ∧ RG K g1 F1 ad1 L H ∧ loopF ft fb (ims.drop i) ⟨sl1, g1⟩ = some r)
    ⟨sl, g, F, ad, Nx.refl, hs, hg0, hk⟩ (fun i σ H _ ⟨_, _, F1, _, n, _, h, _⟩ => hG F1 H n.gr h.gr) ?_ ?_
  · rintro i x σ1 H1 H2 hi ⟨sl1, g1, F1, ad1, n1, hs1, hg1, hl⟩ hy
    obtain ⟨im, eim, hiv⟩ := hY i H1 x H2 hi hy
    have ed : ims.drop i = im :: ims.drop (i + 1) := by
      have e := List.drop_eq_getElem_cons hi
      have e2 : ims[i] = im := by
        have := List.getElem?_eq_getElem hi
        rw [eim] at this
        exact (Option.some.inj this).symm
      rw [e, e2]
    rw [ed] at hl
    unfold loopF at hl
    dsimp only at hl
    have hiv := hiv.up n1.gr
    have hg2 := hg1.item hiv
    cases e : ft im sl1 with
    | none => rw [e] at hl; cases hl
    | some sl2 =>
      rw [e] at hl
      dsimp only at hl
      refine hg im sl1 sl2 _ F1 ad1 x σ1 H1 H2 _ hg2.gr hs1 hiv e fun σ2 hs2 _ => ?_
      cases eb : fb ⟨sl2, g1⟩ with
      | none => rw [eb] at hl; cases hl
      | some o =>
        rw [eb] at hl
        refine hb sl2 g1 F1 ad1 L σ2 H2 _ o hs2 hg2 eb ?_
        cases o with
        | er c t g3 =>
          cases hl
          exact (hp.nx n1 : PS' K g1 F1 ad1 L D E (.er c t g3))
        | ok a g3 =>
          cases a with
          | rt z =>
            cases hl
            exact (hp.nx n1 : PS' K g1 F1 ad1 L D E (.ok (.rt z) g3))
          | nx sl3 => exact fun σ3 F3 ad3 H3 n3 hs3 hg3 => ⟨sl3, g3, F3, ad3, n1.trans n3, hs3, hg3, hl⟩
  · rintro σ1 H1 ⟨sl1, g1, F1, ad1, n1, hs1, hg1, hl⟩
    rw [List.drop_length] at hl
    cases hl
    exact hp σ1 F1 ad1 H1 n1 hs1 hg1
/-! ### while -/
def loopW (c : M Bool) (fb : M Fl) : Nat → M Fl
  | 0 => fun _ => none
  | n + 1 => fun s => match c s with
    | none => none
    | some (.er c t g) => some (.er c t g)
    | some (.ok false g) => some (.ok (.nx s.sl) g)
    | some (.ok true g) => match fb ⟨s.sl, g⟩ with
      | some (.ok (.nx sl2) g2) => loopW c fb n ⟨sl2, g2⟩
      | o => o
def bigN : Nat := 1000000000
def sWhile (c : M Bool) (fb : M Fl) : M Fl := loopW c fb bigN
theorem ss_while {tc : L2.TT} {c : M Bool} {tb : TS} {fb : M Fl} (hc : TT K E tc c) (hb : SS K E tb fb) : SS K E (tWhile tc tb) (sWhile c fb) := by
  intro sl g F ad L σ H D r hs hg hf hp
  refine ⟨fun m σ H => ∃ sl1 g1 F1 ad1, Nx g F ad g1 F1 ad1 ∧ RSl K F1 g1.length ad1 sl1 σ ∧ RG K g1 F1 ad1 L H ∧ loopW c fb m ⟨sl1, g1⟩ = some r, ⟨bigN, sl, g, F, ad, Nx.refl, hs, hg, hf⟩, ?_⟩
  rintro m σ1 H1 ⟨sl1, g1, F1, ad1, n1, hs1, hg1, hl⟩
  cases m with
  | zero => cases hl
  | succ m =>
    unfold loopW at hl
    dsimp only at hl
    cases e : c ⟨sl1, g1⟩ with
    | none => rw [e] at hl; cases hl
    | some o =>
      rw [e] at hl
      refine hc sl1 g1 F1 ad1 L σ1 H1 _ o hs1 hg1 e ?_
      cases o with
      | er c t g3 =>
        cases hl
        exact (hp.nx n1 : PS' K g1 F1 ad1 L D E (.er c t g3))
      | ok a g2 =>
        rintro b F2 ad2 H2 n2 ⟨rfl, hg2⟩
        have n12 := n1.trans n2
        have hs2 := hs1.nx n2
        cases a with
        | false =>
          cases hl
          exact hp σ1 F2 ad2 H2 n12 hs2 hg2
        | true =>
          dsimp only at hl
          refine ⟨fun σ' H' => ∃ sl3 g3 F3 ad3, Nx g F ad g3 F3 ad3 ∧ RSl K F3 g3.length ad3 sl3 σ' ∧ RG K g3 F3 ad3 L H' ∧ loopW c fb m ⟨sl3, g3⟩ = some r, fun σ' H' h => ⟨m, Nat.lt_succ_self _, h⟩, ?_⟩
          cases eb : fb ⟨sl1, g2⟩ with
          | none => rw [eb] at hl; cases hl
          | some o =>
            rw [eb] at hl
            refine hb sl1 g2 F2 ad2 L σ1 H2 _ o hs2 hg2 eb ?_
            cases o with
            | er c t g3 =>
              cases hl
              exact (hp.nx n12 : PS' K g2 F2 ad2 L D E (.er c t g3))
            | ok a g3 =>
              cases a with
              | rt z =>
                cases hl
                exact (hp.nx n12 : PS' K g2 F2 ad2 L D E (.ok (.rt z) g3))
              | nx sl3 => exact fun σ3 F3 ad3 H3 n3 hs3 hg3 => ⟨sl3, g3, F3, ad3, n12.trans n3, hs3, hg3, hl⟩
/-! ### comprehensions -/
def wipeS (sl : List SV) : List Nat → List SV
  | [] => sl
  | v :: vs => (wipeS sl vs).set v .un
theorem RSl.wipe {n : Nat} {sl : List SV} (h : RSl K F n ad sl σ) : ∀ (vs : List Nat), RSl K F n ad (wipeS sl vs) (L2.wipe σ vs)
  | [] => h
  | v :: vs => (RSl.wipe h vs).clr none v
def loopC (sl0 : List SV) (ft : Im → List SV → Option (List SV)) (fc : M Bool) (fe : M SV) : List Im → List T → List Obj → Option (O RZ)
  | [], acc, g => some (.ok (.n (.lst acc)) g)
  | im :: r, acc, g => match ft im sl0 with
    | none => none
    | some sl => match fc ⟨sl, g⟩ with
      | none => none
      | some (.er _ _ _) => none
      | some (.ok false g) => loopC sl0 ft fc fe r acc g
      | some (.ok true g) => match fe ⟨sl, g⟩ with
        | some (.ok (.t t) g) => if acc.length < 100000 then loopC sl0 ft fc fe r (acc ++ [t]) g else none
        | _ => none
def mComp (vs : List Nat) (fi : M (List Im)) (ft : Im → List SV → Option (List SV)) (fc : M Bool) (fe : M SV) : M RZ := fi.bind fun ims s => loopC (wipeS s.sl vs) ft fc fe ims [] s.g
theorem RTs.app : ∀ {xs ys : List T} {vs ws : List V}, RTs K F xs vs → RTs K F ys ws → RTs K F (xs ++ ys) (vs ++ ws)
  | [], _, _, _, h, k => by
    have e : _ = [] := h
    subst e
    exact k
  | _ :: _, _, _, _, ⟨v, ws, e, h1, h2⟩, k => by
    subst e
    exact ⟨v, _, rfl, h1, RTs.app h2 k⟩
/-- a comprehension of E = E0 within: nothing is raised in it -/
theorem ee_comp {wi : TI} {fi : M (List Im)} {js vs : List Nat} {tg : TG} {ft : Im → List SV → Option (List SV)} {tt : L2.TT} {fc : M Bool} {te : TE} {fe : M SV} (hjs : ∀ j ∈ js, j ∈ vs) (hw : II K E wi fi) (hg : GG K js tg ft) (hc : TT K C8.E0 tt fc) (he : EV K C8.E0 te fe) :
    EE K E (tLc wi tg tt te vs) (mComp vs fi ft fc fe) := by
  refine JJ.bind (u := fun J σ H1 (Q : VK) => ∀ D, H1 D = none → ∃ W : Nat → Nat → Hp → Prop, (∃ m, W 0 m (upd H1 D (.lst []))) ∧ ∀ i m H, W i m H →
    (J.stop i H ∧ Q (.ref D) H) ∨ (J.go i H ∧ ∃ Nx : Hp → Prop, (∀ H', Nx H' → ∃ m', m' < m ∧ W (i + 1) m' H') ∧ ∀ x H', J.yld i H x H' → tg x (L2.wipe σ vs) H' fun σ2 H2 => L2.wipe σ2 vs = L2.wipe σ vs ∧ tt σ2 H2 fun b H3 =>
      if b = true then te σ2 H3 fun y H4 => ∃ acc, H4 D = some (.lst acc) ∧ acc.length < sizeLine ∧ Nx (upd H4 D (.lst (acc ++ [y]))) else Nx H3)) hw fun ims J sl g F ad L σ H Q r hs hr hk hp D hD => ?_
  obtain ⟨G, Y, wk, hG, hY, hg0⟩ := hr
  have hk : loopC (wipeS sl vs) ft fc fe ims [] g = some r := hk
  refine lc_it wk (fun i H => ∃ (acc : List T) (vs' : List V) (g1 : List Obj) (F1 : Hp) (ad1 : Nat → Addr), Nx g F ad g1 F1 ad1 ∧ RTs K F1 acc vs' ∧ RG K g1 F1 ad1 ((D, .lst vs') :: L) H ∧ loopC (wipeS sl vs) ft fc fe (ims.drop i) acc g1 = some r)
    ⟨[], [], g, F, ad, Nx.refl, rfl, hg0.new hD _, hk⟩ (fun i H _ ⟨_, _, _, F1, _, n, _, h, _⟩ => hG F1 H n.gr h.gr) ?_ ?_
  · rintro i x H1 H2 hi ⟨acc, vs', g1, F1, ad1, n1, ha, hg1, hl⟩ hy
    obtain ⟨im, eim, hiv⟩ := hY i H1 x H2 hi hy
    have ed : ims.drop i = im :: ims.drop (i + 1) := by
      have e := List.drop_eq_getElem_cons hi
      have e2 : ims[i] = im := by
        have := List.getElem?_eq_getElem hi
        rw [eim] at this
        exact (Option.some.inj this).symm
      rw [e, e2]
    rw [ed] at hl
    unfold loopC at hl
    have hiv := hiv.up n1.gr
    have hg2 := hg1.item hiv
    cases e : ft im (wipeS sl vs) with
    | none => rw [e] at hl; cases hl
    | some sl2 =>
      rw [e] at hl
      dsimp only at hl
      refine hg im (wipeS sl vs) sl2 _ F1 ad1 x _ H1 H2 _ hg2.gr ((hs.nx n1).wipe vs) hiv e fun σ2 hs2 w2 => ⟨by rw [w2 vs hjs, wipe_wipe], ?_⟩
      cases ec : fc ⟨sl2, g1⟩ with
      | none => rw [ec] at hl; cases hl
      | some o =>
        rw [ec] at hl
        refine hc sl2 g1 F1 ad1 _ σ2 H2 _ o hs2 hg2 ec ?_
        cases o with
        | er c t g3 => cases hl
        | ok b g2 =>
          rintro b' F2 ad2 H3 n2 ⟨rfl, hg3⟩
          have n12 := n1.trans n2
          have ha2 := RTs.up n2.gr _ _ ha
          cases b with
          | false => exact ⟨acc, vs', g2, F2, ad2, n12, ha2, hg3, hl⟩
          | true =>
            dsimp only at hl
            cases ee : fe ⟨sl2, g2⟩ with
            | none => rw [ee] at hl; cases hl
            | some o =>
              rw [ee] at hl
              refine he sl2 g2 F2 ad2 _ σ2 H3 _ o (hs2.nx n2) hg3 ee ?_
              cases o with
              | er c t g3 => cases hl
              | ok y g3 =>
                cases y with
                | un => cases hl
                | o j => cases hl
                | t t =>
                  dsimp only at hl
                  by_cases hlen : acc.length < 100000
                  · rw [if_pos hlen] at hl
                    rintro v F4 ad4 H4 n4 ⟨hv, hg4⟩
                    have ha4 := RTs.up n4.gr _ _ ha2
                    have el : vs'.length = acc.length := ha4.len
                    refine ⟨vs', hg4.hd, by rw [el]; exact szl hlen, acc ++ [t], vs' ++ [v], g3, F4, ad4, n12.trans n4, ha4.app ⟨v, [], rfl, hv, rfl⟩, hg4.setL _, hl⟩
                  · rw [if_neg hlen] at hl; cases hl
  · rintro H1 ⟨acc, vs', g1, F1, ad1, n1, ha, hg1, hl⟩
    rw [List.drop_length] at hl
    cases hl
    exact hp _ F1 ad1 H1 n1 ⟨D, [(D, .lst vs')], rfl, ⟨vs', rfl, ha⟩, hg1⟩
end
end Mf


set_option Elab.async false
set_option linter.all false
set_option maxRecDepth 100000
set_option maxHeartbeats 4000000
namespace Mf
open PySem PySem.Spec PyProof.Rows L2 Sb
variable {K : PySem.W.Frag} {F F' F2 : Hp} {g g' : List Obj} {ad ad' : Nat → Addr} {L L' : Cells} {H H' : Hp} {σ : L2.St}
/-! ### lists of trees and of values -/
theorem RTs.get : ∀ {ts : List T} {vs : List V} {i : Nat} {t : T}, RTs K F ts vs → ts[i]? = some t → ∃ v, vs[i]? = some v ∧ RT K F t v
  | [], _, i, _, _, e => by simp at e
  | x :: ts, _, 0, t, ⟨v, ws, ev, h1, h2⟩, e => by
    subst ev
    simp at e
    subst e
    exact ⟨v, rfl, h1⟩
  | x :: ts, _, i + 1, t, ⟨v, ws, ev, h1, h2⟩, e => by
    subst ev
    obtain ⟨u, e1, e2⟩ := RTs.get h2 (show ts[i]? = some t by simpa using e)
    exact ⟨u, by simpa using e1, e2⟩
theorem RTs.take : ∀ {ts : List T} {vs : List V} (n : Nat), RTs K F ts vs → RTs K F (ts.take n) (vs.take n)
  | [], _, n, h => by
    have e : _ = [] := h
    subst e
    cases n <;> exact (rfl : ([] : List V) = [])
  | x :: ts, _, 0, h => (rfl : ([] : List V) = [])
  | x :: ts, _, n + 1, ⟨v, ws, e, h1, h2⟩ => by
    subst e
    exact ⟨v, _, rfl, h1, RTs.take n h2⟩
theorem RTs.drop : ∀ {ts : List T} {vs : List V} (n : Nat), RTs K F ts vs → RTs K F (ts.drop n) (vs.drop n)
  | [], _, n, h => by
    have e : _ = [] := h
    subst e
    cases n <;> exact (rfl : ([] : List V) = [])
  | x :: ts, _, 0, h => h
  | x :: ts, _, n + 1, ⟨v, ws, e, h1, h2⟩ => by
    subst e
    exact RTs.drop n h2
theorem RTs.rev {ts : List T} {vs : List V} (h : RTs K F ts vs) : RTs K F ts.reverse vs.reverse := by
  induction ts generalizing vs with
  | nil =>
    have e : vs = [] := h
    subst e
    exact (rfl : ([] : List V) = [])
  | cons x ts ih =>
    obtain ⟨v, ws, rfl, h1, h2⟩ := h
    rw [List.reverse_cons, List.reverse_cons]
    exact (ih h2).app ⟨v, [], rfl, h1, rfl⟩
theorem RTs.set : ∀ {ts : List T} {vs : List V} (i : Nat) {t : T} {v : V}, RT K F t v → RTs K F ts vs → RTs K F (ts.set i t) (vs.set i v)
  | [], _, i, t, v, _, h => by
    have e : _ = [] := h
    subst e
    exact (rfl : ([] : List V) = [])
  | x :: ts, _, 0, t, v, ht, ⟨u, ws, e, h1, h2⟩ => by
    subst e
    exact ⟨v, ws, rfl, ht, h2⟩
  | x :: ts, _, i + 1, t, v, ht, ⟨u, ws, e, h1, h2⟩ => by
    subst e
    exact ⟨u, _, rfl, h1, RTs.set i ht h2⟩
theorem RTs.era : ∀ {ts : List T} {vs : List V} (i : Nat), RTs K F ts vs → RTs K F (ts.eraseIdx i) (vs.eraseIdx i)
  | [], _, i, h => by
    have e : _ = [] := h
    subst e
    exact (rfl : ([] : List V) = [])
  | x :: ts, _, 0, ⟨u, ws, e, h1, h2⟩ => by
    subst e
    exact h2
  | x :: ts, _, i + 1, ⟨u, ws, e, h1, h2⟩ => by
    subst e
    exact ⟨u, _, rfl, h1, RTs.era i h2⟩
theorem RTs.strs : ∀ {ws : List Str} {vs : List V}, RTs K F (ws.map T.str) vs → vs = ws.map V.str
  | [], _, h => h
  | w :: ws, _, ⟨u, us, e, h1, h2⟩ => by
    have h1 : u = .str w := h1
    subst e h1
    rw [RTs.strs h2]
    rfl
theorem RTs.ofStrs : ∀ (ws : List Str), RTs K F (ws.map T.str) (ws.map V.str)
  | [] => rfl
  | w :: ws => ⟨_, _, rfl, rfl, RTs.ofStrs ws⟩
theorem RTs.ints : ∀ {ws : List Int} {vs : List V}, RTs K F (ws.map T.int) vs → vs = ws.map V.int
  | [], _, h => h
  | w :: ws, _, ⟨u, us, e, h1, h2⟩ => by
    have h1 : u = .int w := h1
    subst e h1
    rw [RTs.ints h2]
    rfl
theorem RTs.ofInts : ∀ (ws : List Int), RTs K F (ws.map T.int) (ws.map V.int)
  | [] => rfl
  | w :: ws => ⟨_, _, rfl, rfl, RTs.ofInts ws⟩
theorem RTs.bools : ∀ {ws : List Bool} {vs : List V}, RTs K F (ws.map T.bl) vs → vs = ws.map V.bl
  | [], _, h => h
  | w :: ws, _, ⟨u, us, e, h1, h2⟩ => by
    have h1 : u = .bl w := h1
    subst e h1
    rw [RTs.bools h2]
    rfl
theorem RTs.one {t : T} {v : V} (h : RT K F t v) : RTs K F [t] [v] := ⟨v, [], rfl, h, rfl⟩
/-! ### a value as a list, a tuple, a dict -/
/-- a list that may be read -/
def vL (g : List Obj) : SV → Option (List T)
  | .t (.lst xs) => some xs
  | .t (.scr ns) => some (ns.map T.int)
  | .o i => match g[i]? with
    | some (.lst xs) => some xs
    | some (.frz (.lst xs)) => some xs
    | _ => none
  | _ => none
/-- .. that is none of the law's own script -/
def vM (g : List Obj) : SV → Option (List T)
  | .t (.lst xs) => some xs
  | .o i => match g[i]? with
    | some (.lst xs) => some xs
    | some (.frz (.lst xs)) => some xs
    | _ => none
  | _ => none
def vU (g : List Obj) : SV → Option (List T)
  | .t (.tup xs) => some xs
  | _ => none
theorem RG.isL {i : Nat} {xs : List T} (h : RG K g F ad L H) (e : g[i]? = some (.lst xs)) : ∃ vs, H (ad i) = some (.lst vs) ∧ RTs K F xs vs := by
  obtain ⟨c, R, ⟨vs, rfl, r⟩, S, _⟩ := h.focus e
  exact ⟨vs, S.l List.mem_cons_self, r⟩
theorem vM_ok {n : Nat} {x : SV} {v : V} {xs : List T} (hg : RG K g F ad L H) (hv : RSV K F n ad x v) (e : vM g x = some xs) : ∃ p vs, v = .ref p ∧ H p = some (.lst vs) ∧ RTs K F xs vs := by
  have tr : ∀ v, RT K F (.lst xs) v → ∃ p vs, v = .ref p ∧ H p = some (.lst vs) ∧ RTs K F xs vs := fun v h => by
    obtain ⟨p, vs, e, h1, h2⟩ := h
    exact ⟨p, vs, e, hg.gr _ _ h1, h2⟩
  cases x with
  | un => cases e
  | t t => cases t with
    | lst ys =>
      cases e
      exact tr v hv
    | _ => cases e
  | o i =>
    obtain ⟨_, rfl⟩ := hv
    unfold vM at e
    dsimp only at e
    cases eo : g[i]? with
    | none => rw [eo] at e; cases e
    | some o =>
      rw [eo] at e
      cases o with
      | lst ys =>
        cases e
        obtain ⟨vs, h1, h2⟩ := hg.isL eo
        exact ⟨_, vs, rfl, h1, h2⟩
      | frz t => cases t with
        | lst ys =>
          cases e
          obtain ⟨c, R, ⟨_, r⟩, S, _⟩ := hg.focus eo
          exact tr _ r
        | _ => cases e
      | _ => cases e
theorem vL_ok {n : Nat} {x : SV} {v : V} {xs : List T} (hg : RG K g F ad L H) (hv : RSV K F n ad x v) (e : vL g x = some xs) : ∃ p vs, v = .ref p ∧ SqL K H p vs ∧ RTs K F xs vs := by
  by_cases q : ∃ ns, x = .t (.scr ns)
  · obtain ⟨ns, rfl⟩ := q
    cases e
    obtain ⟨p, rfl, h⟩ := hv
    exact ⟨p, _, rfl, hg.gr.sqL h, RTs.ofInts ns⟩
  · have e' : vM g x = some xs := by
      cases x with
      | un => cases e
      | t t => cases t with
        | scr ns => exact absurd ⟨ns, rfl⟩ q
        | lst ys => exact e
        | _ => cases e
      | o i => exact e
    obtain ⟨p, vs, h1, h2, h3⟩ := vM_ok hg hv e'
    exact ⟨p, vs, h1, .of h2, h3⟩
theorem vU_ok {n : Nat} {x : SV} {v : V} {xs : List T} (hg : RG K g F ad L H) (hv : RSV K F n ad x v) (e : vU g x = some xs) : ∃ p vs, v = .ref p ∧ PT K H p vs ∧ RTs K F xs vs := by
  cases x with
  | un => cases e
  | o i => cases e
  | t t => cases t with
    | tup ys =>
      cases e
      obtain ⟨p, vs, e, h1, h2⟩ := hv
      exact ⟨p, vs, e, h1.up hg.gr, h2⟩
    | _ => cases e
/-! ### results -/
theorem resT {t : T} {v : V} {Q : VK} (hg : RG K g F ad L H) (h : RT K F t v) (k : ∀ v F' ad' H', Nx g F ad g F' ad' → relZ K L g F' ad' (.v (.t t)) v H' → Q v H') : Q v H := k v F ad H Nx.refl ⟨h, hg⟩
/-- a new list -/
theorem newL {ts : List T} {vs : List V} {Q : VK} (hg : RG K g F ad L H) (h : RTs K F ts vs) (k : ∀ v F' ad' H', Nx g F ad g F' ad' → relZ K L g F' ad' (.n (.lst ts)) v H' → Q v H') : ∀ p, H p = none → Q (.ref p) (upd H p (.lst vs)) :=
  fun p hp => k _ F ad _ Nx.refl ⟨p, [(p, .lst vs)], rfl, ⟨vs, rfl, h⟩, hg.new hp _⟩
/-- a new tuple -/
theorem newT {ts : List T} {vs : List V} {Q : VK} (hg : RG K g F ad L H) (h : RTs K F ts vs) (k : ∀ v F' ad' H', Nx g F ad g F' ad' → relZ K L g F' ad' (.v (.t (.tup ts))) v H' → Q v H') : NewT vs H Q := fun p o hc hd hp => by
  obtain ⟨F', gr, pt, hg'⟩ := hg.newT (xs := vs) hp hc hd
  exact k _ F' ad _ ⟨gr, Ag.refl _ _, Nat.le_refl _⟩ ⟨⟨p, vs, rfl, pt, RTs.up gr _ _ h⟩, hg'⟩
/-- a list that may change has changed -/
theorem putL {i : Nat} {xs ts : List T} {vs : List V} {z : SV} {v : V} {Q : VK} (hg : RG K g F ad L H) (e : g[i]? = some (.lst xs)) (h : RTs K F ts vs) (hz : RSV K F g.length ad z v)
    (k : ∀ v F' ad' H', Nx g F ad (g.set i (.lst ts)) F' ad' → relZ K L (g.set i (.lst ts)) F' ad' (.v z) v H' → Q v H') : Q v (upd H (ad i) (.lst vs)) := by
  obtain ⟨c, R, ⟨us, rfl, r⟩, S, back⟩ := hg.focus e
  have h2 := back F (.lst ts) [(ad i, .lst vs)] _ (Gr.refl _) ⟨vs, rfl, h⟩ (Sta.set S (.lst vs))
  exact k v F ad _ ⟨Gr.refl _, Ag.refl _ _, by rw [List.length_set]; exact Nat.le_refl _⟩ ⟨by rw [List.length_set]; exact hz, h2⟩
end Mf


set_option Elab.async false
set_option linter.all false
set_option maxRecDepth 100000
set_option maxHeartbeats 4000000
namespace Mf
open PySem PySem.Spec PyProof.Rows L2 Sb
variable {K : PySem.W.Frag} {F F' F2 : Hp} {g g' : List Obj} {ad ad' : Nat → Addr} {L L' : Cells} {H H' : Hp} {σ : L2.St}
abbrev ti (i : Int) : RZ := .v (.t (.int i))
abbrev tb (b : Bool) : RZ := .v (.t (.bl b))
/-! ### whole numbers -/
def opI (C : Int → Int → Bool) (f : Int → Int → T) : VO := fun g xs => match xs with
  | [.t (.int i), .t (.int j)] => if C i j = true then some (.v (.t (f i j)), g) else none
  | _ => none
theorem vo_I {C : Int → Int → Bool} {D : Int → Int → Prop} {f : Int → Int → T} {h : Int → Int → V} (hC : ∀ i j, C i j = true → D i j) (hf : ∀ F i j, RT K F (f i j) (h i j)) : VOK K (r2 (rI D h)) (opI C f) := by
  intro g F ad L H xs vs Q z g' hg hv ho k
  unfold opI at ho
  split at ho
  · rename_i i j
    obtain ⟨v1, _, rfl, h1, v2, _, rfl, h2, rfl⟩ := hv
    by_cases q : C i j = true
    · rw [if_pos q] at ho
      cases ho
      exact ⟨i, j, h1, h2, hC _ _ q, resT hg (hf F i j) k⟩
    · rw [if_neg q] at ho; cases ho
  · cases ho
def opI0 (f : Int → Int → T) : VO := fun g xs => match xs with
  | [.t (.int i), .t (.int j)] => some (.v (.t (f i j)), g)
  | _ => none
theorem vo_I0 {f : Int → Int → T} {h : Int → Int → V} (hf : ∀ F i j, RT K F (f i j) (h i j)) : VOK K (r2 (rI0 h)) (opI0 f) := by
  intro g F ad L H xs vs Q z g' hg hv ho k
  unfold opI0 at ho
  split at ho
  · rename_i i j
    obtain ⟨v1, _, rfl, h1, v2, _, rfl, h2, rfl⟩ := hv
    cases ho
    exact ⟨i, j, h1, h2, resT hg (hf F i j) k⟩
  · cases ho
def oAdd : VO := opI0 fun i j => .int (i + j)
def oSub : VO := opI0 fun i j => .int (i - j)
def oLt : VO := opI0 fun i j => .bl (decide (i < j))
def oLe : VO := opI0 fun i j => .bl (decide (i ≤ j))
def oGt : VO := opI0 fun i j => .bl (decide (j < i))
def oGe : VO := opI0 fun i j => .bl (decide (j ≤ i))
def cMul (i j : Int) : Bool := (decide (-(2 ^ 64) < i) && decide (i < 2 ^ 64)) || (decide (-(2 ^ 64) < j) && decide (j < 2 ^ 64))
def oMul : VO := opI cMul fun i j => .int (i * j)
def oMod : VO := opI (fun _ j => decide (j ≠ 0)) fun i j => .int (i.fmod j)
def oDiv : VO := opI (fun _ j => decide (j ≠ 0) && decide (j.natAbs < 1073741824)) fun i j => .int (i.fdiv j)
def oPow : VO := opI (fun i j => decide (0 ≤ j) && (decide (j ≤ 1000000) && decide (i.natAbs < 2 ^ 64))) fun i j => .int (i ^ j.toNat)
theorem vo_add : VOK K (r2 (rI0 fun i j => .int (i + j))) oAdd := vo_I0 fun _ _ _ => rfl
theorem vo_sub : VOK K (r2 (rI0 fun i j => .int (i - j))) oSub := vo_I0 fun _ _ _ => rfl
theorem vo_mul : VOK K (r2 (rI CMul fun i j => .int (i * j))) oMul := vo_I (fun i j h => by
  unfold cMul at h
  rcases Bool.or_eq_true_iff.mp h with h | h
  · obtain ⟨a, b⟩ := Bool.and_eq_true_iff.mp h
    exact .inl ⟨of_decide_eq_true a, of_decide_eq_true b⟩
  · obtain ⟨a, b⟩ := Bool.and_eq_true_iff.mp h
    exact .inr ⟨of_decide_eq_true a, of_decide_eq_true b⟩) fun _ _ _ => rfl
theorem vo_mod : VOK K (r2 (rI (fun _ j => j ≠ 0) fun i j => .int (i.fmod j))) oMod := vo_I (fun i j h => of_decide_eq_true h) fun _ _ _ => rfl
theorem vo_div : VOK K (r2 (rI CDivN fun i j => .int (i.fdiv j))) oDiv := vo_I (fun i j h => by
  obtain ⟨a, b⟩ := Bool.and_eq_true_iff.mp h
  exact ⟨of_decide_eq_true a, of_decide_eq_true b⟩) fun _ _ _ => rfl
theorem vo_pow : VOK K (r2 (rI CPow fun i j => .int (i ^ j.toNat))) oPow := vo_I (fun i j h => by
  obtain ⟨a, h⟩ := Bool.and_eq_true_iff.mp h
  obtain ⟨b, c⟩ := Bool.and_eq_true_iff.mp h
  exact ⟨of_decide_eq_true a, of_decide_eq_true b, of_decide_eq_true c⟩) fun _ _ _ => rfl
theorem vo_lt : VOK K (r2 (rI0 fun i j => .bl (decide (i < j)))) oLt := vo_I0 fun _ _ _ => rfl
theorem vo_le : VOK K (r2 (rI0 fun i j => .bl (decide (i ≤ j)))) oLe := vo_I0 fun _ _ _ => rfl
theorem vo_gt : VOK K (r2 (rI0 fun i j => .bl (decide (j < i)))) oGt := vo_I0 fun _ _ _ => rfl
theorem vo_ge : VOK K (r2 (rI0 fun i j => .bl (decide (j ≤ i)))) oGe := vo_I0 fun _ _ _ => rfl
/-- int(a bool) -/
def oInt : VO := fun g xs => match xs with
  | [.t (.bl b)] => some (.v (.t (.int (if b then 1 else 0))), g)
  | [.t (.int i)] => some (.v (.t (.int i)), g)
  | _ => none
theorem vo_int : VOK K (fun xs H Q => (∃ i, xs = [.int i] ∧ Q (.int i) H) ∨ ∃ k, xs = [.bl k] ∧ Q (.int (if k then 1 else 0)) H) oInt := by
  intro g F ad L H xs vs Q z g' hg hv ho k
  unfold oInt at ho
  split at ho
  · rename_i b
    obtain ⟨v1, _, rfl, h1, rfl⟩ := hv
    cases ho
    have h1 : v1 = .bl b := h1
    subst h1
    exact .inr ⟨b, rfl, resT hg (t := .int _) rfl k⟩
  · rename_i b
    obtain ⟨v1, _, rfl, h1, rfl⟩ := hv
    cases ho
    have h1 : v1 = .int b := h1
    subst h1
    exact .inl ⟨b, rfl, resT hg (t := .int _) rfl k⟩
  · cases ho
/-! ### texts -/
def oAddS : VO := fun g xs => match xs with
  | [.t (.str a), .t (.str b)] => if a.length + b.length ≤ 100000 then some (.v (.t (.str (a ++ b))), g) else none
  | _ => none
theorem vo_addS : VOK K (r2 fun x y H Q => ∃ i j, x = .str i ∧ y = .str j ∧ i.length + j.length ≤ sizeLine ∧ Q (.str (i ++ j)) H) oAddS := by
  intro g F ad L H xs vs Q z g' hg hv ho k
  unfold oAddS at ho
  split at ho
  · rename_i a b
    obtain ⟨v1, _, rfl, h1, v2, _, rfl, h2, rfl⟩ := hv
    by_cases q : a.length + b.length ≤ 100000
    · rw [if_pos q] at ho
      cases ho
      exact ⟨a, b, h1, h2, sz q, resT hg (t := .str _) rfl k⟩
    · rw [if_neg q] at ho; cases ho
  · cases ho
def oIxS : VO := fun g xs => match xs with
  | [.t (.str z), .t (.int i)] => if 0 ≤ i ∧ i < z.length ∧ i < 100000 then match z.cps[i.toNat]? with
    | some c => some (.v (.t (.str ⟨#[c]⟩)), g)
    | none => none
    else none
  | _ => none
theorem vo_ixS : VOK K (r2 fun x y H Q => ∃ z i c, x = .str z ∧ y = .int i ∧ 0 ≤ i ∧ i < 2 ^ 63 ∧ i < z.length ∧ z.cps[i.toNat]? = some c ∧ Q (.str ⟨#[c]⟩) H) oIxS := by
  intro g F ad L H xs vs Q z g' hg hv ho k
  unfold oIxS at ho
  split at ho
  · rename_i a i
    obtain ⟨v1, _, rfl, h1, v2, _, rfl, h2, rfl⟩ := hv
    by_cases q : 0 ≤ i ∧ i < a.length ∧ i < 100000
    · rw [if_pos q] at ho
      cases e : a.cps[i.toNat]? with
      | none => rw [e] at ho; cases ho
      | some c =>
        rw [e] at ho
        cases ho
        exact ⟨a, i, c, h1, h2, q.1, by omega, q.2.1, e, resT hg (t := .str _) rfl k⟩
    · rw [if_neg q] at ho; cases ho
  · cases ho
/-! ### lists -/
def oIxL : VO := fun g xs => match xs with
  | [x, .t (.int i)] => match vL g x with
    | some ts => match atI ts i with
      | some t => some (.v (.t t), g)
      | none => none
    | none => none
  | _ => none
theorem RTs.atI {ts : List T} {vs : List V} {i : Int} {t : T} (h : RTs K F ts vs) (e : L2.atI ts i = some t) : ∃ v, L2.atI vs i = some v ∧ RT K F t v := by
  unfold L2.atI at e ⊢
  rw [h.len]
  cases q : ixN ts.length i with
  | none => rw [q] at e; cases e
  | some j =>
    rw [q] at e
    obtain ⟨v, e1, e2⟩ := h.get (show ts[j]? = some t from e)
    exact ⟨v, e1, e2⟩
theorem vo_ixL : VOK K (r2 (rIxL K)) oIxL := by
  intro g F ad L H xs vs Q z g' hg hv ho k
  unfold oIxL at ho
  split at ho
  · rename_i x i
    obtain ⟨v1, _, rfl, h1, v2, _, rfl, h2, rfl⟩ := hv
    cases e : vL g x with
    | none => rw [e] at ho; cases ho
    | some ts =>
      rw [e] at ho
      dsimp only at ho
      obtain ⟨p, us, rfl, h3, h4⟩ := vL_ok hg h1 e
      cases e2 : atI ts i with
      | none => rw [e2] at ho; cases ho
      | some t =>
        rw [e2] at ho
        cases ho
        obtain ⟨u, h5, h6⟩ := h4.atI e2
        exact ⟨p, us, i, u, rfl, h2, h3, h5, resT hg h6 k⟩
  · cases ho
def oIxU : VO := fun g xs => match xs with
  | [x, .t (.int i)] => match vU g x with
    | some ts => match atI ts i with
      | some t => some (.v (.t t), g)
      | none => none
    | none => none
  | _ => none
theorem vo_ixU : VOK K (r2 (rIxT K)) oIxU := by
  intro g F ad L H xs vs Q z g' hg hv ho k
  unfold oIxU at ho
  split at ho
  · rename_i x i
    obtain ⟨v1, _, rfl, h1, v2, _, rfl, h2, rfl⟩ := hv
    cases e : vU g x with
    | none => rw [e] at ho; cases ho
    | some ts =>
      rw [e] at ho
      dsimp only at ho
      obtain ⟨p, us, rfl, h3, h4⟩ := vU_ok hg h1 e
      cases e2 : atI ts i with
      | none => rw [e2] at ho; cases ho
      | some t =>
        rw [e2] at ho
        cases ho
        obtain ⟨u, h5, h6⟩ := h4.atI e2
        exact ⟨p, us, i, u, rfl, h2, h3.sqT, h5, resT hg h6 k⟩
  · cases ho
/-- len of a list, a tuple, a text -/
def oLen : VO := fun g xs => match xs with
  | [.t (.str z)] => if z.length ≤ 100000 then some (.v (.t (.int z.length)), g) else none
  | [x] => match vL g x with
    | some ts => some (.v (.t (.int ts.length)), g)
    | none => match vU g x with
      | some ts => some (.v (.t (.int ts.length)), g)
      | none => none
  | _ => none
theorem vo_len : VOK K (fun xs H Q => ∃ x n, xs = [x] ∧ LenV K x H n ∧ Q (.int n) H) oLen := by
  intro g F ad L H xs vs Q z g' hg hv ho k
  unfold oLen at ho
  split at ho
  · rename_i z
    obtain ⟨v1, _, rfl, h1, rfl⟩ := hv
    have h1 : v1 = .str z := h1
    subst h1
    by_cases q : z.length ≤ 100000
    · rw [if_pos q] at ho
      cases ho
      exact ⟨_, _, rfl, ⟨sz q, rfl⟩, resT hg (t := .int _) rfl k⟩
    · rw [if_neg q] at ho; cases ho
  · rename_i x _
    obtain ⟨v1, _, rfl, h1, rfl⟩ := hv
    cases e : vL g x with
    | some ts =>
      rw [e] at ho
      cases ho
      obtain ⟨p, us, rfl, h3, h4⟩ := vL_ok hg h1 e
      refine ⟨_, us.length, rfl, .inl ⟨us, h3, rfl⟩, ?_⟩
      rw [h4.len]
      exact resT hg (t := .int _) rfl k
    | none =>
      rw [e] at ho
      dsimp only at ho
      cases e : vU g x with
      | some ts =>
        rw [e] at ho
        cases ho
        obtain ⟨p, us, rfl, h3, h4⟩ := vU_ok hg h1 e
        refine ⟨_, us.length, rfl, .inr ⟨us, h3.sqT, rfl⟩, ?_⟩
        rw [h4.len]
        exact resT hg (t := .int _) rfl k
      | none => rw [e] at ho; cases ho
  · cases ho
def oCat : VO := fun g xs => match xs with
  | [x, y] => match vM g x, vM g y with
    | some a, some b => if a.length + b.length ≤ 100000 then some (.n (.lst (a ++ b)), g) else none
    | _, _ => none
  | _ => none
theorem vo_cat : VOK K (r2 rCat) oCat := by
  intro g F ad L H xs vs Q z g' hg hv ho k
  unfold oCat at ho
  split at ho
  · rename_i x y
    obtain ⟨v1, _, rfl, h1, v2, _, rfl, h2, rfl⟩ := hv
    split at ho
    · rename_i a b e1 e2
      obtain ⟨p, us, rfl, h3, h4⟩ := vM_ok hg h1 e1
      obtain ⟨q, ws, rfl, h5, h6⟩ := vM_ok hg h2 e2
      by_cases z : a.length + b.length ≤ 100000
      · rw [if_pos z] at ho
        cases ho
        exact ⟨p, q, us, ws, rfl, rfl, h3, h5, by rw [h4.len, h6.len]; exact sz z, newL hg (h4.app h6) k⟩
      · rw [if_neg z] at ho; cases ho
    · cases ho
  · cases ho
def repT : Nat → List T → List T
  | 0, _ => []
  | n + 1, ts => ts ++ repT n ts
theorem RTs.rep {ts : List T} {vs : List V} (h : RTs K F ts vs) : ∀ n, RTs K F (repT n ts) (List.replicate n vs).flatten
  | 0 => rfl
  | n + 1 => by
    rw [List.replicate_succ, List.flatten_cons]
    exact h.app (RTs.rep h n)
/-- a list so many times -/
def oRep : VO := fun g xs => match xs with
  | [x, .t (.int i)] => match vM g x with
    | some a => if -1000 ≤ i ∧ i ≤ 1000 ∧ a.length ≤ 90 then some (.n (.lst (repT i.toNat a)), g) else none
    | _ => none
  | _ => none
theorem vo_rep : VOK K (r2 rRep) oRep := by
  intro g F ad L H xs vs Q z g' hg hv ho k
  unfold oRep at ho
  split at ho
  · rename_i x i
    obtain ⟨v1, _, rfl, h1, v2, _, rfl, h2, rfl⟩ := hv
    split at ho
    · rename_i a e1
      obtain ⟨p, us, rfl, h3, h4⟩ := vM_ok hg h1 e1
      by_cases q : -1000 ≤ i ∧ i ≤ 1000 ∧ a.length ≤ 90
      · rw [if_pos q] at ho
        cases ho
        refine ⟨p, i, us, rfl, h2, h3, by omega, by omega, ?_, newL hg (h4.rep _) k⟩
        rw [h4.len]
        have : a.length * i.toNat ≤ 90 * 1000 := Nat.mul_le_mul q.2.2 (by omega)
        exact sz (by omega)
      · rw [if_neg q] at ho; cases ho
    · cases ho
  · cases ho
/-- a list display -/
def oDisp : VO := fun g xs => (xs.foldr (fun x r => match x, r with
  | .t t, some ts => some (t :: ts)
  | _, _ => none) (some [])).bind fun ts => if ts.length ≤ 100000 then some (.n (.lst ts), g) else none
theorem disp_ok {n : Nat} : ∀ {xs : List SV} {vs : List V} {ts : List T}, RSVs K F n ad xs vs → xs.foldr (fun x r => match x, r with
  | .t t, some ts => some (t :: ts)
  | _, _ => none) (some []) = some ts → RTs K F ts vs
  | [], vs, ts, h, e => by
    cases e
    exact h
  | x :: xs, _, ts, ⟨v, ws, ev, h1, h2⟩, e => by
    rw [List.foldr_cons] at e
    split at e
    · rename_i t r hr
      cases e
      exact ⟨v, ws, ev, h1, disp_ok h2 hr⟩
    · cases e
theorem ee_lst {E : XK} {ta : TA} {f : M (List SV)} (h : AA K E ta f) : EE K E (tLst ta) (mOp oDisp f) := by
  refine ee_op (r := fun vs H Q => vs.length ≤ sizeLine ∧ ∀ p, H p = none → Q (.ref p) (upd H p (.lst vs))) (fun g F ad L H xs vs Q z g' hg hv ho k => ?_) h
  unfold oDisp at ho
  obtain ⟨ts, e, ho⟩ := Option.bind_eq_some_iff.mp ho
  have r := disp_ok hv e
  by_cases q : ts.length ≤ 100000
  · rw [if_pos q] at ho
    cases ho
    exact ⟨by rw [r.len]; exact sz q, newL hg r k⟩
  · rw [if_neg q] at ho; cases ho
def oTup : VO := fun g xs => (xs.foldr (fun x r => match x, r with
  | .t t, some ts => some (t :: ts)
  | _, _ => none) (some [])).bind fun ts => if ts.length ≤ 100000 then some (.v (.t (.tup ts)), g) else none
theorem ee_tup {E : XK} {ta : TA} {f : M (List SV)} (h : AA K E ta f) : EE K E (tTupZ ta) (mOp oTup f) := by
  refine ee_op (r := fun vs H Q => vs.length ≤ sizeLine ∧ NewT vs H Q) (fun g F ad L H xs vs Q z g' hg hv ho k => ?_) h
  unfold oTup at ho
  obtain ⟨ts, e, ho⟩ := Option.bind_eq_some_iff.mp ho
  have r := disp_ok hv e
  by_cases q : ts.length ≤ 100000
  · rw [if_pos q] at ho
    cases ho
    exact ⟨by rw [r.len]; exact sz q, newT hg r k⟩
  · rw [if_neg q] at ho; cases ho
/-- tuple(a list) -/
def oTupOf : VO := fun g xs => match xs with
  | [x] => match vL g x with
    | some ts => some (.v (.t (.tup ts)), g)
    | none => none
  | _ => none
theorem vo_tupOf : VOK K (fun xs H Q => ∃ p ys, xs = [.ref p] ∧ SqL K H p ys ∧ NewT ys H Q) oTupOf := by
  intro g F ad L H xs vs Q z g' hg hv ho k
  unfold oTupOf at ho
  split at ho
  · rename_i x
    obtain ⟨v1, _, rfl, h1, rfl⟩ := hv
    split at ho
    · rename_i ts e
      cases ho
      obtain ⟨p, us, rfl, h3, h4⟩ := vL_ok hg h1 e
      exact ⟨p, us, rfl, h3, Mf.newT hg h4 k⟩
    · cases ho
  · cases ho
/-- list(a list or a tuple) -/
def oListOf : VO := fun g xs => match xs with
  | [x] => match vL g x with
    | some ts => some (.n (.lst ts), g)
    | none => match vU g x with
      | some ts => some (.n (.lst ts), g)
      | none => none
  | _ => none
theorem vo_listOf : VOK K (fun xs H Q => ∃ p ys, xs = [.ref p] ∧ (SqL K H p ys ∨ SqT K H p ys) ∧ ∀ l, H l = none → Q (.ref l) (upd H l (.lst ys))) oListOf := by
  intro g F ad L H xs vs Q z g' hg hv ho k
  unfold oListOf at ho
  split at ho
  · rename_i x
    obtain ⟨v1, _, rfl, h1, rfl⟩ := hv
    split at ho
    · rename_i ts e
      cases ho
      obtain ⟨p, us, rfl, h3, h4⟩ := vL_ok hg h1 e
      exact ⟨p, us, rfl, .inl h3, Mf.newL hg h4 k⟩
    · split at ho
      · rename_i ts e
        cases ho
        obtain ⟨p, us, rfl, h3, h4⟩ := vU_ok hg h1 e
        exact ⟨p, us, rfl, .inr h3.sqT, Mf.newL hg h4 k⟩
      · cases ho
  · cases ho
/-! ### slices -/
abbrev TO := L2.St → Hp → (Option Int → Hp → Prop) → Prop
def relO (K : PySem.W.Frag) : Rel (Option Int) (Option Int) := fun L g F ad x v H => x = v ∧ RG K g F ad L H
abbrev OO (K : PySem.W.Frag) (E : XK) (t : TO) (f : M (Option Int)) : Prop := JJ K E (relO K) t f
theorem oo_none {E : XK} : OO K E tNoPart (M.ret none) := by
  intro sl g F ad L σ H Q r hs hg hf hp
  cases hf
  exact hp none F ad H Nx.refl ⟨rfl, hg⟩
def mPart (f : M SV) : M (Option Int) := f.bind fun x => match x with
  | .t (.int i) => M.ret (some i)
  | _ => fun _ => none
theorem oo_some {E : XK} {te : TE} {f : M SV} (h : EV K E te f) : OO K E (tPart te) (mPart f) := by
  refine JJ.bind (u := fun x _ H (Q : Option Int → Hp → Prop) => ∃ i, x = V.int i ∧ Q (some i) H) h fun a b sl g F ad L σ H Q r hs hr hk hp => ?_
  obtain ⟨h1, h2⟩ := hr
  cases a with
  | un => exact h1.elim
  | o i => cases hk
  | t t => cases t with
    | int i =>
      cases hk
      exact ⟨i, h1, hp _ F ad H Nx.refl ⟨rfl, h2⟩⟩
    | _ => cases hk
def cutT {α : Type} (xs : List α) (lo hi : Option Int) : List α := (xs.drop (HT.sIx xs.length 0 lo)).take (HT.sIx xs.length xs.length hi - HT.sIx xs.length 0 lo)
theorem RTs.cut {ts : List T} {vs : List V} (h : RTs K F ts vs) (lo hi : Option Int) : RTs K F (cutT ts lo hi) (cutV vs lo hi) := by
  unfold cutT cutV
  rw [h.len]
  exact (h.drop _).take _
abbrev SO := List Obj → SV → Option Int → Option Int → Option RZ
def SOK (K : PySem.W.Frag) (r : V → Option Int → Option Int → Hp → VK → Prop) (op : SO) : Prop :=
  ∀ (g : List Obj) (F : Hp) (ad : Nat → Addr) (L : Cells) (H : Hp) (x : SV) (v : V) (lo hi : Option Int) (Q : VK) (z : RZ), RG K g F ad L H → RSV K F g.length ad x v → op g x lo hi = some z →
    (∀ v F' ad' H', Nx g F ad g F' ad' → relZ K L g F' ad' z v H' → Q v H') → r v lo hi H Q
def mSl (op : SO) (f : M SV) (lo hi : M (Option Int)) : M RZ := f.bind fun x => lo.bind fun l => hi.bind fun h s => (op s.g x l h).map fun z => .ok z s.g
theorem ee_sl {E : XK} {r : V → Option Int → Option Int → Hp → VK → Prop} {op : SO} {te : TE} {tl th : TO} {f : M SV} {lo hi : M (Option Int)} (ho : SOK K r op) (h : EV K E te f) (h1 : OO K E tl lo) (h2 : OO K E th hi) : EE K E (L2.tSl r te tl th) (mSl op f lo hi) := by
  intro sl g F ad L σ H Q o hs hg hf hp
  refine h.use hs hg hf hp fun x v g1 F1 ad1 H1 n1 hr1 hk1 => ?_
  have hp1 := hp.nx n1
  refine h1.use (hs.nx n1) hr1.2 hk1 hp1 fun l l' g2 F2 ad2 H2 n2 hr2 hk2 => ?_
  have hp2 := hp1.nx n2
  obtain ⟨rfl, hg2⟩ := hr2
  have n12 := n1.trans n2
  refine h2.use (hs.nx n12) hg2 hk2 hp2 fun u u' g3 F3 ad3 H3 n3 hr3 hk3 => ?_
  obtain ⟨rfl, hg3⟩ := hr3
  cases e : op g3 x l u with
  | none => simp [e] at hk3
  | some z =>
    simp only [e, Option.map_some, Option.some.injEq] at hk3
    subst hk3
    exact ho g3 F3 ad3 L H3 x v l u Q z hg3 ((hr1.1.nx n2).nx n3) e (hp2.nx n3)
def oSlL : SO := fun g x lo hi => match vL g x with
  | some ts => some (.n (.lst (cutT ts lo hi)))
  | none => none
theorem so_l : SOK K (rSlL K) oSlL := by
  intro g F ad L H x v lo hi Q z hg hv ho k
  unfold oSlL at ho
  split at ho
  · rename_i ts e
    cases ho
    obtain ⟨p, us, rfl, h3, h4⟩ := vL_ok hg hv e
    exact ⟨p, us, rfl, h3, Mf.newL hg (h4.cut lo hi) k⟩
  · cases ho
def oSlU : SO := fun g x lo hi => match vU g x with
  | some ts => some (.v (.t (.tup (cutT ts lo hi))))
  | none => none
theorem so_u : SOK K (rSlZA K) oSlU := by
  intro g F ad L H x v lo hi Q z hg hv ho k
  unfold oSlU at ho
  split at ho
  · rename_i ts e
    cases ho
    have whole : ∀ p us, PT K H p us → RTs K F ts us → (HT.sIx us.length 0 lo = 0 ∧ HT.sIx us.length us.length hi = us.length) → cutT ts lo hi = ts := fun p us _ h4 w => by
      rw [h4.len] at w
      unfold cutT
      rw [w.1, w.2, List.drop_zero, Nat.sub_zero, List.take_length]
    cases x with
    | un => cases e
    | o i => cases e
    | t t => cases t with
      | tup ys =>
        cases e
        obtain ⟨p, us, rfl, h3, h4⟩ := hv
        refine ⟨p, us, rfl, h3.up hg.gr, fun w => ?_, fun _ => Mf.newT hg (h4.cut lo hi) k⟩
        rw [whole p us (h3.up hg.gr) h4 w] at k
        exact resT hg (t := .tup ts) ⟨p, us, rfl, h3, h4⟩ k
      | _ => cases e
  · cases ho
end Mf


set_option Elab.async false
set_option linter.all false
set_option maxRecDepth 100000
set_option maxHeartbeats 4000000
namespace Mf
open PySem PySem.Spec PyProof.Rows L2 Sb
variable {K : PySem.W.Frag} {F F' F2 : Hp} {g g' : List Obj} {ad ad' : Nat → Addr} {L L' : Cells} {H H' : Hp} {σ : L2.St}
/-! ### methods of lists -/
def isL (g : List Obj) (x : SV) : Bool := (vL g x).isSome
def mMeth (op : VO) (f : M SV) (k : M (List SV)) : M RZ := f.bind fun x s => if isL s.g x = true then (k.bind fun xs s => (op s.g (x :: xs)).map fun z => .ok z.1 z.2) s else none
theorem ee_meth {E : XK} {r : V → List V → Hp → VK → Prop} {op : VO} {to : TE} {t : TA} {f : M SV} {k : M (List SV)} (ho : VOK K (rM r) op) (h : EV K E to f) (hk : AA K E t k) : EE K E (tBM K "list" r to t) (mMeth op f k) := by
  intro sl g F ad L σ H Q o hs hg hf hp
  refine h.use hs hg hf hp fun x v g1 F1 ad1 H1 n1 hr1 hk1 => ?_
  have hp1 := hp.nx n1
  obtain ⟨hx, hg1⟩ := hr1
  by_cases q : isL g1 x = true
  · rw [if_pos q] at hk1
    unfold isL at q
    cases e : vL g1 x with
    | none => rw [e] at q; cases q
    | some ts =>
      obtain ⟨p, us, rfl, h3, h4⟩ := vL_ok hg1 hx e
      refine ⟨.inl ⟨rfl, us, h3⟩, hk.use (hs.nx n1) hg1 hk1 hp1 fun xs vs g2 F2 ad2 H2 n2 hr2 hk2 => ?_⟩
      cases eo : op g2 (x :: xs) with
      | none => simp [eo] at hk2
      | some z =>
        obtain ⟨z, g3⟩ := z
        simp only [eo, Option.map_some, Option.some.injEq] at hk2
        subst hk2
        exact ho g2 F2 ad2 L H2 (x :: xs) (.ref p :: vs) Q z g3 hr2.2 ⟨_, _, rfl, hx.nx n2, hr2.1⟩ eo (hp1.nx n2)
  · rw [if_neg q] at hk1; cases hk1
def mMeth0 (op : VO) (f : M SV) : M RZ := f.bind fun x s => if isL s.g x = true then (op s.g [x]).map fun z => .ok z.1 z.2 else none
theorem ee_meth0 {E : XK} {r : V → List V → Hp → VK → Prop} {op : VO} {to : TE} {f : M SV} (ho : VOK K (rM r) op) (h : EV K E to f) : EE K E (tBM0 K "list" r to) (mMeth0 op f) := by
  intro sl g F ad L σ H Q o hs hg hf hp
  refine h.use hs hg hf hp fun x v g1 F1 ad1 H1 n1 hr1 hk1 => ?_
  have hp1 := hp.nx n1
  obtain ⟨hx, hg1⟩ := hr1
  by_cases q : isL g1 x = true
  · rw [if_pos q] at hk1
    unfold isL at q
    cases e : vL g1 x with
    | none => rw [e] at q; cases q
    | some ts =>
      obtain ⟨p, us, rfl, h3, h4⟩ := vL_ok hg1 hx e
      refine ⟨.inl ⟨rfl, us, h3⟩, ?_⟩
      cases eo : op g1 [x] with
      | none => simp [eo] at hk1
      | some z =>
        obtain ⟨z, g3⟩ := z
        simp only [eo, Option.map_some, Option.some.injEq] at hk1
        subst hk1
        exact ho g1 F1 ad1 L H1 [x] [.ref p] Q z g3 hg1 ⟨_, _, rfl, hx, rfl⟩ eo hp1
  · rw [if_neg q] at hk1; cases hk1
/-- a list that may change, by its number -/
def lstAt (g : List Obj) (i : Nat) : Option (List T) := match g[i]? with
  | some (.lst xs) => some xs
  | _ => none
theorem lstAt_ok {i : Nat} {xs : List T} (e : lstAt g i = some xs) : g[i]? = some (.lst xs) := by
  unfold lstAt at e
  split at e
  · rename_i ys h
    cases e
    exact h
  · cases e
def oAppend : VO := fun g xs => match xs with
  | [.o i, .t t] => match lstAt g i with
    | some ts => if ts.length < 100000 then some (.v (.t .non), g.set i (.lst (ts ++ [t]))) else none
    | none => none
  | _ => none
theorem vo_append : VOK K (rM rAppend) oAppend := by
  intro g F ad L H xs vs Q z g' hg hv ho k
  unfold oAppend at ho
  split at ho
  · rename_i i t
    obtain ⟨v1, _, rfl, ⟨_, rfl⟩, v2, _, rfl, h2, rfl⟩ := hv
    split at ho
    · rename_i ts e
      have e := lstAt_ok e
      by_cases q : ts.length < 100000
      · rw [if_pos q] at ho
        cases ho
        obtain ⟨us, h3, h4⟩ := hg.isL e
        exact ⟨_, us, v2, rfl, rfl, h3, by rw [h4.len]; exact szl q, putL hg e (h4.app (RTs.one h2)) (z := .t .non) rfl k⟩
      · rw [if_neg q] at ho; cases ho
    · cases ho
  · cases ho
def oExtend : VO := fun g xs => match xs with
  | [.o i, .t (.lst zs)] => match lstAt g i with
    | some ts => if ts.length + zs.length ≤ 100000 then some (.v (.t .non), g.set i (.lst (ts ++ zs))) else none
    | none => none
  | _ => none
theorem vo_extend : VOK K (rM rExtend) oExtend := by
  intro g F ad L H xs vs Q z g' hg hv ho k
  unfold oExtend at ho
  split at ho
  · rename_i i zs
    obtain ⟨v1, _, rfl, ⟨_, rfl⟩, v2, _, rfl, ⟨p, ws, rfl, h2, h5⟩, rfl⟩ := hv
    split at ho
    · rename_i ts e
      have e := lstAt_ok e
      by_cases q : ts.length + zs.length ≤ 100000
      · rw [if_pos q] at ho
        cases ho
        obtain ⟨us, h3, h4⟩ := hg.isL e
        exact ⟨_, p, us, ws, rfl, rfl, h3, hg.gr _ _ h2, by rw [h4.len, h5.len]; exact sz q, putL hg e (h4.app h5) (z := .t .non) rfl k⟩
      · rw [if_neg q] at ho; cases ho
    · cases ho
  · cases ho
def oPop : VO := fun g xs => match xs with
  | [.o i] => match lstAt g i with
    | some ts => match ts[ts.length - 1]? with
      | some t => some (.v (.t t), g.set i (.lst ts.dropLast))
      | none => none
    | none => none
  | _ => none
theorem RTs.dropLast {ts : List T} {vs : List V} (h : RTs K F ts vs) : RTs K F ts.dropLast vs.dropLast := by
  rw [List.dropLast_eq_take, List.dropLast_eq_take, h.len]
  exact h.take _
theorem vo_pop : VOK K (rM rPop) oPop := by
  intro g F ad L H xs vs Q z g' hg hv ho k
  unfold oPop at ho
  split at ho
  · rename_i i
    obtain ⟨v1, _, rfl, ⟨_, rfl⟩, rfl⟩ := hv
    split at ho
    · rename_i ts e
      have e := lstAt_ok e
      split at ho
      · rename_i t et
        cases ho
        obtain ⟨us, h3, h4⟩ := hg.isL e
        obtain ⟨u, h5, h6⟩ := h4.get et
        exact ⟨_, us, u, rfl, rfl, h3, by rw [h4.len]; exact h5, putL hg e h4.dropLast (z := .t t) h6 k⟩
      · cases ho
    · cases ho
  · cases ho
def oPopAt : VO := fun g xs => match xs with
  | [.o i, .t (.int j)] => match lstAt g i with
    | some ts => if -1000000 ≤ j ∧ j ≤ 1000000 then match seqIndex? j ts.length with
      | some k => match ts[k]? with
        | some t => some (.v (.t t), g.set i (.lst (ts.eraseIdx k)))
        | none => none
      | none => none
      else none
    | none => none
  | _ => none
theorem vo_popAt : VOK K (rM rPopAt) oPopAt := by
  intro g F ad L H xs vs Q z g' hg hv ho k
  unfold oPopAt at ho
  split at ho
  · rename_i i j
    obtain ⟨v1, _, rfl, ⟨_, rfl⟩, v2, _, rfl, h2, rfl⟩ := hv
    have h2 : v2 = .int j := h2
    subst h2
    split at ho
    · rename_i ts e
      have e := lstAt_ok e
      by_cases q : -1000000 ≤ j ∧ j ≤ 1000000
      · rw [if_pos q] at ho
        split at ho
        · rename_i n en
          split at ho
          · rename_i t et
            cases ho
            obtain ⟨us, h3, h4⟩ := hg.isL e
            obtain ⟨u, h5, h6⟩ := h4.get et
            exact ⟨_, us, j, n, u, rfl, rfl, h3, by omega, by omega, by rw [h4.len]; exact en, h5, putL hg e (h4.era n) (z := .t t) h6 k⟩
          · cases ho
        · cases ho
      · rw [if_neg q] at ho; cases ho
    · cases ho
  · cases ho
def oReverse : VO := fun g xs => match xs with
  | [.o i] => match lstAt g i with
    | some ts => some (.v (.t .non), g.set i (.lst ts.reverse))
    | none => none
  | _ => none
theorem vo_reverse : VOK K (rM rReverse) oReverse := by
  intro g F ad L H xs vs Q z g' hg hv ho k
  unfold oReverse at ho
  split at ho
  · rename_i i
    obtain ⟨v1, _, rfl, ⟨_, rfl⟩, rfl⟩ := hv
    split at ho
    · rename_i ts e
      have e := lstAt_ok e
      cases ho
      obtain ⟨us, h3, h4⟩ := hg.isL e
      exact ⟨_, us, rfl, rfl, h3, putL hg e h4.rev (z := .t .non) rfl k⟩
    · cases ho
  · cases ho
def oClear : VO := fun g xs => match xs with
  | [.o i] => match lstAt g i with
    | some ts => some (.v (.t .non), g.set i (.lst []))
    | none => none
  | _ => none
theorem vo_clear : VOK K (rM rClear) oClear := by
  intro g F ad L H xs vs Q z g' hg hv ho k
  unfold oClear at ho
  split at ho
  · rename_i i
    obtain ⟨v1, _, rfl, ⟨_, rfl⟩, rfl⟩ := hv
    split at ho
    · rename_i ts e
      have e := lstAt_ok e
      cases ho
      obtain ⟨us, h3, h4⟩ := hg.isL e
      exact ⟨_, us, rfl, rfl, h3, putL (ts := []) (vs := []) hg e (rfl : ([] : List V) = []) (z := .t .non) rfl k⟩
    · cases ho
  · cases ho
/-! ### x[i] = e -/
def sSetIx (f o i : M SV) : M Fl := f.bind fun t => o.bind fun x => i.bind fun y s => match t, x, y with
  | .t t, .o n, .t (.int k) => match lstAt s.g n with
    | some ts => match ixN ts.length k with
      | some j => some (.ok (.nx s.sl) (s.g.set n (.lst (ts.set j t))))
      | none => none
    | none => none
  | _, _, _ => none
/-- one thing, then what follows, in a statement -/
theorem JJ.useS {α β : Type} {E : XK} {R : Rel α β} {t : L2.St → Hp → (β → Hp → Prop) → Prop} {f : M α} {k : α → M Fl} {sl : List SV} {r : O Fl} {Q : β → Hp → Prop} {D : Ends} (h : JJ K E R t f) (hs : RSl K F g.length ad sl σ) (hg : RG K g F ad L H)
    (hf : f.bind k ⟨sl, g⟩ = some r) (hp : PS' K g F ad L D E r) (c : ∀ a b g' F' ad' H', Nx g F ad g' F' ad' → R L g' F' ad' a b H' → k a ⟨sl, g'⟩ = some r → Q b H') : t σ H Q := by
  unfold M.bind at hf
  cases e : f ⟨sl, g⟩ with
  | none => rw [e] at hf; cases hf
  | some o =>
    rw [e] at hf
    refine h sl g F ad L σ H _ o hs hg e ?_
    cases o with
    | er c t g' =>
      cases hf
      exact hp
    | ok a g' => exact fun b F' ad' H' n hr => c a b g' F' ad' H' n hr hf
theorem ss_setIx {E : XK} {te to ti : TE} {f o i : M SV} (h : EV K E te f) (h1 : EV K E to o) (h2 : EV K E ti i) : SS K E (tAsg te (gSub to ti rSetL)) (sSetIx f o i) := by
  intro sl g F ad L σ H D r hs hg hf hp
  refine h.useS hs hg hf hp fun t v g1 F1 ad1 H1 n1 hr1 hk1 => ?_
  have hp1 := hp.nx n1
  refine h1.useS (hs.nx n1) hr1.2 hk1 hp1 fun x w g2 F2 ad2 H2 n2 hr2 hk2 => ?_
  have hp2 := hp1.nx n2
  have n12 := n1.trans n2
  refine h2.useS (hs.nx n12) hr2.2 hk2 hp2 fun y u g3 F3 ad3 H3 n3 hr3 hk3 => ?_
  have hp3 := hp2.nx n3
  have ht := (hr1.1.nx n2).nx n3
  have hx := hr2.1.nx n3
  obtain ⟨hy, hg3⟩ := hr3
  split at hk3
  · rename_i t n k
    split at hk3
    · rename_i ts e
      have e := lstAt_ok e
      split at hk3
      · rename_i j ej
        cases hk3
        obtain ⟨_, rfl⟩ := hx
        have hy : u = .int k := hy
        obtain ⟨us, h3, h4⟩ := hg3.isL e
        refine ⟨ad3 n, us, k, j, rfl, hy, h3, by rw [h4.len]; exact ej, ?_⟩
        refine putL (Q := fun _ H => D.nx σ H) hg3 e (h4.set j ht) (z := .t .non) (v := .non) rfl fun _ F4 ad4 H4 n4 hr4 => ?_
        exact hp3 σ F4 ad4 H4 n4 (((hs.nx n12).nx n3).nx n4) hr4.2
      · cases hk3
    · cases hk3
  · cases hk3
/-! ### == and != -/
mutual
def pd : T → Option PyData
  | .non => some .none
  | .bl b => some (.bool b)
  | .int i => some (.int i)
  | .str x => some (.str x)
  | .lst xs => (pds xs).map .list
  | .tup xs => (pds xs).map .tuple
  | _ => none
def pds : List T → Option (List PyData)
  | [] => some []
  | x :: xs => match pd x, pds xs with
    | some d, some ds => some (d :: ds)
    | _, _ => none
end
mutual
theorem pd_dp : ∀ (t : T) (v : V) (d : PyData), RT K F t v → pd t = some d → Dp K F v d ∧ d.plain = true
  | .non, v, d, h, e => by cases e; cases h; exact ⟨.non, rfl⟩
  | .bl b, v, d, h, e => by cases e; cases h; exact ⟨.bl b, rfl⟩
  | .int i, v, d, h, e => by cases e; cases h; exact ⟨.int i, rfl⟩
  | .str x, v, d, h, e => by cases e; cases h; exact ⟨.str x, rfl⟩
  | .lst xs, v, d, ⟨p, vs, e1, h1, h2⟩, e => by
    rw [pd] at e
    obtain ⟨ds, e2, rfl⟩ := Option.map_eq_some_iff.mp e
    obtain ⟨a, b⟩ := pds_dp xs vs ds h2 e2
    subst e1
    exact ⟨.lst (.of h1) a, b⟩
  | .tup xs, v, d, ⟨p, vs, e1, h1, h2⟩, e => by
    rw [pd] at e
    obtain ⟨ds, e2, rfl⟩ := Option.map_eq_some_iff.mp e
    obtain ⟨a, b⟩ := pds_dp xs vs ds h2 e2
    subst e1
    exact ⟨.tup h1.sqT a, b⟩
  | .scr _, _, _, _, e => by cases e
  | .dic _, _, _, _, e => by cases e
  | .dct _, _, _, _, e => by cases e
  | .lib _, _, _, _, e => by cases e
  | .sto _, _, _, _, e => by cases e
theorem pds_dp : ∀ (xs : List T) (vs : List V) (ds : List PyData), RTs K F xs vs → pds xs = some ds → DpAll K F vs ds ∧ PyData.plainAll ds = true
  | [], vs, ds, h, e => by
    cases e
    have h : vs = [] := h
    subst h
    exact ⟨.nil, rfl⟩
  | x :: xs, _, ds, ⟨v, ws, ev, h1, h2⟩, e => by
    subst ev
    rw [pds] at e
    cases e1 : pd x with
    | none => rw [e1] at e; cases e
    | some d =>
      cases e2 : pds xs with
      | none => rw [e1, e2] at e; cases e
      | some ds' =>
        rw [e1, e2] at e
        cases e
        obtain ⟨a, b⟩ := pd_dp x v d h1 e1
        obtain ⟨c, f⟩ := pds_dp xs ws ds' h2 e2
        exact ⟨.cons a c, by rw [PyData.plainAll, b, f]; rfl⟩
end
/-- a value as plain data -/
def vP (g : List Obj) : SV → Option PyData
  | .t t => pd t
  | .o i => match g[i]? with
    | some (.lst xs) => (pds xs).map .list
    | some (.frz t) => pd t
    | _ => none
  | .un => none
theorem vP_ok {n : Nat} {x : SV} {v : V} {d : PyData} (hg : RG K g F ad L H) (hv : RSV K F n ad x v) (e : vP g x = some d) : Dp K H v d ∧ d.plain = true := by
  have up : ∀ t v d, RT K F t v → pd t = some d → Dp K H v d ∧ d.plain = true := fun t v d h e => by
    obtain ⟨a, b⟩ := pd_dp t v d h e
    exact ⟨Dp.upG hg.gr d v a, b⟩
  cases x with
  | un => cases e
  | t t => exact up t v d hv e
  | o i =>
    obtain ⟨_, rfl⟩ := hv
    unfold vP at e
    dsimp only at e
    split at e
    · rename_i xs eo
      obtain ⟨ds, e2, rfl⟩ := Option.map_eq_some_iff.mp e
      obtain ⟨vs, h1, h2⟩ := hg.isL eo
      obtain ⟨a, b⟩ := pds_dp xs vs ds h2 e2
      exact ⟨.lst (.of h1) (DpAll.upG hg.gr ds vs a), b⟩
    · rename_i t eo
      obtain ⟨c, R, ⟨_, r⟩, S, _⟩ := hg.focus eo
      exact up t _ d r e
    · cases e
def oEq (neg : Bool) : VO := fun g xs => match xs with
  | [x, y] => match vP g x, vP g y with
    | some d, some e => if d.depth ≤ 64 then some (.v (.t (.bl (if neg then !PyData.eqv d e else PyData.eqv d e))), g) else none
    | _, _ => none
  | _ => none
theorem vo_eq (neg : Bool) : VOK K (r2 (rEqP K neg)) (oEq neg) := by
  intro g F ad L H xs vs Q z g' hg hv ho k
  unfold oEq at ho
  split at ho
  · rename_i x y
    obtain ⟨v1, _, rfl, h1, v2, _, rfl, h2, rfl⟩ := hv
    split at ho
    · rename_i d e e1 e2
      by_cases q : d.depth ≤ 64
      · rw [if_pos q] at ho
        cases ho
        obtain ⟨a, b⟩ := vP_ok hg h1 e1
        obtain ⟨a', b'⟩ := vP_ok hg h2 e2
        exact ⟨d, e, a, a', b, b', q, resT hg (t := .bl _) rfl k⟩
      · rw [if_neg q] at ho; cases ho
    · cases ho
  · cases ho
/-- is None, is not None -/
def mIsN (neg : Bool) (f : M SV) : M RZ := f.bind fun x => match x with
  | .t .non => M.ret (tb (!neg))
  | .t _ => M.ret (tb neg)
  | .o _ => M.ret (tb neg)
  | .un => fun _ => none
theorem RT.nn : ∀ {t : T} {v : V}, t ≠ .non → RT K F t v → v ≠ .non
  | .non, _, h, _ => absurd rfl h
  | .bl _, _, _, h => by cases h; simp
  | .int _, _, _, h => by cases h; simp
  | .str _, _, _, h => by cases h; simp
  | .scr _, _, _, ⟨p, e, _⟩ => by rw [e]; simp
  | .lst _, _, _, ⟨p, _, e, _⟩ => by rw [e]; simp
  | .tup _, _, _, ⟨p, _, e, _⟩ => by rw [e]; simp
  | .dic _, _, _, ⟨p, _, _, e, _⟩ => by rw [e]; simp
  | .dct _, _, _, ⟨p, _, _, e, _⟩ => by rw [e]; simp
  | .lib _, _, _, ⟨p, e, _⟩ => by rw [e]; simp
  | .sto _, _, _, ⟨p, _, e, _⟩ => by rw [e]; simp
theorem isN_val {n : Nat} {x : SV} {v : V} (hv : RSV K F n ad x v) : decide (v = .non) = (match x with | .t .non => true | _ => false) := by
  cases x with
  | un => exact hv.elim
  | o i => obtain ⟨_, rfl⟩ := hv; simp
  | t t => cases t with
    | non => cases (show v = .non from hv); rfl
    | _ => exact decide_eq_false (RT.nn (by simp) hv)
theorem ee_isN {E : XK} {te : TE} {f : M SV} (h : EV K E te f) : EE K E (tIsN te) (mIsN false f) := by
  refine JJ.bind (u := fun x _ H (Q : VK) => Q (.bl (decide (x = .non))) H) h fun a b sl g F ad L σ H Q r hs hr hk hp => ?_
  obtain ⟨h1, h2⟩ := hr
  have e := isN_val h1
  cases a with
  | un => exact h1.elim
  | o i =>
    cases hk
    rw [e]
    exact hp _ F ad H Nx.refl ⟨rfl, h2⟩
  | t t => cases t with
    | non =>
      cases hk
      rw [e]
      exact hp _ F ad H Nx.refl ⟨rfl, h2⟩
    | _ =>
      cases hk
      rw [e]
      exact hp _ F ad H Nx.refl ⟨rfl, h2⟩
theorem ee_notN {E : XK} {te : TE} {f : M SV} (h : EV K E te f) : EE K E (tNotN te) (mIsN true f) := by
  refine JJ.bind (u := fun x _ H (Q : VK) => Q (.bl (!decide (x = .non))) H) h fun a b sl g F ad L σ H Q r hs hr hk hp => ?_
  obtain ⟨h1, h2⟩ := hr
  have e := isN_val h1
  cases a with
  | un => exact h1.elim
  | o i =>
    cases hk
    rw [e]
    exact hp _ F ad H Nx.refl ⟨rfl, h2⟩
  | t t => cases t with
    | non =>
      cases hk
      rw [e]
      exact hp _ F ad H Nx.refl ⟨rfl, h2⟩
    | _ =>
      cases hk
      rw [e]
      exact hp _ F ad H Nx.refl ⟨rfl, h2⟩
/-! ### in a list or a tuple of plain things -/
def eqF : T → T → Bool
  | .non, .non => true
  | .bl a, .bl b => a == b
  | .bl a, .int b => (if a then 1 else 0) == b
  | .int a, .bl b => a == (if b then 1 else 0)
  | .int a, .int b => a == b
  | .str a, .str b => a == b
  | _, _ => false
def flT : T → Bool
  | .non => true
  | .bl _ => true
  | .int _ => true
  | .str _ => true
  | _ => false
def inF (t : T) (ts : List T) : Bool := ts.any fun y => eqF y t
theorem flT_ok {t : T} {v : V} (h : RT K F t v) (e : flT t = true) : flatV v = true := by
  cases t with
  | non => cases (show v = .non from h); rfl
  | bl b => cases (show v = .bl b from h); rfl
  | int b => cases (show v = .int b from h); rfl
  | str b => cases (show v = .str b from h); rfl
  | _ => cases e
theorem eqF_ok {s t : T} {u v : V} (h : RT K F s u) (k : RT K F t v) (e : flT s = true) (f : flT t = true) : eqV u v = eqF s t := by
  cases s with
  | non => cases (show u = .non from h); cases t with
    | non => cases (show v = .non from k); rfl
    | bl b => cases (show v = .bl b from k); rfl
    | int b => cases (show v = .int b from k); rfl
    | str b => cases (show v = .str b from k); rfl
    | _ => cases f
  | bl a => cases (show u = .bl a from h); cases t with
    | non => cases (show v = .non from k); rfl
    | bl b => cases (show v = .bl b from k); rfl
    | int b => cases (show v = .int b from k); rfl
    | str b => cases (show v = .str b from k); rfl
    | _ => cases f
  | int a => cases (show u = .int a from h); cases t with
    | non => cases (show v = .non from k); rfl
    | bl b => cases (show v = .bl b from k); rfl
    | int b => cases (show v = .int b from k); rfl
    | str b => cases (show v = .str b from k); rfl
    | _ => cases f
  | str a => cases (show u = .str a from h); cases t with
    | non => cases (show v = .non from k); rfl
    | bl b => cases (show v = .bl b from k); rfl
    | int b => cases (show v = .int b from k); rfl
    | str b => cases (show v = .str b from k); rfl
    | _ => cases f
  | _ => cases e
theorem inF_ok {t : T} {v : V} (h : RT K F t v) (f : flT t = true) : ∀ {ts : List T} {vs : List V}, RTs K F ts vs → ts.all flT = true → vs.all flatV = true ∧ inV v vs = inF t ts
  | [], _, e, _ => by
    have e : _ = [] := e
    subst e
    exact ⟨rfl, rfl⟩
  | s :: ts, _, ⟨u, us, e, h1, h2⟩, ha => by
    subst e
    rw [List.all_cons, Bool.and_eq_true] at ha
    obtain ⟨a, b⟩ := inF_ok h f h2 ha.2
    unfold inV inF at b
    exact ⟨by rw [List.all_cons, flT_ok h1 ha.1, a]; rfl, by unfold inV inF; rw [List.any_cons, List.any_cons, b, eqF_ok h1 h ha.1 f]⟩
def oIn (neg : Bool) : VO := fun g xs => match xs with
  | [.t t, y] => match (vL g y).or (vU g y) with
    | some ts => if flT t && ts.all flT then some (.v (.t (.bl (if neg then !inF t ts else inF t ts))), g) else none
    | none => none
  | _ => none
theorem vo_in (neg : Bool) : VOK K (r2 (rIn K neg)) (oIn neg) := by
  intro g F ad L H xs vs Q z g' hg hv ho k
  unfold oIn at ho
  split at ho
  · rename_i t y
    obtain ⟨v1, _, rfl, h1, v2, _, rfl, h2, rfl⟩ := hv
    split at ho
    · rename_i ts e
      split at ho
      · rename_i q
        obtain ⟨q1, q2⟩ := Bool.and_eq_true_iff.mp q
        cases ho
        have go : ∀ p us, v2 = .ref p → (SqL K H p us ∨ SqT K H p us) → RTs K F ts us → r2 (rIn K neg) [v1, v2] H Q := fun p us e1 e2 e3 => by
          obtain ⟨a, b⟩ := inF_ok h1 q1 e3 q2
          refine ⟨p, us, e1, e2, flT_ok h1 q1, a, ?_⟩
          rw [b]
          exact resT hg (t := .bl _) rfl k
        cases el : vL g y with
        | some us =>
          rw [el] at e
          cases e
          obtain ⟨p, us, e1, h3, h4⟩ := vL_ok hg h2 el
          exact go p us e1 (.inl h3) h4
        | none =>
          rw [el] at e
          obtain ⟨p, us, e1, h3, h4⟩ := vU_ok hg h2 (show vU g y = some ts from e)
          exact go p us e1 (.inr h3.sqT) h4
      · cases ho
    · cases ho
  · cases ho
end Mf


set_option Elab.async false
set_option linter.all false
set_option maxRecDepth 100000
set_option maxHeartbeats 4000000
namespace Mf
open PySem PySem.Spec PyProof.Rows L2 Sb
variable {K : PySem.W.Frag} {F F' F2 : Hp} {g g' : List Obj} {ad ad' : Nat → Addr} {L L' : Cells} {H H' : Hp} {σ : L2.St}
/-! ### dicts -/
def key : T → Option Key
  | .int i => some (.inl i)
  | .str x => some (.inr x)
  | _ => none
def keyT : Key → T
  | .inl i => .int i
  | .inr x => .str x
theorem key_ok {t : T} {k : Key} {v : V} (h : RT K F t v) (e : key t = some k) : v = kV k := by
  cases t with
  | int i => cases e; exact h
  | str i => cases e; exact h
  | _ => cases e
theorem keyT_ok (k : Key) : RT K F (keyT k) (kV k) := by
  cases k with
  | inl i => exact (rfl : V.int i = .int i)
  | inr x => exact (rfl : V.str x = .str x)
section
variable {κ : Type} [DecidableEq κ]
def valT (kvs : List (κ × T)) (k : κ) : Option T := (kvs.find? fun kv => decide (kv.1 = k)).map (·.2)
def putT (kvs : List (κ × T)) (k : κ) (t : T) : List (κ × T) :=
  if (kvs.any fun kv => decide (kv.1 = k)) = true then kvs.map (fun kv => if kv.1 = k then (kv.1, t) else kv) else kvs ++ [(k, t)]
def dropT (kvs : List (κ × T)) (k : κ) : List (κ × T) := kvs.filter fun kv => decide (kv.1 ≠ k)
end
theorem RTk.val {k : Key} : ∀ {kvs : List (Key × T)} {us : List (Key × V)}, RTk K F kvs us → (match valT kvs k with
      | some t => ∃ v, valV us k = some v ∧ RT K F t v
      | none => valV us k = none)
  | [], us, h => by
    have h : us = [] := h
    subst h
    rfl
  | (q, x) :: kvs, us, ⟨v, ws, e, h1, h2⟩ => by
    subst e
    have ih := RTk.val (k := k) h2
    by_cases z : q = k
    · subst z
      have e1 : valT ((q, x) :: kvs) q = some x := by simp [valT]
      rw [e1]
      exact ⟨v, valV_pos rfl, h1⟩
    · have e1 : valT ((q, x) :: kvs) k = valT kvs k := by simp [valT, List.find?_cons, z]
      rw [e1]
      cases ev : valT kvs k with
      | none =>
        rw [ev] at ih
        show valV ((q, v) :: ws) k = none
        rw [valV_neg z]
        exact ih
      | some t =>
        rw [ev] at ih
        obtain ⟨u, a, b⟩ := ih
        exact ⟨u, by rw [valV_neg z]; exact a, b⟩
theorem RTk.len : ∀ {kvs : List (Key × T)} {us : List (Key × V)}, RTk K F kvs us → us.length = kvs.length
  | [], _, h => by
    have e : _ = [] := h
    subst e
    rfl
  | _ :: _, _, ⟨_, _, e, _, h⟩ => by subst e; simp [RTk.len h]
theorem RTk.app : ∀ {xs ys : List (Key × T)} {vs ws : List (Key × V)}, RTk K F xs vs → RTk K F ys ws → RTk K F (xs ++ ys) (vs ++ ws)
  | [], _, _, _, h, k => by
    have e : _ = [] := h
    subst e
    exact k
  | (_, _) :: _, _, _, _, ⟨v, ws, e, h1, h2⟩, k => by
    subst e
    exact ⟨v, _, rfl, h1, RTk.app h2 k⟩
theorem RTk.put {k : Key} {t : T} {v : V} {kvs : List (Key × T)} {us : List (Key × V)} (h : RTk K F kvs us) (ht : RT K F t v) : RTk K F (putT kvs k t) (putK us k v) := by
  have e1 : ∀ {kvs : List (Key × T)} {us : List (Key × V)}, RTk K F kvs us → (kvs.any fun kv => decide (kv.1 = k)) = us.any fun kv => decide (kv.1 = k) := by
    intro kvs
    induction kvs with
    | nil =>
      intro us h
      have h : us = [] := h
      subst h
      rfl
    | cons p kvs ih =>
      obtain ⟨q, x⟩ := p
      intro us h
      obtain ⟨v, ws, rfl, h1, h2⟩ := h
      rw [List.any_cons, List.any_cons, ih h2]
  have e2 : ∀ {kvs : List (Key × T)} {us : List (Key × V)}, RTk K F kvs us → RTk K F (kvs.map (fun kv => if kv.1 = k then (kv.1, t) else kv)) (us.map (fun kv => if kv.1 = k then (kv.1, v) else kv)) := by
    intro kvs
    induction kvs with
    | nil =>
      intro us h
      have h : us = [] := h
      subst h
      exact (rfl : ([] : List (Key × V)) = [])
    | cons p kvs ih =>
      obtain ⟨q, x⟩ := p
      intro us h
      obtain ⟨u, ws, rfl, h1, h2⟩ := h
      rw [List.map_cons, List.map_cons]
      by_cases z : q = k
      · simp only [z, if_true]
        exact ⟨v, _, rfl, ht, ih h2⟩
      · simp only [z, if_false]
        exact ⟨u, _, rfl, h1, ih h2⟩
  unfold putT putK
  rw [← e1 h]
  split
  · exact e2 h
  · exact h.app ⟨v, [], rfl, ht, rfl⟩
theorem RTk.drop' {k : Key} : ∀ {kvs : List (Key × T)} {us : List (Key × V)}, RTk K F kvs us → RTk K F (dropT kvs k) (dropK us k)
  | [], us, h => by
    have h : us = [] := h
    subst h
    exact (rfl : ([] : List (Key × V)) = [])
  | (q, x) :: kvs, us, ⟨v, ws, e, h1, h2⟩ => by
    subst e
    have ih := RTk.drop' (k := k) h2
    unfold dropT dropK at ih ⊢
    by_cases z : q = k
    · rw [List.filter_cons_of_neg (by simp [z]), List.filter_cons_of_neg (by simp [z])]
      exact ih
    · rw [List.filter_cons_of_pos (by simp [z]), List.filter_cons_of_pos (by simp [z])]
      exact ⟨v, _, rfl, h1, ih⟩
theorem RTk.keys : ∀ {kvs : List (Key × T)} {us : List (Key × V)}, RTk K F kvs us → us.map (·.1) = kvs.map (·.1)
  | [], us, h => by
    have h : us = [] := h
    subst h
    rfl
  | (q, x) :: kvs, us, ⟨v, ws, e, h1, h2⟩ => by
    subst e
    rw [List.map_cons, List.map_cons, RTk.keys h2]
theorem RTk.get : ∀ {kvs : List (Key × T)} {us : List (Key × V)} {i : Nat} {k : Key} {v : V}, RTk K F kvs us → us[i]? = some (k, v) → ∃ t, kvs[i]? = some (k, t) ∧ RT K F t v
  | [], us, i, k, v, h, e => by
    have h : us = [] := h
    subst h
    simp at e
  | (q, x) :: kvs, us, 0, k, v, ⟨u, ws, eu, h1, h2⟩, e => by
    subst eu
    simp at e
    obtain ⟨rfl, rfl⟩ := e
    exact ⟨x, rfl, h1⟩
  | (q, x) :: kvs, us, i + 1, k, v, ⟨u, ws, eu, h1, h2⟩, e => by
    subst eu
    obtain ⟨t, a, b⟩ := RTk.get h2 (show ws[i]? = some (k, v) by simpa using e)
    exact ⟨t, by simpa using a, b⟩
def dicAt (g : List Obj) (i : Nat) : Option (List (Key × T)) := match g[i]? with
  | some (.dic xs) => some xs
  | _ => none
theorem dicAt_ok {i : Nat} {xs : List (Key × T)} (e : dicAt g i = some xs) : g[i]? = some (.dic xs) := by
  unfold dicAt at e
  split at e
  · rename_i ys h
    cases e
    exact h
  · cases e
def vD (g : List Obj) : SV → Option (List (Key × T))
  | .t (.dic xs) => some xs
  | .o i => match g[i]? with
    | some (.dic xs) => some xs
    | some (.frz (.dic xs)) => some xs
    | _ => none
  | _ => none
theorem RG.isD {i : Nat} {xs : List (Key × T)} (h : RG K g F ad L H) (e : g[i]? = some (.dic xs)) : ∃ vs, H (ad i) = some (.dK vs) ∧ RTk K F xs vs := by
  obtain ⟨c, R, ⟨vs, rfl, r⟩, S, _⟩ := h.focus e
  exact ⟨vs, S.l List.mem_cons_self, r⟩
theorem vD_ok {n : Nat} {x : SV} {v : V} {xs : List (Key × T)} (hg : RG K g F ad L H) (hv : RSV K F n ad x v) (e : vD g x = some xs) : ∃ p vs, v = .ref p ∧ Rd H p (.dK vs) ∧ RTk K F xs vs := by
  have tr : ∀ v, RT K F (.dic xs) v → ∃ p vs, v = .ref p ∧ Rd H p (.dK vs) ∧ RTk K F xs vs := fun v h => by
    obtain ⟨p, o, vs, e, h1, h2⟩ := h
    exact ⟨p, vs, e, .inr ⟨o, hg.gr _ _ h1⟩, h2⟩
  cases x with
  | un => cases e
  | t t => cases t with
    | dic ys =>
      cases e
      exact tr v hv
    | _ => cases e
  | o i =>
    obtain ⟨_, rfl⟩ := hv
    unfold vD at e
    dsimp only at e
    cases eo : g[i]? with
    | none => rw [eo] at e; cases e
    | some o =>
      rw [eo] at e
      cases o with
      | dic ys =>
        cases e
        obtain ⟨vs, h1, h2⟩ := hg.isD eo
        exact ⟨_, vs, rfl, .inl h1, h2⟩
      | frz t => cases t with
        | dic ys =>
          cases e
          obtain ⟨c, R, ⟨_, r⟩, S, _⟩ := hg.focus eo
          exact tr _ r
        | _ => cases e
      | _ => cases e
theorem ee_dnew {E : XK} : EE K E tDNewK (fun s => some (.ok (.n (.dic [])) s.g)) := by
  intro sl g F ad L σ H Q r hs hg hf hp
  cases hf
  exact fun p hn => hp _ F ad _ Nx.refl ⟨p, [(p, .dK [])], rfl, ⟨[], rfl, rfl⟩, hg.new hn _⟩
/-- d[k] -/
def oDGet : VO := fun g xs => match xs with
  | [x, .t t] => match vD g x, key t with
    | some kvs, some k => match valT kvs k with
      | some u => some (.v (.t u), g)
      | none => none
    | _, _ => none
  | _ => none
def rDGet : R2 := fun x y H Q => ∃ a v, x = .ref a ∧ DGet H a y (some v) ∧ Q v H
theorem dget_of {us : List (Key × V)} {p : Addr} {k : Key} (h : Rd H p (.dK us)) : DGet H p (kV k) (valV us k) := .inl ⟨us, k, h, rfl, rfl⟩
theorem vo_dget : VOK K (r2 rDGet) oDGet := by
  intro g F ad L H xs vs Q z g' hg hv ho k
  unfold oDGet at ho
  split at ho
  · rename_i x t
    obtain ⟨v1, _, rfl, h1, v2, _, rfl, h2, rfl⟩ := hv
    split at ho
    · rename_i kvs q e1 e2
      obtain ⟨p, us, rfl, h3, h4⟩ := vD_ok hg h1 e1
      have e3 := key_ok h2 e2
      subst e3
      have hval := RTk.val (k := q) h4
      cases ev : valT kvs q with
      | none => rw [ev] at ho; cases ho
      | some u =>
        rw [ev] at ho hval
        cases ho
        obtain ⟨v, a, b⟩ := hval
        refine ⟨p, v, rfl, ?_, resT hg b k⟩
        rw [← a]
        exact dget_of h3
    · cases ho
  · cases ho
theorem ee_dget {E : XK} {td ty : TE} {fd fk : M SV} (h : EV K E td fd) (h2 : EV K E ty fk) : EE K E (tDGet td ty) (mOp2 oDGet fd fk) := ee_op2 (r := rDGet) vo_dget h h2
/-- k in d, k not in d -/
def oDIn (neg : Bool) : VO := fun g xs => match xs with
  | [.t t, x] => match vD g x, key t with
    | some kvs, some k => some (.v (.t (.bl (if neg then !(valT kvs k).isSome else (valT kvs k).isSome))), g)
    | _, _ => none
  | _ => none
theorem vo_din (neg : Bool) : VOK K (r2 fun y x H Q => ∃ a o, x = .ref a ∧ DGet H a y o ∧ Q (.bl (if neg then !o.isSome else o.isSome)) H) (oDIn neg) := by
  intro g F ad L H xs vs Q z g' hg hv ho k
  unfold oDIn at ho
  split at ho
  · rename_i t x
    obtain ⟨v1, _, rfl, h1, v2, _, rfl, h2, rfl⟩ := hv
    split at ho
    · rename_i kvs q e1 e2
      obtain ⟨p, us, rfl, h3, h4⟩ := vD_ok hg h2 e1
      have e3 := key_ok h1 e2
      subst e3
      cases ho
      refine ⟨p, valV us q, rfl, dget_of h3, ?_⟩
      have hval := RTk.val (k := q) h4
      have e4 : (valV us q).isSome = (valT kvs q).isSome := by
        cases ev : valT kvs q with
        | none => rw [ev] at hval; rw [hval]; rfl
        | some u =>
          rw [ev] at hval
          obtain ⟨v, a, b⟩ := hval
          rw [a]; rfl
      rw [e4]
      exact resT hg (t := .bl _) rfl k
    · cases ho
  · cases ho
theorem ee_din {E : XK} {td ty : TE} {fd fk : M SV} (h2 : EV K E ty fk) (h : EV K E td fd) : EE K E (tDIn ty td) (mOp2 (oDIn false) fk fd) :=
  ee_op2 (r := fun y x H Q => ∃ a o, x = .ref a ∧ DGet H a y o ∧ Q (.bl (if false then !o.isSome else o.isSome)) H) (vo_din false) h2 h
theorem ee_dnotin {E : XK} {td ty : TE} {fd fk : M SV} (h2 : EV K E ty fk) (h : EV K E td fd) : EE K E (tDNotIn ty td) (mOp2 (oDIn true) fk fd) :=
  ee_op2 (r := fun y x H Q => ∃ a o, x = .ref a ∧ DGet H a y o ∧ Q (.bl (if true then !o.isSome else o.isSome)) H) (vo_din true) h2 h
/-- a dict that may change has changed -/
theorem putD {i : Nat} {xs ts : List (Key × T)} {vs : List (Key × V)} {z : SV} {v : V} {Q : VK} (hg : RG K g F ad L H) (e : g[i]? = some (.dic xs)) (h : RTk K F ts vs) (hz : RSV K F g.length ad z v)
    (k : ∀ v F' ad' H', Nx g F ad (g.set i (.dic ts)) F' ad' → relZ K L (g.set i (.dic ts)) F' ad' (.v z) v H' → Q v H') : Q v (upd H (ad i) (.dK vs)) := by
  obtain ⟨c, R, ⟨us, rfl, r⟩, S, back⟩ := hg.focus e
  have h2 := back F (.dic ts) [(ad i, .dK vs)] _ (Gr.refl _) ⟨vs, rfl, h⟩ (Sta.set S (.dK vs))
  exact k v F ad _ ⟨Gr.refl _, Ag.refl _ _, by rw [List.length_set]; exact Nat.le_refl _⟩ ⟨by rw [List.length_set]; exact hz, h2⟩
/-- d[k] = e -/
def sDPut (fd fk fv : M SV) : M Fl := fv.bind fun t => fd.bind fun x => fk.bind fun y s => match t, x, y with
  | .t t, .o n, .t u => match dicAt s.g n, key u with
    | some kvs, some k => if kvs.length < 100000 then some (.ok (.nx s.sl) (s.g.set n (.dic (putT kvs k t)))) else none
    | _, _ => none
  | _, _, _ => none
theorem ss_dput {E : XK} {td ty tv : TE} {fd fk fv : M SV} (h1 : EV K E td fd) (h2 : EV K E ty fk) (h : EV K E tv fv) : SS K E (L2.sDPut td ty tv) (sDPut fd fk fv) := by
  intro sl g F ad L σ H D r hs hg hf hp
  refine h.useS hs hg hf hp fun t v g1 F1 ad1 H1 n1 hr1 hk1 => ?_
  have hp1 := hp.nx n1
  refine h1.useS (hs.nx n1) hr1.2 hk1 hp1 fun x w g2 F2 ad2 H2 n2 hr2 hk2 => ?_
  have hp2 := hp1.nx n2
  have n12 := n1.trans n2
  refine h2.useS (hs.nx n12) hr2.2 hk2 hp2 fun y u g3 F3 ad3 H3 n3 hr3 hk3 => ?_
  have hp3 := hp2.nx n3
  have ht := (hr1.1.nx n2).nx n3
  have hx := hr2.1.nx n3
  obtain ⟨hy, hg3⟩ := hr3
  split at hk3
  · rename_i t n w
    split at hk3
    · rename_i kvs q e1 e2
      have e1 := dicAt_ok e1
      have e3 := key_ok hy e2
      subst e3
      by_cases hl : kvs.length < 100000
      · rw [if_pos hl] at hk3
        cases hk3
        obtain ⟨_, rfl⟩ := hx
        obtain ⟨us, h3, h4⟩ := hg3.isD e1
        refine ⟨ad3 n, _, rfl, DPut.k h3 (by rw [h4.len]; exact szl hl), ?_⟩
        refine putD (Q := fun _ H => D.nx σ H) hg3 e1 (h4.put ht) (z := .t .non) (v := .non) rfl fun _ F4 ad4 H4 n4 hr4 => ?_
        exact hp3 σ F4 ad4 H4 n4 (((hs.nx n12).nx n3).nx n4) hr4.2
      · rw [if_neg hl] at hk3; cases hk3
    · cases hk3
  · cases hk3
/-! ### a dict is let go -/
def tSeal (t : TE) : TE := fun σ H Q => t σ H fun v H1 => ∃ d u, v = .ref d ∧ H1 d = some u ∧ Mut (some u) ∧ ∀ od, Q v (upd H1 d (.frz od u))
theorem pe_seal {X : Cx} {e : Expr} {t : TE} (h : PE X e t) : PE X e (tSeal t) := by
  refine ⟨fun pins s σ H Q I q => ?_⟩
  refine thn (h.run pins s σ H _ I q) fun u s1 ⟨v, H1, I1, r1, d, o, ev, hd, mu, q1⟩ => ?_
  obtain ⟨od, I2⟩ := I1.lock hd mu
  exact ⟨v, _, I2, r1, q1 od⟩
def mTD (f : M RZ) : M SV := f.bind fun z => match z with
  | .v (.o i) => fun s => match s.g[i]? with
    | some (.dic xs) => some (.ok (.t (.dic xs)) (s.g.set i (.frz (.dic xs))))
    | _ => none
  | .n (.dic xs) => M.ret (.t (.dic xs))
  | _ => fun _ => none
theorem Sta.seal {F H : Hp} {L : List (Addr × HO)} {p : Addr} {o u : HO} (S : Sta F ((p, o) :: L) H) : ∃ F', Gr F F' ∧ Has F' p u ∧ Sta F' L (upd H p u) := by
  obtain ⟨F', S', gr, hh⟩ := Sta.frz (S.set u)
  exact ⟨F', gr, hh, S'⟩
theorem RG.seal {p : Addr} {o u : HO} (h : RG K g F ad ((p, o) :: L) H) : ∃ F', Gr F F' ∧ Has F' p u ∧ RG K g F' ad L (upd H p u) := (h.setL u).frz
theorem ev_TD {E : XK} {te : TE} {f : M RZ} (h : EE K E te f) : EV K E (tSeal te) (mTD f) := by
  refine JJ.bind (u := fun v _ H1 (Q : VK) => ∃ d u, v = V.ref d ∧ H1 d = some u ∧ Mut (some u) ∧ ∀ od, Q v (upd H1 d (.frz od u))) h fun a b sl g F ad L σ H Q r hs hr hk hp => ?_
  cases a with
  | v x =>
    obtain ⟨h1, h2⟩ := hr
    cases x with
    | un => exact h1.elim
    | t t => cases hk
    | o i =>
      obtain ⟨hlt, rfl⟩ := h1
      dsimp only at hk
      split at hk
      · rename_i xs e
        cases hk
        obtain ⟨vs, h3, h4⟩ := h2.isD e
        refine ⟨ad i, _, rfl, h3, trivial, fun od => ?_⟩
        obtain ⟨c, R, ⟨vs', rfl, ro⟩, S, back⟩ := h2.focus e
        have e5 : vs' = vs := by
          have q : H (ad i) = some (.dK vs') := S.l List.mem_cons_self
          rw [h3] at q
          cases q
          rfl
        subst e5
        obtain ⟨F', gr, hh, S'⟩ := Sta.seal (u := .frz od (.dK vs')) S
        have rt : RT K F' (.dic xs) (.ref (ad i)) := ⟨ad i, od, vs', rfl, hh.1, RTk.up gr _ _ ro⟩
        have h5 := back F' (.frz (.dic xs)) [] _ gr ⟨rfl, rt⟩ S'
        exact hp _ F' ad _ ⟨gr, Ag.refl _ _, by rw [List.length_set]; exact Nat.le_refl _⟩ ⟨rt, h5⟩
      · cases hk
  | n o =>
    obtain ⟨p, c, rfl, h1, h2⟩ := hr
    cases o with
    | dic xs =>
      cases hk
      obtain ⟨vs, rfl, r⟩ := h1
      have h3 : H p = some (.dK vs) := RG.hd (L := L) h2
      refine ⟨p, _, rfl, h3, trivial, fun od => ?_⟩
      obtain ⟨F', gr, hh, h4⟩ := RG.seal (L := L) (u := .frz od (.dK vs)) h2
      exact hp _ F' ad _ ⟨gr, Ag.refl _ _, Nat.le_refl _⟩ ⟨⟨p, od, vs, rfl, hh.1, RTk.up gr _ _ r⟩, h4⟩
    | lst _ => simp at hk
    | dct _ => simp at hk
    | frz _ => simp at hk
    | gone => simp at hk
/-! ### what is walked -/
def ones (ts : List T) : List Im := ts.map Im.one
def iOf (v : List Obj → SV → Option (List T)) (f : M SV) : M (List Im) := f.bind fun x s => match v s.g x with
  | some ts => some (.ok (ones ts) s.g)
  | none => none
/-- a list that is let go -/
def isT : SV → Bool
  | .t _ => true
  | _ => false
def mItL (f : M SV) : M (List Im) := f.bind fun x s => match x with
  | .t (.lst ts) => some (.ok (ones ts) s.g)
  | .t (.scr ns) => some (.ok (ones (ns.map T.int)) s.g)
  | _ => none
theorem yat_ok {ts : List T} {vs : List V} (h : RTs K F ts vs) : ∀ i H x H', i < (ones ts).length → YAt vs i H x H' → ∃ im, (ones ts)[i]? = some im ∧ ImV K F H im x H' := by
  rintro i H x H' hi ⟨rfl, e⟩
  have hi : i < ts.length := by simpa [ones] using hi
  have et : ts[i]? = some ts[i] := List.getElem?_eq_getElem hi
  obtain ⟨v, e1, e2⟩ := h.get et
  rw [e] at e1
  cases e1
  exact ⟨.one ts[i], by simp [ones, hi], rfl, e2⟩
theorem ii_list {E : XK} {te : TE} {f : M SV} (h : EV K E te f) : II K E (iList K te) (mItL f) := by
  refine JJ.bind (u := fun x _ H1 (R : It → Hp → Prop) => ∃ a, x = V.ref a ∧ (∃ xs, SqL K H1 a xs) ∧ R (Itl K a) H1) h fun a b sl g F ad L σ H Q r hs hr hk hp => ?_
  obtain ⟨h1, h2⟩ := hr
  have go : ∀ p vs ts, b = .ref p → SqL K F p vs → RTs K F ts vs → r = .ok (ones ts) g → ∃ a, b = V.ref a ∧ (∃ xs, SqL K H a xs) ∧ Q (Itl K a) H := fun p vs ts e1 e2 e3 e4 => by
    subst e4
    refine ⟨p, e1, ⟨vs, h2.gr.sqL e2⟩, hp _ F ad H Nx.refl ⟨fun H => SqL K H p vs, YAt vs, ?_, fun F' H' g1 g2 => (g1.trans g2).sqL e2, yat_ok e3, h2⟩⟩
    have e5 : (ones ts).length = vs.length := by simp [ones, e3.len]
    rw [e5]
    exact walk_list
  cases a with
  | un => exact h1.elim
  | o i => cases hk
  | t t => cases t with
    | lst ts =>
      obtain ⟨p, vs, e1, e2, e3⟩ := h1
      cases hk
      exact go p vs ts e1 (.of e2) e3 rfl
    | scr ns =>
      obtain ⟨p, e1, e2⟩ := h1
      cases hk
      exact go p _ _ e1 e2 (RTs.ofInts ns) rfl
    | _ => cases hk
def mItU (f : M SV) : M (List Im) := f.bind fun x s => match x with
  | .t (.tup ts) => some (.ok (ones ts) s.g)
  | _ => none
theorem ii_tup {E : XK} {te : TE} {f : M SV} (h : EV K E te f) : II K E (iTup K te) (mItU f) := by
  refine JJ.bind (u := fun x _ H1 (R : It → Hp → Prop) => ∃ a, x = V.ref a ∧ (∃ xs, SqT K H1 a xs) ∧ R (Itt K a) H1) h fun a b sl g F ad L σ H Q r hs hr hk hp => ?_
  obtain ⟨h1, h2⟩ := hr
  cases a with
  | un => exact h1.elim
  | o i => cases hk
  | t t => cases t with
    | tup ts =>
      obtain ⟨p, vs, e1, e2, e3⟩ := h1
      cases hk
      refine ⟨p, e1, ⟨vs, h2.gr.sqT e2.sqT⟩, hp _ F ad H Nx.refl ⟨fun H => SqT K H p vs, YAt vs, ?_, fun F' H' g1 g2 => (g1.trans g2).sqT e2.sqT, yat_ok e3, h2⟩⟩
      have e5 : (ones ts).length = vs.length := by simp [ones, e3.len]
      rw [e5]
      exact walk_tup
    | _ => cases hk
def rangeI (lo : Int) (n : Nat) : List Im := (List.range n).map fun (k : Nat) => Im.one (.int (lo + k))
theorem range_ok {lo : Int} {n : Nat} (h2 : RG K g F ad L H) : relI K L g F ad (rangeI lo n) (Itr lo n) H := by
  refine ⟨fun _ => True, YFn fun i => .int (lo + i), ?_, fun _ _ _ _ => trivial, ?_, h2⟩
  · have e : (rangeI lo n).length = n := by simp [rangeI]
    rw [e]
    exact walk_range
  · rintro i H x H' hi ⟨rfl, rfl⟩
    have hi : i < n := by simpa [rangeI] using hi
    exact ⟨.one (.int (lo + i)), by simp [rangeI, hi], rfl, rfl⟩
def mRng1 (f : M (List SV)) : M (List Im) := f.bind fun xs s => match xs with
  | [.t (.int j)] => if -1000000 ≤ j ∧ j ≤ 1000000 then some (.ok (rangeI 0 j.toNat) s.g) else none
  | _ => none
theorem ii_rng1 {E : XK} {ta : TA} {f : M (List SV)} (h : AA K E ta f) : II K E (iRng1 ta) (mRng1 f) := by
  refine JJ.bind (u := fun vs _ H1 (R : It → Hp → Prop) => ∃ j : Int, vs = [V.int j] ∧ -(2 ^ 62) ≤ j ∧ j < 2 ^ 62 ∧ R (Itr 0 j.toNat) H1) h fun a b sl g F ad L σ H Q r hs hr hk hp => ?_
  obtain ⟨h1, h2⟩ := hr
  split at hk
  · rename_i j
    obtain ⟨v1, _, rfl, e, rfl⟩ := h1
    have e : v1 = .int j := e
    subst e
    by_cases q : -1000000 ≤ j ∧ j ≤ 1000000
    · rw [if_pos q] at hk
      cases hk
      exact ⟨j, rfl, by omega, by omega, hp _ F ad H Nx.refl (range_ok h2)⟩
    · rw [if_neg q] at hk; cases hk
  · cases hk
def mRng2 (f : M (List SV)) : M (List Im) := f.bind fun xs s => match xs with
  | [.t (.int i), .t (.int j)] => if -1000000 ≤ i ∧ i ≤ 1000000 ∧ -1000000 ≤ j ∧ j ≤ 1000000 then some (.ok (rangeI i (j - i).toNat) s.g) else none
  | _ => none
theorem ii_rng2 {E : XK} {ta : TA} {f : M (List SV)} (h : AA K E ta f) : II K E (iRng2 ta) (mRng2 f) := by
  refine JJ.bind (u := fun vs _ H1 (R : It → Hp → Prop) => ∃ i j : Int, vs = [V.int i, V.int j] ∧ (-(2 ^ 62) ≤ i ∧ i < 2 ^ 62 ∧ -(2 ^ 62) ≤ j ∧ j < 2 ^ 62) ∧ R (Itr i (j - i).toNat) H1) h fun a b sl g F ad L σ H Q r hs hr hk hp => ?_
  obtain ⟨h1, h2⟩ := hr
  split at hk
  · rename_i i j
    obtain ⟨v1, _, rfl, e, v2, _, rfl, e', rfl⟩ := h1
    have e : v1 = .int i := e
    have e' : v2 = .int j := e'
    subst e e'
    by_cases q : -1000000 ≤ i ∧ i ≤ 1000000 ∧ -1000000 ≤ j ∧ j ≤ 1000000
    · rw [if_pos q] at hk
      cases hk
      exact ⟨i, j, rfl, ⟨by omega, by omega, by omega, by omega⟩, hp _ F ad H Nx.refl (range_ok h2)⟩
    · rw [if_neg q] at hk; cases hk
  · cases hk
def enumI (ts : List T) : List Im := (List.range ts.length).map fun (i : Nat) => Im.two (.int (i : Int)) (ts.getD i .non)
def mEnum (f : M (List SV)) : M (List Im) := f.bind fun xs s => match xs with
  | [.t (.lst ts)] => some (.ok (enumI ts) s.g)
  | _ => none
theorem ii_enum {E : XK} {ta : TA} {f : M (List SV)} (h : AA K E ta f) : II K E (iEnum K ta) (mEnum f) := by
  refine JJ.bind (u := fun vs _ H1 (R : It → Hp → Prop) => ∃ a xs, vs = [V.ref a] ∧ SqL K H1 a xs ∧ R (Ite K a) H1) h fun a b sl g F ad L σ H Q r hs hr hk hp => ?_
  obtain ⟨h1, h2⟩ := hr
  split at hk
  · rename_i ts
    obtain ⟨v1, _, rfl, ⟨p, vs, rfl, e2, e3⟩, rfl⟩ := h1
    cases hk
    refine ⟨p, vs, rfl, .of (h2.gr _ _ e2), hp _ F ad H Nx.refl ⟨fun H => SqL K H p vs, YPair (fun i => some (.int (i : Nat))) (fun i => vs[i]?), ?_, fun F' H' g1 g2 => .of (g2 _ _ (g1 _ _ e2)), ?_, h2⟩⟩
    · have e5 : (enumI ts).length = vs.length := by simp [enumI, e3.len]
      rw [e5]
      exact walk_enum
    · rintro i H1 x H2 hi ⟨Ta, u, w, rfl, hT, rfl, e5, e6⟩
      have hi : i < ts.length := by simpa [enumI] using hi
      obtain ⟨v, e7, e8⟩ := e3.get (List.getElem?_eq_getElem hi)
      have e6 : vs[i]? = some w := e6
      rw [e6] at e7
      cases e7
      cases e5
      exact ⟨.two (.int i) ts[i], by simp [enumI, hi], Ta, _, w, rfl, hT, rfl, rfl, e8⟩
  · cases hk
def keysI (kvs : List (Key × T)) : List Im := kvs.map fun kv => Im.one (keyT kv.1)
def frzD (g : List Obj) : SV → Option (List (Key × T))
  | .t (.dic kvs) => some kvs
  | .o i => match g[i]? with
    | some (.frz (.dic kvs)) => some kvs
    | _ => none
  | _ => none
theorem frzD_ok {n : Nat} {x : SV} {v : V} {kvs : List (Key × T)} (hg : RG K g F ad L H) (hv : RSV K F n ad x v) (e : frzD g x = some kvs) : RT K F (.dic kvs) v := by
  cases x with
  | un => cases e
  | t t => cases t with
    | dic ys => cases e; exact hv
    | _ => cases e
  | o i =>
    obtain ⟨_, rfl⟩ := hv
    unfold frzD at e
    dsimp only at e
    split at e
    · rename_i ys eo
      cases e
      obtain ⟨c, R, ⟨_, r⟩, S, _⟩ := hg.focus eo
      exact r
    · cases e
def mKeys (f : M SV) : M (List Im) := f.bind fun x s => match frzD s.g x with
  | some kvs => some (.ok (keysI kvs) s.g)
  | none => none
theorem ii_keys {E : XK} {te : TE} {f : M SV} (h : EV K E te f) : II K E (iKeys te) (mKeys f) := by
  refine JJ.bind (u := fun x _ H1 (R : It → Hp → Prop) => ∃ d o, x = V.ref d ∧ ((∃ kvs, H1 d = some (.frz o (.dK kvs)) ∧ R (Itk d o kvs) H1) ∨ ∃ kvs, H1 d = some (.frz o (.dT kvs)) ∧ R (Itkt d o kvs) H1)) h fun a b sl g F ad L σ H Q r hs hr hk hp => ?_
  obtain ⟨h1, h2⟩ := hr
  dsimp only at hk
  split at hk
  · rename_i kvs ek
    obtain ⟨p, o, us, e1, e2, e3⟩ := frzD_ok h2 h1 ek
    cases hk
    refine ⟨p, o, e1, .inl ⟨us, h2.gr _ _ e2, hp _ F ad H Nx.refl ⟨fun H => H p = some (.frz o (.dK us)), fun i H x H' => H' = H ∧ ∃ k v, us[i]? = some (k, v) ∧ x = kV k, ?_, fun F' H' g1 g2 => g2 _ _ (g1 _ _ e2), ?_, h2⟩⟩⟩
    · have e5 : (keysI kvs).length = us.length := by simp [keysI, e3.len]
      rw [e5]
      exact walk_keys
    · rintro i H1 x H2 hi ⟨rfl, k, v, e5, rfl⟩
      obtain ⟨t, e6, e7⟩ := e3.get e5
      exact ⟨.one (keyT k), by simp [keysI, e6], rfl, keyT_ok k⟩
  · cases hk
def itemsI (kvs : List (Key × T)) : List Im := kvs.map fun kv => Im.two (keyT kv.1) kv.2
def mItems (f : M SV) : M (List Im) := f.bind fun x s => match frzD s.g x with
  | some kvs => some (.ok (itemsI kvs) s.g)
  | none => none
theorem ii_items {E : XK} {te : TE} {f : M SV} (h : EV K E te f) : II K E (iItems te) (mItems f) := by
  refine JJ.bind (u := fun x _ H1 (R : It → Hp → Prop) => ∃ d o kvs, x = V.ref d ∧ H1 d = some (.frz o (.dK kvs)) ∧ R (Iti d o kvs) H1) h fun a b sl g F ad L σ H Q r hs hr hk hp => ?_
  obtain ⟨h1, h2⟩ := hr
  dsimp only at hk
  split at hk
  · rename_i kvs ek
    obtain ⟨p, o, us, e1, e2, e3⟩ := frzD_ok h2 h1 ek
    cases hk
    refine ⟨p, o, us, e1, h2.gr _ _ e2, hp _ F ad H Nx.refl ⟨fun H => H p = some (.frz o (.dK us)), YPair (fun i => us[i]?.map fun kv => kV kv.1) (fun i => us[i]?.map Prod.snd), ?_, fun F' H' g1 g2 => g2 _ _ (g1 _ _ e2), ?_, h2⟩⟩
    · have e5 : (itemsI kvs).length = us.length := by simp [itemsI, e3.len]
      rw [e5]
      exact walk_items
    · rintro i H1 x H2 hi ⟨Ta, u, w, rfl, hT, rfl, e5, e6⟩
      dsimp only at e5 e6
      cases e : us[i]? with
      | none => rw [e] at e5; cases e5
      | some kv =>
        obtain ⟨k, v⟩ := kv
        rw [e] at e5 e6
        cases e5
        cases e6
        obtain ⟨t, e7, e8⟩ := e3.get e
        exact ⟨.two (keyT k) t, by simp [itemsI, e7], Ta, _, _, rfl, hT, rfl, keyT_ok k, e8⟩
  · cases hk
/-! ### sorted texts -/
def leS (a b : Str) : Bool := !ltCps b.cps.toList a.cps.toList
def sortS (ws : List Str) : List Str := ws.mergeSort leS
theorem lt_irr : ∀ a : List Nat, ltCps a a = false
  | [] => rfl
  | a :: r => by simp [ltCps, lt_irr r]
theorem le_tr : ∀ a b c : List Nat, ltCps b a = false → ltCps c b = false → ltCps c a = false
  | [], b, [], _, _ => rfl
  | [], [], _ :: _, _, _ => rfl
  | [], _ :: _, _ :: _, _, _ => rfl
  | a :: r, [], c, h, _ => by simp [ltCps] at h
  | a :: r, b :: t, [], _, h => by simp [ltCps] at h
  | a :: r, b :: t, c :: u, h, k => by
    simp only [ltCps, Bool.or_eq_false_iff, decide_eq_false_iff_not, Bool.and_eq_false_iff, beq_eq_false_iff_ne] at h k ⊢
    obtain ⟨h1, h2⟩ := h
    obtain ⟨k1, k2⟩ := k
    refine ⟨by omega, ?_⟩
    by_cases q : c = a
    · subst q
      have e : b = c := by omega
      subst e
      exact .inr (le_tr r t u (h2.resolve_left (by simp)) (k2.resolve_left (by simp)))
    · exact .inl q
theorem le_tot : ∀ a b : List Nat, ltCps b a = false ∨ ltCps a b = false
  | [], [] => .inl rfl
  | [], _ :: _ => .inl rfl
  | _ :: _, [] => .inr rfl
  | a :: r, b :: t => by
    simp only [ltCps, Bool.or_eq_false_iff, decide_eq_false_iff_not, Bool.and_eq_false_iff, beq_eq_false_iff_ne]
    rcases Nat.lt_trichotomy a b with q | q | q
    · exact .inl ⟨by omega, .inl (by omega)⟩
    · subst q
      rcases le_tot r t with z | z
      · exact .inl ⟨by omega, .inr z⟩
      · exact .inr ⟨by omega, .inr z⟩
    · exact .inr ⟨by omega, .inl (by omega)⟩
theorem le_anti : ∀ a b : List Nat, ltCps b a = false → ltCps a b = false → a = b
  | [], [], _, _ => rfl
  | [], _ :: _, _, h => by simp [ltCps] at h
  | _ :: _, [], h, _ => by simp [ltCps] at h
  | a :: r, b :: t, h, k => by
    simp only [ltCps, Bool.or_eq_false_iff, decide_eq_false_iff_not, Bool.and_eq_false_iff, beq_eq_false_iff_ne] at h k
    have e : a = b := by omega
    subst e
    rw [le_anti r t (h.2.resolve_left (by simp)) (k.2.resolve_left (by simp))]
theorem leS_tr (a b c : Str) (h : leS a b = true) (k : leS b c = true) : leS a c = true := by
  unfold leS at *
  simp only [Bool.not_eq_true'] at *
  exact le_tr _ _ _ h k
theorem leS_tot (a b : Str) : (leS a b || leS b a) = true := by
  unfold leS
  rcases le_tot a.cps.toList b.cps.toList with h | h <;> simp [h]
theorem leS_anti (a b : Str) (h : leS a b = true) (k : leS b a = true) : a = b := by
  unfold leS at *
  simp only [Bool.not_eq_true'] at *
  have e := le_anti _ _ h k
  obtain ⟨x⟩ := a
  obtain ⟨y⟩ := b
  have e : x.toList = y.toList := e
  rw [Array.toList_inj.mp e]
theorem pw_of_rising : ∀ (p : Str) (l : List Str), risingS p l = true → (p :: l).Pairwise (fun a b => leS a b = true)
  | p, [], _ => List.pairwise_singleton ..
  | p, x :: r, h => by
    have h : (!ltCps x.cps.toList p.cps.toList && risingS x r) = true := h
    obtain ⟨h1, h2⟩ := Bool.and_eq_true_iff.mp h
    have ih := pw_of_rising x r h2
    refine List.pairwise_cons.mpr ⟨fun y hy => ?_, ih⟩
    rcases List.mem_cons.mp hy with rfl | hy
    · exact h1
    · exact leS_tr _ _ _ (show leS p x = true from h1) ((List.pairwise_cons.mp ih).1 y hy)
theorem pw_of_sorted : ∀ {l : List Str}, sortedS l = true → l.Pairwise (fun a b => leS a b = true)
  | [], _ => List.Pairwise.nil
  | p :: l, h => pw_of_rising p l h
theorem sortS_pw (ws : List Str) : (sortS ws).Pairwise (fun a b => leS a b = true) := List.pairwise_mergeSort (le := leS) leS_tr leS_tot ws
theorem sortS_perm (ws : List Str) : (sortS ws).Perm ws := List.mergeSort_perm ws leS
theorem sorted_is {ws ys : List Str} (h : ys.Perm ws) (hs : sortedS ys = true) : ys = sortS ws :=
  List.Perm.eq_of_pairwise (fun a b _ _ h k => leS_anti a b h k) (pw_of_sorted hs) (sortS_pw ws) (h.trans (sortS_perm ws).symm)
def strsOf : List T → Option (List Str)
  | [] => some []
  | .str w :: ts => match strsOf ts with
    | some ws => some (w :: ws)
    | none => none
  | _ :: _ => none
theorem strsOf_ok : ∀ {ts : List T} {ws : List Str}, strsOf ts = some ws → ts = ws.map T.str
  | [], ws, h => by cases h; rfl
  | t :: ts, ws, h => by
    cases t with
    | str w =>
      unfold strsOf at h
      split at h
      · rename_i us e
        cases h
        rw [strsOf_ok e]
        rfl
      · cases h
    | _ => cases h
/-- sorted(a list of texts) -/
def oSorted : VO := fun g xs => match xs with
  | [x] => match vL g x with
    | some ts => match strsOf ts with
      | some ws => if ws.length < 64 then some (.n (.lst ((sortS ws).map T.str)), g) else none
      | none => none
    | none => none
  | _ => none
theorem vo_sorted : VOK K (rSortedS K) oSorted := by
  intro g F ad L H xs vs Q z g' hg hv ho k
  unfold oSorted at ho
  split at ho
  · rename_i x
    obtain ⟨v1, _, rfl, h1, rfl⟩ := hv
    split at ho
    · rename_i ts e
      split at ho
      · rename_i ws e2
        by_cases q : ws.length < 64
        · rw [if_pos q] at ho
          cases ho
          obtain ⟨p, us, rfl, h3, h4⟩ := vL_ok hg h1 e
          rw [strsOf_ok e2] at h4
          rw [RTs.strs h4] at h3
          refine ⟨p, ws, rfl, h3, q, fun ys p hp hs hn => ?_⟩
          rw [sorted_is hp hs]
          exact Mf.newL hg (RTs.ofStrs _) k p hn
        · rw [if_neg q] at ho; cases ho
      · cases ho
    · cases ho
  · cases ho
def keyStrs : List (Key × T) → Option (List Str)
  | [] => some []
  | (.inr w, _) :: ts => match keyStrs ts with
    | some ws => some (w :: ws)
    | none => none
  | _ :: _ => none
theorem keyStrs_ok : ∀ {ts : List (Key × T)} {ws : List Str}, keyStrs ts = some ws → ts.map (·.1) = ws.map Sum.inr
  | [], ws, h => by cases h; rfl
  | (k, t) :: ts, ws, h => by
    cases k with
    | inr w =>
      unfold keyStrs at h
      split at h
      · rename_i us e
        cases h
        rw [List.map_cons, keyStrs_ok e]
        rfl
      · cases h
    | inl _ => cases h
/-- sorted(a dict) -/
def oSortedD : VO := fun g xs => match xs with
  | [x] => match vD g x with
    | some ts => match keyStrs ts with
      | some ws => if ws.length < 64 then some (.n (.lst ((sortS ws).map T.str)), g) else none
      | none => none
    | none => none
  | _ => none
theorem vo_sortedD : VOK K (fun xs H Q => ∃ (a : Addr) (kvs : List (Key × V)) (ks : List Str), xs = [.ref a] ∧ Rd H a (.dK kvs) ∧ kvs.map (·.1) = ks.map Sum.inr ∧ ks.length < 64 ∧
    ∀ ys p, ys.Perm ks → sortedS ys = true → H p = none → Q (.ref p) (upd H p (.lst (ys.map V.str)))) oSortedD := by
  intro g F ad L H xs vs Q z g' hg hv ho k
  unfold oSortedD at ho
  split at ho
  · rename_i x
    obtain ⟨v1, _, rfl, h1, rfl⟩ := hv
    split at ho
    · rename_i ts e
      split at ho
      · rename_i ws e2
        by_cases q : ws.length < 64
        · rw [if_pos q] at ho
          cases ho
          obtain ⟨p, us, rfl, h3, h4⟩ := vD_ok hg h1 e
          refine ⟨p, us, ws, rfl, h3, by rw [h4.keys, keyStrs_ok e2], q, fun ys p hp hs hn => ?_⟩
          rw [sorted_is hp hs]
          exact Mf.newL hg (RTs.ofStrs _) k p hn
        · rw [if_neg q] at ho; cases ho
      · cases ho
    · cases ho
  · cases ho
/-- list(a dict) -/
def oListD : VO := fun g xs => match xs with
  | [x] => match vD g x with
    | some ts => some (.n (.lst (ts.map fun kv => keyT kv.1)), g)
    | none => none
  | _ => none
theorem vo_listD : VOK K (fun xs H Q => ∃ (a : Addr) (kvs : List (Key × V)), xs = [.ref a] ∧ Rd H a (.dK kvs) ∧ ∀ p, H p = none → Q (.ref p) (upd H p (.lst (kvs.map fun kv => kV kv.1)))) oListD := by
  intro g F ad L H xs vs Q z g' hg hv ho k
  unfold oListD at ho
  split at ho
  · rename_i x
    obtain ⟨v1, _, rfl, h1, rfl⟩ := hv
    split at ho
    · rename_i ts e
      cases ho
      obtain ⟨p, us, rfl, h3, h4⟩ := vD_ok hg h1 e
      refine ⟨p, us, rfl, h3, Mf.newL hg ?_ k⟩
      have e1 : us.map (fun kv => kV kv.1) = (us.map (·.1)).map kV := by rw [List.map_map]; rfl
      have e2 : ts.map (fun kv => keyT kv.1) = (ts.map (·.1)).map keyT := by rw [List.map_map]; rfl
      rw [e1, e2, h4.keys]
      generalize ts.map (·.1) = ks
      induction ks with
      | nil => exact (rfl : ([] : List V) = [])
      | cons q ks ih => exact ⟨_, _, rfl, keyT_ok q, ih⟩
    · cases ho
  · cases ho
/-! ### the fields of a library -/
def fieldL (f : Str) (l : Lib) : Option T :=
  if f = "name" then some (.str l.name) else if f = "needs" then some (.tup (l.needs.map .str)) else if f = "defines" then some (.tup (l.defs.map .str)) else if f = "uses" then some (.tup (l.uses.map .str))
  else if f = "weak" then some (.tup (l.weak.map .str)) else if f = "eager" then some (.bl l.eager) else if f = "own_first" then some (.bl l.own) else none
def mLibF (f : Str) (k : M SV) : M RZ := k.bind fun x s => match x with
  | .t (.lib l) => (fieldL f l).map fun t => .ok (.v (.t t)) s.g
  | _ => none
theorem ee_libF {E : XK} {te : TE} {k : M SV} {f : Str} (c : Cls K (libC K)) (na : NoAttr K (libC K) f) (h : EV K E te k) : EE K E (tFld K te f) (mLibF f k) := by
  refine JJ.bind (u := fun x _ H1 (Q : VK) => ∃ a C dx fs v, x = V.ref a ∧ H1 a = some (.ins C dx fs) ∧ Cls K C ∧ NoAttr K C f ∧ fs.lookup f = some v ∧ Q v H1) h fun a b sl g F ad L σ H Q r hs hr hk hp => ?_
  obtain ⟨h1, h2⟩ := hr
  cases a with
  | un => exact h1.elim
  | o i => cases hk
  | t t => cases t with
    | lib l =>
      obtain ⟨p, rfl, ok, dx, a1, a2, a3, a4, h3, p1, p2, p3, p4⟩ := h1
      cases e : fieldL f l with
      | none => simp [e] at hk
      | some t =>
        simp only [e, Option.map_some, Option.some.injEq] at hk
        subst hk
        have go : ∀ v, (libFs l a1 a2 a3 a4).lookup f = some v → RT K F t v → ∃ a C dx fs v, V.ref p = V.ref a ∧ H a = some (.ins C dx fs) ∧ Cls K C ∧ NoAttr K C f ∧ fs.lookup f = some v ∧ Q v H := fun v e1 e2 =>
          ⟨p, _, dx, _, v, rfl, h2.gr _ _ h3, c, na, e1, hp v F ad H Nx.refl ⟨e2, h2⟩⟩
        unfold fieldL at e
        split at e
        · rename_i ef; subst ef; cases e; exact go _ rfl rfl
        split at e
        · rename_i ef; subst ef; cases e; exact go (.ref a1) rfl ⟨a1, _, rfl, p1, RTs.ofStrs _⟩
        split at e
        · rename_i ef; subst ef; cases e; exact go (.ref a2) rfl ⟨a2, _, rfl, p2, RTs.ofStrs _⟩
        split at e
        · rename_i ef; subst ef; cases e; exact go (.ref a3) rfl ⟨a3, _, rfl, p3, RTs.ofStrs _⟩
        split at e
        · rename_i ef; subst ef; cases e; exact go (.ref a4) rfl ⟨a4, _, rfl, p4, RTs.ofStrs _⟩
        split at e
        · rename_i ef; subst ef; cases e; exact go (.bl l.eager) rfl rfl
        split at e
        · rename_i ef; subst ef; cases e; exact go (.bl l.own) rfl rfl
        · cases e
    | _ => cases hk
/-! ### raise an own error -/
def sRaise (c : Str) (f : M SV) : M Fl := f.bind fun x s => match x with
  | .t t => some (.er c t s.g)
  | _ => none
theorem ss_raise {E : XK} {te : TE} {f : M SV} {c fn : Str} (ox : OexC K (He.ga K c)) (na : PySem.W.findIn K (.ref (He.ga K c)) fn = some none) (ef : fieldOf c = fn) (h : EV K E te f) :
    SS K E (fun _ σ H => tMkO (He.ga K c) (spIni K fn) [] (L2.tCons te tNil) σ H fun cls d H' => E cls d H') (sRaise c f) := by
  refine JJ.stmt (u := fun y _ σ H1 => [y].length ≤ 1000 ∧ ∀ a, H1 a = none → spIni K fn (.ref a :: ([y] ++ [])) (upd H1 a (exo a (He.ga K c) none))
      (fun v H2 => v = .non ∧ ∃ (d : Addr) (fs : List (Str × V)), H2 a = some (exo a (He.ga K c) (some d)) ∧ H2 d = some (exd d fs) ∧ H1 d = none ∧ E (.ref (He.ga K c)) (some d) (upd (del H2 a) d (.xd fs))) (fun _ _ _ => False)) h
    fun a b sl g F ad L σ H D r hs hr hk hp => ?_
  obtain ⟨h1, h2⟩ := hr
  cases a with
  | un => exact h1.elim
  | o i => cases hk
  | t t =>
    cases hk
    refine er_read ox na fun d hd => ?_
    obtain ⟨F', gr, hh, h3⟩ := h2.newF hd (.xd [(fn, b)])
    refine hp d b F' ad _ ⟨gr, Ag.refl _ _, Nat.le_refl _⟩ h3 (RT.up gr _ _ h1) ?_
    rw [ef]
    exact hh.1
end Mf


set_option Elab.async false
set_option linter.all false
set_option maxRecDepth 100000
set_option maxHeartbeats 4000000
namespace Mf
open PySem PySem.Spec PyProof.Rows L2 Sb
variable {K : PySem.W.Frag} {F F' F2 : Hp} {g g' : List Obj} {ad ad' : Nat → Addr} {L L' : Cells} {H H' : Hp} {σ : L2.St}
/-! ### what a callee may let out -/
theorem passF {X : Cx} : Passes (L2.CX X.prog X.w) X C8.E0 := fun pins σ H s e s' I c => by
  obtain ⟨a, B, H', cls, d, _, _, _, _, _, _, _, h⟩ := c
  exact h.elim
section
variable {E : XK}
/-- -x -/
def oNeg : VO := fun g xs => match xs with
  | [.t (.int i)] => some (.v (.t (.int (-i))), g)
  | _ => none
theorem ee_neg {te : TE} {f : M SV} (h : EV K E te f) : EE K E (tUn (rU fun i => .int (-i)) te) (mOp oNeg (mCons f mNil)) := by
  refine ee_op (t := L2.tCons te tNil) (r := fun vs H Q => match vs with
    | [x] => rU (fun i => .int (-i)) x H Q
    | _ => False) (fun g F ad L H xs vs Q z g' hg hv ho k => ?_) (aa_cons h aa_nil)
  unfold oNeg at ho
  split at ho
  · rename_i i
    obtain ⟨v1, _, rfl, h1, rfl⟩ := hv
    cases ho
    have h1 : v1 = .int i := h1
    subst h1
    exact ⟨i, rfl, resT hg (t := .int _) rfl k⟩
  · cases ho
/-- x[::-1] -/
def oRevL : VO := fun g xs => match xs with
  | [x] => match vL g x with
    | some ts => some (.n (.lst ts.reverse), g)
    | none => none
  | _ => none
theorem ee_rev {te : TE} {f : M SV} (h : EV K E te f) : EE K E (tRevL K te) (mOp oRevL (mCons f mNil)) := by
  refine ee_op (t := L2.tCons te tNil) (r := fun vs H Q => match vs with
    | [x] => ∃ a xs, x = .ref a ∧ SqL K H a xs ∧ ∀ p, H p = none → Q (.ref p) (upd H p (.lst xs.reverse))
    | _ => False) (fun g F ad L H xs vs Q z g' hg hv ho k => ?_) (aa_cons h aa_nil)
  unfold oRevL at ho
  split at ho
  · rename_i x
    obtain ⟨v1, _, rfl, h1, rfl⟩ := hv
    split at ho
    · rename_i ts e
      cases ho
      obtain ⟨p, us, rfl, h3, h4⟩ := vL_ok hg h1 e
      exact ⟨p, us, rfl, h3, Mf.newL hg h4.rev k⟩
    · cases ho
  · cases ho
/-- t + u of tuples -/
def oCatU : VO := fun g xs => match xs with
  | [x, y] => match vU g x, vU g y with
    | some a, some b => if a.length + b.length ≤ 100000 then some (.v (.t (.tup (a ++ b))), g) else none
    | _, _ => none
  | _ => none
theorem vU_rt {n : Nat} {x : SV} {v : V} {xs : List T} (hv : RSV K F n ad x v) (e : vU g x = some xs) : RT K F (.tup xs) v := by
  cases x with
  | un => cases e
  | o i => cases e
  | t t => cases t with
    | tup ys => cases e; exact hv
    | _ => cases e
theorem vo_catU : VOK K (r2 (rCatZA K)) oCatU := by
  intro g F ad L H xs vs Q z g' hg hv ho k
  unfold oCatU at ho
  split at ho
  · rename_i x y
    obtain ⟨v1, _, rfl, h1, v2, _, rfl, h2, rfl⟩ := hv
    split at ho
    · rename_i a b e1 e2
      by_cases z : a.length + b.length ≤ 100000
      · rw [if_pos z] at ho
        cases ho
        obtain ⟨p, us, rfl, h3, h4⟩ := vU_rt h1 e1
        obtain ⟨q, ws, rfl, h5, h6⟩ := vU_rt h2 e2
        refine ⟨p, q, us, ws, rfl, rfl, h3.up hg.gr, h5.up hg.gr, by rw [h4.len, h6.len]; exact sz z, fun e => ?_, fun _ e => ?_, fun _ _ => Mf.newT hg (h4.app h6) k⟩
        · have e3 : a = [] := by
            have := h4.len
            rw [e] at this
            exact List.length_eq_zero_iff.mp this.symm
          subst e3
          exact resT hg (t := .tup b) ⟨q, ws, rfl, h5, h6⟩ k
        · have e3 : b = [] := by
            have := h6.len
            rw [e] at this
            exact List.length_eq_zero_iff.mp this.symm
          subst e3
          rw [List.append_nil] at k
          exact resT hg (t := .tup a) ⟨p, us, rfl, h3, h4⟩ k
      · rw [if_neg z] at ho; cases ho
    · cases ho
  · cases ho
/-- all(a list of bools), any -/
def boolsOf : List T → Option (List Bool)
  | [] => some []
  | .bl w :: ts => match boolsOf ts with
    | some ws => some (w :: ws)
    | none => none
  | _ :: _ => none
theorem boolsOf_ok : ∀ {ts : List T} {ws : List Bool}, boolsOf ts = some ws → ts = ws.map T.bl
  | [], ws, h => by cases h; rfl
  | t :: ts, ws, h => by
    cases t with
    | bl w =>
      unfold boolsOf at h
      split at h
      · rename_i us e
        cases h
        rw [boolsOf_ok e]
        rfl
      · cases h
    | _ => cases h
def oBools (f : List Bool → Bool) : VO := fun g xs => match xs with
  | [x] => match vL g x with
    | some ts => match boolsOf ts with
      | some bs => some (.v (.t (.bl (f bs))), g)
      | none => none
    | none => none
  | _ => none
theorem vo_all : VOK K (rAll K) (oBools fun bs => bs.all id) := by
  intro g F ad L H xs vs Q z g' hg hv ho k
  unfold oBools at ho
  split at ho
  · rename_i x
    obtain ⟨v1, _, rfl, h1, rfl⟩ := hv
    split at ho
    · rename_i ts e
      split at ho
      · rename_i bs e2
        cases ho
        obtain ⟨p, us, rfl, h3, h4⟩ := vL_ok hg h1 e
        rw [boolsOf_ok e2] at h4
        rw [RTs.bools h4] at h3
        exact ⟨p, bs, rfl, h3, resT hg (t := .bl _) rfl k⟩
      · cases ho
    · cases ho
  · cases ho
theorem vo_any : VOK K (rAny K) (oBools fun bs => bs.any id) := by
  intro g F ad L H xs vs Q z g' hg hv ho k
  unfold oBools at ho
  split at ho
  · rename_i x
    obtain ⟨v1, _, rfl, h1, rfl⟩ := hv
    split at ho
    · rename_i ts e
      split at ho
      · rename_i bs e2
        cases ho
        obtain ⟨p, us, rfl, h3, h4⟩ := vL_ok hg h1 e
        rw [boolsOf_ok e2] at h4
        rw [RTs.bools h4] at h3
        exact ⟨p, bs, rfl, h3, resT hg (t := .bl _) rfl k⟩
      · cases ho
    · cases ho
  · cases ho
/-- dict(a dict) -/
def oDictD : VO := fun g xs => match xs with
  | [x] => match vD g x with
    | some ts => some (.n (.dic ts), g)
    | none => none
  | _ => none
theorem vo_dictD : VOK K (fun xs H Q => ∃ (a : Addr) (kvs : List (Key × V)), xs = [.ref a] ∧ Rd H a (.dK kvs) ∧ ∀ p, H p = none → Q (.ref p) (upd H p (.dK kvs))) oDictD := by
  intro g F ad L H xs vs Q z g' hg hv ho k
  unfold oDictD at ho
  split at ho
  · rename_i x
    obtain ⟨v1, _, rfl, h1, rfl⟩ := hv
    split at ho
    · rename_i ts e
      cases ho
      obtain ⟨p, us, rfl, h3, h4⟩ := vD_ok hg h1 e
      exact ⟨p, us, rfl, h3, fun q hq => k _ F ad _ Nx.refl ⟨q, [(q, .dK us)], rfl, ⟨us, rfl, h4⟩, hg.new hq _⟩⟩
    · cases ho
  · cases ho
/-- isinstance(x, a built-in class) -/
def kindT : T → Option String
  | .non => some "NoneType"
  | .bl _ => some "bool"
  | .int _ => some "int"
  | .str _ => some "str"
  | .lst _ => some "list"
  | .tup _ => some "tuple"
  | .dic _ => some "dict"
  | _ => none
def kindV (g : List Obj) : SV → Option String
  | .t t => kindT t
  | .o i => match g[i]? with
    | some (.lst _) => some "list"
    | some (.dic _) => some "dict"
    | some (.frz t) => kindT t
    | _ => none
  | .un => none
theorem kindT_ok {t : T} {v : V} {n : String} (h : RT K F t v) (e : kindT t = some n) : TyX K F v (.type n) := by
  cases t with
  | non => cases e; cases (show v = .non from h); exact .base .non
  | bl b => cases e; cases (show v = .bl b from h); exact .base (.bl b)
  | int b => cases e; cases (show v = .int b from h); exact .base (.int b)
  | str b => cases e; cases (show v = .str b from h); exact .base (.str b)
  | lst xs => cases e; obtain ⟨p, vs, rfl, h1, _⟩ := h; exact .base (.lst h1)
  | tup xs => cases e; obtain ⟨p, vs, rfl, h1, _⟩ := h; exact ty_tup h1.sqT
  | dic xs => cases e; obtain ⟨p, o, vs, rfl, h1, _⟩ := h; exact .fDict h1
  | _ => cases e
theorem kindV_ok {m : Nat} {x : SV} {v : V} {n : String} (hg : RG K g F ad L H) (hv : RSV K F m ad x v) (e : kindV g x = some n) : TyX K H v (.type n) := by
  cases x with
  | un => cases e
  | t t => exact hg.gr.tyX (kindT_ok hv e)
  | o i =>
    obtain ⟨_, rfl⟩ := hv
    unfold kindV at e
    dsimp only at e
    split at e
    · rename_i xs eo
      cases e
      obtain ⟨vs, h1, _⟩ := hg.isL eo
      exact .base (.lst h1)
    · rename_i xs eo
      cases e
      obtain ⟨vs, h1, _⟩ := hg.isD eo
      exact .base (.dK h1)
    · rename_i t eo
      obtain ⟨c, R, ⟨_, r⟩, S, _⟩ := hg.focus eo
      exact hg.gr.tyX (kindT_ok r e)
    · cases e
def mIsi (n : String) (f : M SV) : M RZ := f.bind fun x s => match kindV s.g x with
  | some m => match kitB m n with
    | some b => some (.ok (tb b) s.g)
    | none => none
  | none => none
theorem ee_isi {te : TE} {f : M SV} {n : String} (h : EV K E te f) : EE K E (tCB (rIsi K) (L2.tCons te (L2.tCons (tC (.ty n)) tNil))) (mIsi n f) := by
  refine JJ.bind (u := fun x _ H (Q : VK) => rIsi K [x, .ty n] H Q) h fun a b sl g F ad L σ H Q r hs hr hk hp => ?_
  obtain ⟨h1, h2⟩ := hr
  dsimp only at hk
  split at hk
  · rename_i m em
    split at hk
    · rename_i c ec
      cases hk
      refine ⟨b, .ty n, _, _, c, rfl, .ty n, kindV_ok h2 h1 em, kit_ty ec, hp _ F ad H Nx.refl ⟨rfl, h2⟩⟩
    · cases hk
  · cases hk
/-! ### several targets -/
/-- a, b = x, y -/
def sPar (i j : Nat) (f : M (List SV)) : M Fl := f.bind fun xs s => match xs with
  | [x, y] => some (.ok (.nx ((s.sl.set i x).set j y)) s.g)
  | _ => none
theorem ss_par {i j : Nat} {ta : TA} {f : M (List SV)} (h : AA K E ta f) : SS K E (tPar i j ta) (sPar i j f) := by
  refine JJ.stmt (u := fun vs D σ H => ∃ v w, vs = [v, w] ∧ D.nx ((σ.set i (some v)).set j (some w)) H) h fun xs b sl g F ad L σ H D r hs hr hk hp => ?_
  obtain ⟨h1, h2⟩ := hr
  split at hk
  · rename_i x y
    obtain ⟨v, _, rfl, a1, w, _, rfl, a2, rfl⟩ := h1
    cases hk
    exact ⟨v, w, rfl, hp _ F ad H Nx.refl ((hs.set a1 i).set a2 j) h2⟩
  · cases hk
def sPar3 (i j l : Nat) (f : M (List SV)) : M Fl := f.bind fun xs s => match xs with
  | [x, y, z] => some (.ok (.nx (((s.sl.set i x).set j y).set l z)) s.g)
  | _ => none
theorem ss_par3 {i j l : Nat} {ta : TA} {f : M (List SV)} (h : AA K E ta f) : SS K E (tPar3 i j l ta) (sPar3 i j l f) := by
  refine JJ.stmt (u := fun vs D σ H => ∃ u v w, vs = [u, v, w] ∧ D.nx (((σ.set i (some u)).set j (some v)).set l (some w)) H) h fun xs b sl g F ad L σ H D r hs hr hk hp => ?_
  obtain ⟨h1, h2⟩ := hr
  split at hk
  · rename_i x y z
    obtain ⟨u, _, rfl, a1, v, _, rfl, a2, w, _, rfl, a3, rfl⟩ := h1
    cases hk
    exact ⟨u, v, w, rfl, hp _ F ad H Nx.refl (((hs.set a1 i).set a2 j).set a3 l) h2⟩
  · cases hk
/-- x += e of whole numbers -/
def sAug (i : Nat) (op : VO) (f : M SV) : M Fl := fun s => match s.sl[i]? with
  | some (.t t) => (f.bind fun y s => match op s.g [.t t, y] with
    | some (.v x, g) => some (.ok (.nx (s.sl.set i x)) g)
    | _ => none) s
  | _ => none
theorem ss_aug {i : Nat} {te : TE} {f : M SV} {h : Int → Int → Int} (hf : EV K E te f) : SS K E (tAug i te (ipI h)) (sAug i (opI0 fun a b => .int (h a b)) f) := by
  intro sl g F ad L σ H D r hs hg hk hp
  unfold sAug at hk
  dsimp only at hk
  split at hk
  · rename_i t ex
    obtain ⟨v, e1, e2⟩ := hs.get ex (by simp)
    refine ⟨v, e1, hf.useS hs hg hk hp fun y w g1 F1 ad1 H1 n1 hr1 hk1 => ?_⟩
    obtain ⟨hy, hg1⟩ := hr1
    have hx : RSV K F1 g1.length ad1 (.t t) v := RT.up n1.gr _ _ e2
    split at hk1
    · rename_i x g2 eo
      cases hk1
      unfold opI0 at eo
      split at eo
      · rename_i a b e3
        injection e3 with e4 e5
        injection e5 with e5 _
        subst e5
        cases e4
        cases eo
        have hx : v = .int a := hx
        have hy : w = .int b := hy
        exact ⟨a, b, hx, hy, (hp.nx n1) _ F1 ad1 H1 Nx.refl ((hs.nx n1).set (x := .t (.int (h a b))) (v := .int (h a b)) rfl i) hg1⟩
      · cases eo
    · cases hk1
  · cases hk
theorem ss_aug_add {i : Nat} {te : TE} {f : M SV} (hf : EV K E te f) : SS K E (tAug i te (ipI fun a b => a + b)) (sAug i oAdd f) := ss_aug hf
theorem ss_aug_sub {i : Nat} {te : TE} {f : M SV} (hf : EV K E te f) : SS K E (tAug i te (ipI fun a b => a - b)) (sAug i oSub f) := ss_aug hf
/-- (a, b, ..) = a tuple -/
def sUnp (f : M SV) (ft : Im → List SV → Option (List SV)) : M Fl := f.bind fun x s => match x with
  | .t t => (ft (.one t) s.sl).map fun sl => .ok (.nx sl) s.g
  | _ => none
theorem ss_unp {js : List Nat} {te : TE} {f : M SV} {tg : TG} {ft : Im → List SV → Option (List SV)} (h : EV K E te f) (hg : GG K js tg ft) : SS K E (tAsg te tg) (sUnp f ft) := by
  refine JJ.stmt (u := fun v D σ H => tg v σ H D.nx) h fun x b sl g F ad L σ H D r hs hr hk hp => ?_
  obtain ⟨h1, h2⟩ := hr
  cases x with
  | un => exact h1.elim
  | o i => cases hk
  | t t =>
    dsimp only at hk
    cases e : ft (.one t) sl with
    | none => rw [e] at hk; cases hk
    | some sl' =>
      rw [e] at hk
      cases hk
      exact hg (.one t) sl sl' _ F ad b σ H H _ h2.gr hs ⟨rfl, h1⟩ e fun σ' hs' _ => hp σ' F ad H Nx.refl hs' h2
end
end Mf


set_option Elab.async false
set_option linter.all false
set_option maxRecDepth 100000
set_option maxHeartbeats 4000000
namespace Mf
open PySem PySem.Spec PyProof.Rows L2 Sb
variable {K : PySem.W.Frag} {F F' F2 : Hp} {g g' : List Obj} {ad ad' : Nat → Addr} {L L' : Cells} {H H' : Hp} {σ : L2.St}
/-! ### libraries and stores -/
section
variable {E : XK}
/-- what is owned, as one list of cells -/
theorem RG.sta (h : RG K g F ad L H) : ∃ co : Cells, Sta F (co ++ L) H ∧ ∀ (F' : Hp) (L' : Cells) (H' : Hp), Gr F F' → Sta F' (co ++ L') H' → RG K g F' ad L' H' := by
  obtain ⟨co, h1, S⟩ := h
  exact ⟨_, S, fun F' L' H' gr S' => ⟨co, fun i o e => (h1 i o e).up gr, S'⟩⟩
def mkL : List SV → List SV → Option Lib
  | [.t (.str n)], [.t (.tup a), .t (.tup b), .t (.tup c), .t (.tup d), .t (.bl e), .t (.bl f)] => match strsOf a, strsOf b, strsOf c, strsOf d with
    | some a, some b, some c, some d => some ⟨n, a, b, c, d, e, f⟩
    | _, _, _, _ => none
  | _, _ => none
def mMkLib (f k : M (List SV)) : M RZ := f.bind fun xs => k.bind fun ys s => match mkL xs ys with
  | some l => if l.ok = true then some (.ok (.v (.t (.lib l))) s.g) else none
  | none => none
theorem tup_strs {n : Nat} {a : List T} {ws : List Str} {v : V} (h : RSV K F n ad (.t (.tup a)) v) (e : strsOf a = some ws) : ∃ p, v = .ref p ∧ PT K F p (sv ws) := by
  obtain ⟨p, vs, rfl, h1, h2⟩ := h
  rw [strsOf_ok e] at h2
  rw [RTs.strs h2] at h1
  exact ⟨p, rfl, h1⟩
theorem ee_mkLib {t tk : TA} {f k : M (List SV)} {gV : List V → List V → List V} (hV : gV = fun vs zs => vs ++ ([] ++ zs)) (h : AA K E t f) (h2 : AA K E tk k) : EE K E (tMakeK (libC K) 1 6 (spLibInit K) gV E t tk) (mMkLib f k) := by
  subst hV
  intro sl g F ad L σ H Q r hs hg hf hp
  refine h.use hs hg hf hp fun xs vs g1 F1 ad1 H1 n1 hr1 hk1 => ?_
  have hp1 := hp.nx n1
  refine h2.use (hs.nx n1) hr1.2 hk1 hp1 fun ys ws g2 F2 ad2 H2 n2 hr2 hk2 => ?_
  have hp2 := hp1.nx n2
  have hx := RSVs.up n2.gr n2.ag n2.le hr1.1
  obtain ⟨hy, hg2⟩ := hr2
  cases e : mkL xs ys with
  | none => rw [e] at hk2; cases hk2
  | some l =>
    rw [e] at hk2
    dsimp only at hk2
    by_cases ok : l.ok = true
    · rw [if_pos ok] at hk2
      cases hk2
      unfold mkL at e
      split at e
      · rename_i n a b c d e1 f1
        split at e
        · rename_i wa wb wc wd ea eb ec ed
          cases e
          obtain ⟨v0, _, rfl, a0, rfl⟩ := hx
          obtain ⟨w1, _, rfl, b1, w2, _, rfl, b2, w3, _, rfl, b3, w4, _, rfl, b4, w5, _, rfl, b5, w6, _, rfl, b6, rfl⟩ := hy
          have a0 : v0 = .str n := a0
          have b5 : w5 = .bl e1 := b5
          have b6 : w6 = .bl f1 := b6
          subst a0 b5 b6
          obtain ⟨p1, rfl, q1⟩ := tup_strs b1 ea
          obtain ⟨p2, rfl, q2⟩ := tup_strs b2 eb
          obtain ⟨p3, rfl, q3⟩ := tup_strs b3 ec
          obtain ⟨p4, rfl, q4⟩ := tup_strs b4 ed
          refine ⟨rfl, rfl, fun x dx h1 h2 ne => ?_⟩
          obtain ⟨co, S, back⟩ := hg2.sta
          obtain ⟨F', S', gr, _⟩ := S.mkI (C := libC K) h1 h2 ne
          refine ⟨F', co ++ L, x, dx, p1, p2, p3, p4, ⟨n, wa, wb, wc, wd, e1, f1⟩, rfl, S', ok, q1.up gr, q2.up gr, q3.up gr, q4.up gr, fun F'' H'' gr2 la S'' => ⟨rfl, ?_⟩⟩
          exact hp2 _ F'' ad2 H'' ⟨gr.trans gr2, Ag.refl _ _, Nat.le_refl _⟩ ⟨⟨x, rfl, la⟩, back F'' L H'' (gr.trans gr2) S''⟩
        · cases e
      · cases e
    · rw [if_neg ok] at hk2; cases hk2
def libsOf : List T → Option (List Lib)
  | [] => some []
  | .lib w :: ts => match libsOf ts with
    | some ws => some (w :: ws)
    | none => none
  | _ :: _ => none
theorem libsOf_ok : ∀ {ts : List T} {ls : List Lib}, libsOf ts = some ls → ts = ls.map T.lib
  | [], ws, h => by cases h; rfl
  | t :: ts, ws, h => by
    cases t with
    | lib w =>
      unfold libsOf at h
      split at h
      · rename_i us e
        cases h
        rw [libsOf_ok e]
        rfl
      · cases h
    | _ => cases h
theorem RTs.libs : ∀ {ls : List Lib} {vs : List V}, RTs K F (ls.map T.lib) vs → ∃ als : List (Addr × Lib), als.map (·.2) = ls ∧ vs = als.map (fun p => V.ref p.1) ∧ ∀ p ∈ als, LibAt K F p.1 p.2
  | [], vs, h => ⟨[], rfl, h, fun p hp => by cases hp⟩
  | l :: ls, _, ⟨v, ws, e, ⟨a, ea, h1⟩, h2⟩ => by
    subst e ea
    obtain ⟨als, e1, e2, h3⟩ := RTs.libs h2
    refine ⟨(a, l) :: als, by rw [List.map_cons, e1], by rw [List.map_cons, e2], fun p hp => ?_⟩
    rcases List.mem_cons.mp hp with rfl | hp
    · exact h1
    · exact h3 p hp
def namesL (ls : List Lib) : List Str := ls.map (·.name)
def mMkSto (f : M (List SV)) : M RZ := f.bind fun xs s => match xs with
  | [.t (.lst ts)] => match libsOf ts with
    | some ls => if (namesL ls).Nodup ∧ ls.length ≤ 40 then some (.ok (.v (.t (.sto ls))) s.g) else none
    | none => none
  | _ => none
theorem due_none : ∀ (als : List (Addr × Lib)) (seen : List Str) (n : Nat), (seen ++ als.map fun p => p.2.name).Nodup → n + als.length ≤ 40 → dueS seen n (als.map some) = none
  | [], _, _, _, _ => rfl
  | p :: als, seen, n, nd, hl => by
    rw [List.length_cons] at hl
    have e : seen ++ (p :: als).map (fun p => p.2.name) = (seen ++ [p.2.name]) ++ als.map fun p => p.2.name := by simp
    rw [e] at nd
    have h1 : p.2.name ∉ seen := by
      have q := (List.nodup_append.mp (List.nodup_append.mp nd).1).2.2
      intro hm
      exact q _ hm _ List.mem_cons_self rfl
    have h2 : ¬ (n = 40 ∨ p.2.name ∈ seen) := by
      rintro (h | h)
      · omega
      · exact h1 h
    rw [List.map_cons, dueS, if_neg h2]
    exact due_none als _ _ nd (by omega)
theorem ee_mkSto {t : TA} {f : M (List SV)} (h : AA K E t f) : EE K E (tMake (storeC K) (spStoreInit K) [] E t) (mMkSto f) := by
  refine JJ.bind (u := fun vs σ H1 (Q : VK) => ∀ x dx, H1 x = none → H1 dx = none → dx ≠ x → spStoreInit K (.ref x :: (vs ++ [])) (upd (upd H1 dx (.own x)) x (.ins (storeC K) dx [])) (fun v H2 => v = .non ∧ Q (.ref x) H2) E) h fun xs vs sl g F ad L σ H Q r hs hr hk hp => ?_
  obtain ⟨hx, hg⟩ := hr
  split at hk
  · rename_i ts
    split at hk
    · rename_i ls e
      split at hk
      · rename_i ok
        cases hk
        obtain ⟨v0, _, rfl, ⟨q, us, rfl, h1, h2⟩, rfl⟩ := hx
        rw [libsOf_ok e] at h2
        obtain ⟨als, e1, e2, h3⟩ := RTs.libs h2
        intro x dx hx hd ne
        obtain ⟨co, S, back⟩ := hg.sta
        obtain ⟨F', S', gr, _⟩ := S.mkI (C := storeC K) hx hd ne
        have nd : (als.map fun p => p.2.name).Nodup := by
          have := ok.1
          unfold namesL at this
          rw [← e1, List.map_map] at this
          exact this
        have hl : als.length ≤ 40 := by
          have := ok.2
          rw [← e1, List.length_map] at this
          exact this
        refine ⟨F', co ++ L, x, dx, .ref q, rfl, S', .inr ⟨q, us, als.map some, rfl, fun F2 H2 g2 S2 => ⟨.of (S2.f (g2 _ _ (gr _ _ h1))), .base (.lst (S2.f (g2 _ _ (gr _ _ h1))))⟩, by rw [e2, List.length_map, List.length_map], fun i y o e3 e4 => ?_, fun k hk => ?_, fun _ F2 H2 g2 st S2 => ⟨rfl, ?_⟩⟩⟩
        · rw [e2, List.getElem?_map] at e3
          rw [List.getElem?_map] at e4
          cases e5 : als[i]? with
          | none => rw [e5] at e4; cases e4
          | some p =>
            rw [e5] at e3 e4
            cases e3
            cases e4
            exact ⟨rfl, (h3 p (List.mem_of_getElem? e5)).up gr⟩
        · rw [due_none als [] 0 (by simpa using nd) (by omega)] at hk
          cases hk
        · have e6 : (als.map some).filterMap id = als := by
            rw [List.filterMap_map]
            exact List.filterMap_some
          rw [e6] at st
          exact hp _ F2 ad H2 ⟨gr.trans g2, Ag.refl _ _, Nat.le_refl _⟩ ⟨⟨x, als, rfl, st, e1⟩, back F2 L H2 (gr.trans g2) S2⟩
      · cases hk
    · cases hk
  · cases hk
/-- x in a store -/
def inSto (ls : List Lib) : T → Option Bool
  | .str z => some (decide (z ∈ namesL ls))
  | t => match kindT t with
    | some _ => some false
    | none => none
theorem inT_of {als : List (Addr × Lib)} {ls : List Lib} {t : T} {v : V} {b : Bool} (e1 : als.map (·.2) = ls) (h : RT K F t v) (e : inSto ls t = some b) : InT K F als v b := by
  have key : ∀ n, kindT t = some n → n ≠ "str" → b = false → InT K F als v b := fun n en nn eb => by
    subst eb
    refine InT.no (n := n) (kindT_ok h en) ?_
    refine kit_ty ?_
    cases t with
    | non => cases en; decide +kernel
    | bl _ => cases en; decide +kernel
    | int _ => cases en; decide +kernel
    | str _ => cases en; exact absurd rfl nn
    | lst _ => cases en; decide +kernel
    | tup _ => cases en; decide +kernel
    | dic _ => cases en; decide +kernel
    | _ => cases en
  cases t with
  | str z =>
    cases e
    cases (show v = .str z from h)
    have q := InT.str (K := K) (F := F) (ls := als) z
    have e2 : stN als = namesL ls := by
      unfold namesL
      rw [← e1, List.map_map]
      rfl
    rw [e2] at q
    exact q
  | non => cases e; exact key _ rfl (by decide) rfl
  | bl _ => cases e; exact key _ rfl (by decide) rfl
  | int _ => cases e; exact key _ rfl (by decide) rfl
  | lst _ => cases e; exact key _ rfl (by decide) rfl
  | tup _ => cases e; exact key _ rfl (by decide) rfl
  | dic _ => cases e; exact key _ rfl (by decide) rfl
  | _ => cases e
def oInSto (neg : Bool) : VO := fun g xs => match xs with
  | [.t t, .t (.sto ls)] => match inSto ls t with
    | some b => some (.v (.t (.bl (if neg then !b else b))), g)
    | none => none
  | _ => none
theorem vo_inSto {neg : Bool} {E' : XK} {f : Addr} (h1 : PySem.W.findIn K (.ref (storeC K)) "__contains__" = some (some (.ref f))) (h2 : PySem.W.isFn K (.ref f) = true) : VOK K (r2 (rInO K neg (spStoreIn K) f E')) (oInSto neg) := by
  intro g F ad L H xs vs Q z g' hg hv ho k
  unfold oInSto at ho
  split at ho
  · rename_i t ls
    obtain ⟨v1, _, rfl, a1, v2, _, rfl, ⟨a, als, rfl, st, e1⟩, rfl⟩ := hv
    split at ho
    · rename_i b e
      cases ho
      obtain ⟨co, S, back⟩ := hg.sta
      obtain ⟨dx, td, q1, q2⟩ := id st.at_
      refine ⟨a, _, dx, _, rfl, hg.gr _ _ q1, h1, h2, F, co ++ L, a, als, v1, b, rfl, S, st, inT_of e1 a1 e, fun H' S' => ⟨b, rfl, ?_⟩⟩
      exact k _ F ad H' Nx.refl ⟨rfl, back F L H' (Gr.refl _) S'⟩
    · cases ho
  · cases ho
def findL (ls : List Lib) (z : Str) : Option Lib := ls.find? fun l => decide (l.name = z)
theorem findL_mem : ∀ {als : List (Addr × Lib)} {p : Addr × Lib}, (als.map fun p => p.2.name).Nodup → p ∈ als → findL (als.map (·.2)) p.2.name = some p.2
  | [], _, _, h => by cases h
  | q :: als, p, nd, h => by
    obtain ⟨n1, n2⟩ := List.nodup_cons.mp (show (q.2.name :: als.map fun p => p.2.name).Nodup from nd)
    unfold findL
    rw [List.map_cons, List.find?_cons]
    rcases List.mem_cons.mp h with rfl | h
    · simp
    · have ne : q.2.name ≠ p.2.name := fun e => n1 (e ▸ List.mem_map.mpr ⟨p, h, rfl⟩)
      rw [decide_eq_false ne]
      exact findL_mem n2 h
/-- a store's library; NoName -/
def mGetSto (f k : M SV) : M RZ := f.bind fun x => k.bind fun y s => match x, y with
  | .t (.sto ls), .t t => match inSto ls t with
    | some false => some (.er "NoName" t s.g)
    | some true => match t with
      | .str z => match findL ls z with
        | some l => some (.ok (.v (.t (.lib l))) s.g)
        | none => none
      | _ => none
    | none => none
  | _, _ => none
theorem ee_getSto {fa : Addr} {ta tb : TE} {f k : M SV} (h1 : PySem.W.findIn K (.ref (storeC K)) "__getitem__" = some (some (.ref fa))) (h2 : PySem.W.isFn K (.ref fa) = true) (h3 : PySem.W.fnIn K fa = true) (h : EV K E ta f) (hk : EV K E tb k) :
    EE K E (tOp (rIxO K (spStoreGet K) fa E) ta tb) (mGetSto f k) := by
  intro sl g F ad L σ H Q r hs hg hf hp
  refine h.use hs hg hf hp fun x v g1 F1 ad1 H1 n1 hr1 hk1 => ?_
  have hp1 := hp.nx n1
  refine hk.use (hs.nx n1) hr1.2 hk1 hp1 fun y w g2 F2 ad2 H2 n2 hr2 hk2 => ?_
  have hp2 := hp1.nx n2
  have hx := hr1.1.nx n2
  obtain ⟨hy, hg2⟩ := hr2
  split at hk2
  · rename_i ls t
    obtain ⟨a, als, rfl, st, e1⟩ := hx
    obtain ⟨co, S, back⟩ := hg2.sta
    obtain ⟨dx, td, q1, q2⟩ := id st.at_
    cases e : inSto ls t with
    | none => simp [e] at hk2
    | some b =>
      refine ⟨a, _, dx, _, rfl, hg2.gr _ _ q1, h1, h3, h2, F2, co ++ L, a, als, w, b, rfl, S, st, inT_of e1 hy e, fun eb d F' H' gr hd S' => ?_, fun p hpm ew H' S' => ?_⟩
      · subst eb
        rw [e] at hk2
        cases hk2
        exact hp2 d w F' ad2 H' ⟨gr, Ag.refl _ _, Nat.le_refl _⟩ (back F' L H' gr S') (RT.up gr _ _ hy) hd
      · rw [e] at hk2
        subst ew
        have et : t = .str p.2.name := by
          cases t with
          | str z => cases (show V.str p.2.name = .str z from hy); rfl
          | non => cases (show V.str p.2.name = .non from hy)
          | bl b => cases (show V.str p.2.name = .bl b from hy)
          | int b => cases (show V.str p.2.name = .int b from hy)
          | scr _ => obtain ⟨_, e, _⟩ := hy; cases e
          | lst _ => obtain ⟨_, _, e, _⟩ := hy; cases e
          | tup _ => obtain ⟨_, _, e, _⟩ := hy; cases e
          | dic _ => obtain ⟨_, _, _, e, _⟩ := hy; cases e
          | dct _ => obtain ⟨_, _, _, e, _⟩ := hy; cases e
          | lib _ => obtain ⟨_, e, _⟩ := hy; cases e
          | sto _ => obtain ⟨_, _, e, _⟩ := hy; cases e
        subst et
        have hin : p.2.name ∈ namesL ls := by
          unfold namesL
          rw [← e1, List.map_map]
          exact List.mem_map.mpr ⟨p, hpm, rfl⟩
        have eb : b = true := by
          have : inSto ls (.str p.2.name) = some (decide (p.2.name ∈ namesL ls)) := rfl
          rw [this, decide_eq_true hin] at e
          cases e
          rfl
        subst eb
        have ef : findL ls p.2.name = some p.2 := by
          rw [← e1]
          exact findL_mem st.nd hpm
        simp only [ef] at hk2
        cases hk2
        exact hp2 _ F2 ad2 H' Nx.refl ⟨⟨p.1, rfl, st.libs p hpm⟩, back F2 L H' (Gr.refl _) S'⟩
  · cases hk2
/-- is_word(x) -/
def isWT : T → Bool
  | .str z => wordB z
  | _ => false
def oIsWord : VO := fun g xs => match xs with
  | [.t t] => match t with
    | .str z => if z.length ≤ 100000 then some (.v (.t (.bl (wordB z))), g) else none
    | t => match kindT t with
      | some _ => some (.v (.t (.bl false)), g)
      | none => none
  | _ => none
theorem vo_isWord : VOK K (fun vs H Q => spIsWord K (vs ++ []) H Q E) oIsWord := by
  intro g F ad L H xs vs Q z g' hg hv ho k
  unfold oIsWord at ho
  split at ho
  · rename_i t
    obtain ⟨v1, _, rfl, h1, rfl⟩ := hv
    obtain ⟨co, S, back⟩ := hg.sta
    have key : ∀ b, WT K F v1 → isW v1 = b → (z, g') = (.v (.t (.bl b)), g) → spIsWord K ([v1] ++ []) H Q E := fun b w e1 e2 => by
      cases e2
      refine ⟨F, co ++ L, v1, rfl, S, w, fun H' S' => ?_⟩
      rw [e1]
      exact k _ F ad H' Nx.refl ⟨rfl, back F L H' (Gr.refl _) S'⟩
    have no : ∀ n, kindT t = some n → n ≠ "str" → isW v1 = false → some (RZ.v (.t (.bl false)), g) = some (z, g') → spIsWord K ([v1] ++ []) H Q E := fun n en nn ew eo => by
      refine key false ⟨_, false, kindT_ok h1 en, kit_ty ?_, (fun e => by cases e), fun _ => ew⟩ ew (Option.some.inj eo.symm)
      cases t with
      | non => cases en; decide +kernel
      | bl _ => cases en; decide +kernel
      | int _ => cases en; decide +kernel
      | str _ => cases en; exact absurd rfl nn
      | lst _ => cases en; decide +kernel
      | tup _ => cases en; decide +kernel
      | dic _ => cases en; decide +kernel
      | _ => cases en
    cases t with
    | str y =>
      dsimp only at ho
      by_cases q : y.length ≤ 100000
      · rw [if_pos q] at ho
        cases (show v1 = .str y from h1)
        exact key _ (WT.str q) rfl (Option.some.inj ho.symm)
      · rw [if_neg q] at ho; cases ho
    | non => cases (show v1 = .non from h1); exact no _ rfl (by decide) rfl ho
    | bl b => cases (show v1 = .bl b from h1); exact no _ rfl (by decide) rfl ho
    | int b => cases (show v1 = .int b from h1); exact no _ rfl (by decide) rfl ho
    | lst b => obtain ⟨p, _, rfl, _⟩ := id h1; exact no _ rfl (by decide) rfl ho
    | tup b => obtain ⟨p, _, rfl, _⟩ := id h1; exact no _ rfl (by decide) rfl ho
    | dic b => obtain ⟨p, _, _, rfl, _⟩ := id h1; exact no _ rfl (by decide) rfl ho
    | _ => cases ho
  · cases ho
/-- names(store) -/
def oNames : VO := fun g xs => match xs with
  | [.t (.sto ls)] => some (.n (.lst ((sortS (namesL ls)).map T.str)), g)
  | _ => none
theorem vo_names : VOK K (fun vs H Q => spNames K (vs ++ []) H Q E) oNames := by
  intro g F ad L H xs vs Q z g' hg hv ho k
  unfold oNames at ho
  split at ho
  · rename_i ls
    obtain ⟨v1, _, rfl, ⟨a, als, rfl, st, e1⟩, rfl⟩ := hv
    cases ho
    obtain ⟨co, S, back⟩ := hg.sta
    refine ⟨F, co ++ L, a, als, rfl, S, st, fun p ws H' hp hs S' => ?_⟩
    have e2 : stN als = namesL ls := by
      unfold namesL
      rw [← e1, List.map_map]
      rfl
    rw [e2] at hp
    have e3 := sorted_is hp hs
    subst e3
    have h2 := back F ((p, .lst ((sortS (namesL ls)).map V.str)) :: L) H' (Gr.refl _) (S'.perm List.perm_middle)
    exact k _ F ad H' Nx.refl ⟨p, [(p, .lst ((sortS (namesL ls)).map V.str))], rfl, ⟨_, rfl, RTs.ofStrs _⟩, h2⟩
  · cases ho
end
end Mf


set_option Elab.async false
set_option linter.all false
set_option maxRecDepth 100000
set_option maxHeartbeats 4000000
namespace Mf
open PySem PySem.Spec PyProof.Rows L2 Sb
variable {K : PySem.W.Frag} {F F' F2 : Hp} {g g' : List Obj} {ad ad' : Nat → Addr} {L L' : Cells} {H H' : Hp} {σ : L2.St}
/-! ### list.remove and list.index of plain things -/
theorem mt_removeV {X : Cx} : MtR X "list.remove" (fun x xs H Q => ∃ (a : Addr) (ys : List V) (y : V) (j : Nat) (z : V), x = V.ref a ∧ xs = [y] ∧ H a = some (.lst ys) ∧ flatV y = true ∧ ys.all flatV = true ∧ ys[j]? = some z ∧ eqV z y = true ∧
    (∀ (m : Nat) (z' : V), m < j → ys[m]? = some z' → eqV z' y = false) ∧ Q .non (upd H a (.lst (ys.eraseIdx j)))) := by
  intro pins s σ H x xs v us Q I rx rxs h
  obtain ⟨a, ys, y, j, z, rfl, rfl, hs, fy, fys, hz, hzj, hno, q⟩ := h
  cases rx
  obtain ⟨uy, rfl, ry⟩ := rxs.one
  obtain ⟨z0, its, n, rv, hl, e⟩ := I.lstM hs
  obtain ⟨u, hu, ru⟩ := rv.get hz
  obtain ⟨hjl, hje⟩ := List.getElem?_eq_some_iff.mp hu
  have hvl := rv.length
  have hj : j < its.toArray.size := by simpa using hjl
  have hsl := sizeLine_eq
  refine call_meets PySem.F.slot_list_remove ⟨_, e, rfl⟩ PySem.F.entry_list_remove (PySem.F.args_list_remove_2 _ _)
    (SeqAt.list_removeAt a its.toArray n _ _ uy (eqU y) j hj ?_ ?_ (by rw [List.size_toArray]; omega)) ⟨e, fun u' hu' => mem_eqAt ry fy rv fys u' (by simpa using hu'), ?_⟩
  · have e1 : its.toArray[j] = u := by simpa using hje
    rw [e1, eqU_of ru (flat_at fys hz)]
    exact hzj
  · intro m hm hmj
    have hml : m < its.length := by simpa using hm
    have hmy : m < ys.length := by omega
    have hy' : ys[m]? = some ys[m] := List.getElem?_eq_getElem hmy
    obtain ⟨u2, hu2, ru2⟩ := rv.get hy'
    obtain ⟨_, hme⟩ := List.getElem?_eq_some_iff.mp hu2
    have e1 : its.toArray[m] = u2 := by simpa using hme
    rw [e1, eqU_of ru2 (flat_at fys hy')]
    exact hno m _ hmj hy'
  · refine ⟨.non, _, I.lset (its' := its.eraseIdx j) (t' := s.toks) hs e ?_ (rv.eraseIdx j) ?_, rfl, q⟩
    · show its.toArray.eraseIdxIfInBounds j = (its.eraseIdx j).toArray
      rw [List.eraseIdxIfInBounds_toArray]
    · have q1 := List.length_eraseIdx_le ys j
      omega
/-- the first place of an equal one -/
def findF (t : T) : List T → Option Nat
  | [] => none
  | s :: ts => if eqF s t = true then some 0 else (findF t ts).map (· + 1)
theorem findF_ok {t : T} {v : V} (ht : RT K F t v) (ft : flT t = true) : ∀ {ts : List T} {vs : List V} {j : Nat}, RTs K F ts vs → ts.all flT = true → findF t ts = some j →
    ∃ z, vs[j]? = some z ∧ eqV z v = true ∧ ∀ (m : Nat) (z' : V), m < j → vs[m]? = some z' → eqV z' v = false
  | [], _, j, _, _, e => by cases e
  | s :: ts, _, j, ⟨u, us, eu, h1, h2⟩, ha, e => by
    subst eu
    rw [List.all_cons, Bool.and_eq_true] at ha
    have he := eqF_ok h1 ht ha.1 ft
    unfold findF at e
    by_cases q : eqF s t = true
    · rw [if_pos q] at e
      cases e
      exact ⟨u, rfl, by rw [he]; exact q, fun m z' hm => by omega⟩
    · rw [if_neg q] at e
      obtain ⟨k, e1, rfl⟩ := Option.map_eq_some_iff.mp e
      obtain ⟨z, a, b, c⟩ := findF_ok ht ft h2 ha.2 e1
      refine ⟨z, by simpa using a, b, fun m z' hm hz => ?_⟩
      cases m with
      | zero =>
        simp at hz
        subst hz
        rw [he]
        simpa using q
      | succ m => exact c m z' (by omega) (by simpa using hz)
def oRemove : VO := fun g xs => match xs with
  | [.o i, .t t] => match lstAt g i with
    | some ts => if flT t && ts.all flT then match findF t ts with
      | some j => some (.v (.t .non), g.set i (.lst (ts.eraseIdx j)))
      | none => none
      else none
    | none => none
  | _ => none
theorem vo_remove : VOK K (rM fun x xs H Q => ∃ (a : Addr) (ys : List V) (y : V) (j : Nat) (z : V), x = V.ref a ∧ xs = [y] ∧ H a = some (.lst ys) ∧ flatV y = true ∧ ys.all flatV = true ∧ ys[j]? = some z ∧ eqV z y = true ∧
    (∀ (m : Nat) (z' : V), m < j → ys[m]? = some z' → eqV z' y = false) ∧ Q .non (upd H a (.lst (ys.eraseIdx j)))) oRemove := by
  intro g F ad L H xs vs Q z g' hg hv ho k
  unfold oRemove at ho
  split at ho
  · rename_i i t
    obtain ⟨v1, _, rfl, ⟨_, rfl⟩, v2, _, rfl, h2, rfl⟩ := hv
    split at ho
    · rename_i ts e
      have e := lstAt_ok e
      split at ho
      · rename_i q
        obtain ⟨q1, q2⟩ := Bool.and_eq_true_iff.mp q
        split at ho
        · rename_i j ej
          cases ho
          obtain ⟨us, h3, h4⟩ := hg.isL e
          obtain ⟨z, a, b, c⟩ := findF_ok h2 q1 h4 q2 ej
          exact ⟨_, us, v2, j, z, rfl, rfl, h3, flT_ok h2 q1, (inF_ok h2 q1 h4 q2).1, a, b, c, putL hg e (h4.era j) (z := .t .non) rfl k⟩
        · cases ho
      · cases ho
    · cases ho
  · cases ho
def oIndex : VO := fun g xs => match xs with
  | [x, .t t] => match vL g x with
    | some ts => if flT t && ts.all flT then match findF t ts with
      | some j => some (.v (.t (.int j)), g)
      | none => none
      else none
    | none => none
  | _ => none
theorem vo_index : VOK K (rM (rIndex K)) oIndex := by
  intro g F ad L H xs vs Q z g' hg hv ho k
  unfold oIndex at ho
  split at ho
  · rename_i x t
    obtain ⟨v1, _, rfl, h1, v2, _, rfl, h2, rfl⟩ := hv
    split at ho
    · rename_i ts e
      split at ho
      · rename_i q
        obtain ⟨q1, q2⟩ := Bool.and_eq_true_iff.mp q
        split at ho
        · rename_i j ej
          cases ho
          obtain ⟨p, us, rfl, h3, h4⟩ := vL_ok hg h1 e
          obtain ⟨z, a, b, c⟩ := findF_ok h2 q1 h4 q2 ej
          exact ⟨p, us, v2, j, z, rfl, rfl, h3, flT_ok h2 q1, (inF_ok h2 q1 h4 q2).1, a, b, c, resT hg (t := .int _) rfl k⟩
        · cases ho
      · cases ho
    · cases ho
  · cases ho
section
variable {E : XK}
/-! ### the truth of a value -/
def truV (g : List Obj) : SV → Option Bool
  | .t .non => some false
  | .t (.bl b) => some b
  | .t (.int i) => some (i != 0)
  | x => match vL g x with
    | some ts => some (!ts.isEmpty)
    | none => match vU g x with
      | some ts => some (!ts.isEmpty)
      | none => match x with
        | .o i => match dicAt g i with
          | some kvs => some (!kvs.isEmpty)
          | none => none
        | _ => none
theorem emp_eq {ts : List T} {vs : List V} (h : RTs K F ts vs) : (!ts.isEmpty) = !vs.isEmpty := by
  have := h.len
  cases ts <;> cases vs <;> simp_all
theorem truV_ok {n : Nat} {x : SV} {v : V} {b : Bool} (hg : RG K g F ad L H) (hv : RSV K F n ad x v) (e : truV g x = some b) : TruV K v H b := by
  unfold truV at e
  split at e
  · cases e; cases (show v = .non from hv); exact rfl
  · cases e; cases (show v = .bl _ from hv); exact rfl
  · cases e; cases (show v = .int _ from hv); exact rfl
  · split at e
    · rename_i ts el
      cases e
      obtain ⟨p, us, rfl, h3, h4⟩ := vL_ok hg hv el
      exact .inl ⟨us, h3, emp_eq h4⟩
    · split at e
      · rename_i ts el
        cases e
        obtain ⟨p, us, rfl, h3, h4⟩ := vU_ok hg hv el
        exact .inr (.inl ⟨us, h3.sqT, emp_eq h4⟩)
      · split at e
        · rename_i i
          split at e
          · rename_i kvs ek
            cases e
            obtain ⟨_, rfl⟩ := hv
            obtain ⟨us, h1, h2⟩ := hg.isD (dicAt_ok ek)
            have := h2.len
            refine .inr (.inr ⟨us, h1, ?_⟩)
            cases kvs <;> cases us <;> simp_all
          · cases e
        · cases e
def mTru (f : M SV) : M Bool := f.bind fun x s => match truV s.g x with
  | some b => some (.ok b s.g)
  | none => none
theorem tt_tru {te : TE} {f : M SV} (h : EV K E te f) : TT K E (fun σ H Q => te σ H fun x H' => ∃ k, TruV K x H' k ∧ Q k H') (mTru f) := by
  refine JJ.bind (u := fun x _ H (Q : Bool → Hp → Prop) => ∃ k, TruV K x H k ∧ Q k H) h fun a b sl g F ad L σ H Q r hs hr hk hp => ?_
  obtain ⟨h1, h2⟩ := hr
  dsimp only at hk
  split at hk
  · rename_i c ec
    cases hk
    exact ⟨c, truV_ok h2 h1 ec, hp c F ad H Nx.refl ⟨rfl, h2⟩⟩
  · cases hk
/-! ### dict methods -/
theorem isD_of {us : List (Key × V)} {p : Addr} (h : Rd H p (.dK us)) : IsD H p := .inl ⟨us, h⟩
/-- d.get(k), d.get(k, x) -/
def mDGet1 (fd fk : M SV) : M RZ := fd.bind fun x s => if (vD s.g x).isSome = true then (fk.bind fun y s => match vD s.g x, y with
  | some kvs, .t t => match key t with
    | some k => some (.ok (.v (.t ((valT kvs k).getD .non))) s.g)
    | none => none
  | _, _ => none) s else none
theorem ee_dget1 {td ty : TE} {fd fk : M SV} (h : EV K E td fd) (h2 : EV K E ty fk) : EE K E (tDGet1 td ty) (mDGet1 fd fk) := by
  intro sl g F ad L σ H Q r hs hg hf hp
  refine h.use hs hg hf hp fun x v g1 F1 ad1 H1 n1 hr1 hk1 => ?_
  have hp1 := hp.nx n1
  by_cases q : (vD g1 x).isSome = true
  · rw [if_pos q] at hk1
    cases ed : vD g1 x with
    | none => rw [ed] at q; cases q
    | some kvs0 =>
      obtain ⟨p, us0, rfl, h3, _⟩ := vD_ok hr1.2 hr1.1 ed
      refine ⟨p, rfl, isD_of h3, h2.use (hs.nx n1) hr1.2 hk1 hp1 fun y w g2 F2 ad2 H2 n2 hr2 hk2 => ?_⟩
      have hp2 := hp1.nx n2
      have hx := hr1.1.nx n2
      split at hk2
      · rename_i kvs t e1
        split at hk2
        · rename_i k ek
          cases hk2
          obtain ⟨p', us, e4, h5, h6⟩ := vD_ok hr2.2 hx e1
          cases e4
          have e3 := key_ok hr2.1 ek
          subst e3
          have hval := RTk.val (k := k) h6
          refine ⟨valV us k, dget_of h5, ?_⟩
          cases ev : valT kvs k with
          | none =>
            rw [ev] at hval hp2
            rw [hval]
            exact hp2 _ F2 ad2 H2 Nx.refl ⟨rfl, hr2.2⟩
          | some u =>
            rw [ev] at hval hp2
            obtain ⟨v, a, b⟩ := hval
            rw [a]
            exact hp2 _ F2 ad2 H2 Nx.refl ⟨b, hr2.2⟩
        · cases hk2
      · cases hk2
  · rw [if_neg q] at hk1; cases hk1
def mDGet2 (fd fk fz : M SV) : M RZ := fd.bind fun x s => if (vD s.g x).isSome = true then (fk.bind fun y => fz.bind fun z s => match vD s.g x, y, z with
  | some kvs, .t t, .t u => match key t with
    | some k => some (.ok (.v (.t ((valT kvs k).getD u))) s.g)
    | none => none
  | _, _, _ => none) s else none
theorem ee_dget2 {td ty tz : TE} {fd fk fz : M SV} (h : EV K E td fd) (h2 : EV K E ty fk) (h3 : EV K E tz fz) : EE K E (tDGet2 td ty tz) (mDGet2 fd fk fz) := by
  intro sl g F ad L σ H Q r hs hg hf hp
  refine h.use hs hg hf hp fun x v g1 F1 ad1 H1 n1 hr1 hk1 => ?_
  have hp1 := hp.nx n1
  by_cases q : (vD g1 x).isSome = true
  · rw [if_pos q] at hk1
    cases ed : vD g1 x with
    | none => rw [ed] at q; cases q
    | some kvs0 =>
      obtain ⟨p, us0, rfl, hd, _⟩ := vD_ok hr1.2 hr1.1 ed
      refine ⟨p, rfl, isD_of hd, h2.use (hs.nx n1) hr1.2 hk1 hp1 fun y w g2 F2 ad2 H2 n2 hr2 hk2 => ?_⟩
      have hp2 := hp1.nx n2
      have n12 := n1.trans n2
      refine h3.use (hs.nx n12) hr2.2 hk2 hp2 fun z zv g3 F3 ad3 H3 n3 hr3 hk3 => ?_
      have hp3 := hp2.nx n3
      have hx := (hr1.1.nx n2).nx n3
      have hy := hr2.1.nx n3
      split at hk3
      · rename_i kvs t u e1
        split at hk3
        · rename_i k ek
          cases hk3
          obtain ⟨p', us, e4, h5, h6⟩ := vD_ok hr3.2 hx e1
          cases e4
          have e3 := key_ok hy ek
          subst e3
          have hval := RTk.val (k := k) h6
          refine ⟨valV us k, dget_of h5, ?_⟩
          cases ev : valT kvs k with
          | none =>
            rw [ev] at hval hp3
            rw [hval]
            exact hp3 _ F3 ad3 H3 Nx.refl ⟨hr3.1, hr3.2⟩
          | some u =>
            rw [ev] at hval hp3
            obtain ⟨v, a, b⟩ := hval
            rw [a]
            exact hp3 _ F3 ad3 H3 Nx.refl ⟨b, hr3.2⟩
        · cases hk3
      · cases hk3
  · rw [if_neg q] at hk1; cases hk1
/-- d.setdefault(k, x) -/
def mDSetd (fd fk fz : M SV) : M RZ := fd.bind fun x s => if (vD s.g x).isSome = true then (fk.bind fun y => fz.bind fun z s => match x, y, z with
  | .o n, .t t, .t u => match dicAt s.g n, key t with
    | some kvs, some k => if kvs.length < 100000 then match valT kvs k with
      | some w => some (.ok (.v (.t w)) s.g)
      | none => some (.ok (.v (.t u)) (s.g.set n (.dic (putT kvs k u))))
      else none
    | _, _ => none
  | _, _, _ => none) s else none
theorem ee_dsetd {td ty tz : TE} {fd fk fz : M SV} (h : EV K E td fd) (h2 : EV K E ty fk) (h3 : EV K E tz fz) : EE K E (tDSetd td ty tz) (mDSetd fd fk fz) := by
  intro sl g F ad L σ H Q r hs hg hf hp
  refine h.use hs hg hf hp fun x v g1 F1 ad1 H1 n1 hr1 hk1 => ?_
  have hp1 := hp.nx n1
  by_cases q : (vD g1 x).isSome = true
  · rw [if_pos q] at hk1
    cases ed : vD g1 x with
    | none => rw [ed] at q; cases q
    | some kvs0 =>
      obtain ⟨p, us0, rfl, hd, _⟩ := vD_ok hr1.2 hr1.1 ed
      refine ⟨p, rfl, isD_of hd, h2.use (hs.nx n1) hr1.2 hk1 hp1 fun y w g2 F2 ad2 H2 n2 hr2 hk2 => ?_⟩
      have hp2 := hp1.nx n2
      have n12 := n1.trans n2
      refine h3.use (hs.nx n12) hr2.2 hk2 hp2 fun z zv g3 F3 ad3 H3 n3 hr3 hk3 => ?_
      have hp3 := hp2.nx n3
      have hx := (hr1.1.nx n2).nx n3
      have hy := hr2.1.nx n3
      split at hk3
      · rename_i n t u
        split at hk3
        · rename_i kvs k e1 ek
          have e1 := dicAt_ok e1
          obtain ⟨_, ep⟩ := hx
          cases ep
          have e3 := key_ok hy ek
          subst e3
          split at hk3
          · rename_i hl
            obtain ⟨us, h5, h6⟩ := hr3.2.isD e1
            have hval := RTk.val (k := k) h6
            refine ⟨us, k, h5, rfl, by rw [h6.len]; exact szl hl, fun v ev => ?_, fun ev => ?_⟩
            · split at hk3
              · rename_i w ew
                cases hk3
                rw [ew] at hval
                obtain ⟨v', a, b⟩ := hval
                rw [ev] at a
                cases a
                exact hp3 _ F3 ad3 H3 Nx.refl ⟨b, hr3.2⟩
              · rename_i ew
                rw [ew] at hval
                rw [ev] at hval
                cases hval
            · split at hk3
              · rename_i w ew
                rw [ew] at hval
                obtain ⟨v', a, b⟩ := hval
                rw [ev] at a
                cases a
              · cases hk3
                obtain ⟨c, R, ⟨us', rfl, ro⟩, S, back⟩ := hr3.2.focus e1
                have h8 := back F3 (.dic (putT kvs k u)) [(ad3 n, .dK (putK us k zv))] _ (Gr.refl _) ⟨_, rfl, h6.put hr3.1⟩ (Sta.set S (.dK (putK us k zv)))
                have hz : RT K F3 u zv := hr3.1
                exact hp3 _ F3 ad3 _ ⟨Gr.refl _, Ag.refl _ _, by rw [List.length_set]; exact Nat.le_refl _⟩ ⟨hz, h8⟩
          · cases hk3
        · cases hk3
      · cases hk3
  · rw [if_neg q] at hk1; cases hk1
/-! ### zip of two lists -/
def zipI : List T → List T → List Im
  | a :: as, b :: bs => .two a b :: zipI as bs
  | _, _ => []
theorem zipI_len : ∀ (a b : List T), (zipI a b).length = min a.length b.length
  | [], _ => by simp [zipI]
  | _ :: _, [] => by simp [zipI]
  | _ :: a, _ :: b => by
    simp [zipI, zipI_len a b]
theorem zipI_get : ∀ {a b : List T} {i : Nat} {x y : T}, a[i]? = some x → b[i]? = some y → (zipI a b)[i]? = some (.two x y)
  | [], _, i, _, _, h, _ => by simp at h
  | _ :: _, [], i, _, _, _, h => by simp at h
  | p :: a, q :: b, 0, x, y, h, k => by
    simp at h k
    subst h k
    rfl
  | p :: a, q :: b, i + 1, x, y, h, k => by
    have := zipI_get (a := a) (b := b) (i := i) (x := x) (y := y) (by simpa using h) (by simpa using k)
    simpa [zipI] using this
def mZip (f : M (List SV)) : M (List Im) := f.bind fun xs s => match xs with
  | [.t (.lst a), .t (.lst b)] => some (.ok (zipI a b) s.g)
  | _ => none
theorem ii_zip {ta : TA} {f : M (List SV)} (h : AA K E ta f) : II K E (iZip K ta) (mZip f) := by
  refine JJ.bind (u := fun vs _ H1 (R : It → Hp → Prop) => ∃ a b xs ys, vs = [V.ref a, V.ref b] ∧ SqL K H1 a xs ∧ SqL K H1 b ys ∧ R (Itz K a b) H1) h fun a b sl g F ad L σ H Q r hs hr hk hp => ?_
  obtain ⟨h1, h2⟩ := hr
  split at hk
  · rename_i as bs
    obtain ⟨v1, _, rfl, ⟨p, us, rfl, e2, e3⟩, v2, _, rfl, ⟨q, ws, rfl, e4, e5⟩, rfl⟩ := h1
    cases hk
    have e6 : (zipI as bs).length = min us.length ws.length := by rw [zipI_len, e3.len, e5.len]
    refine ⟨p, q, us, ws, rfl, .of (h2.gr _ _ e2), .of (h2.gr _ _ e4), hp _ F ad H Nx.refl ⟨fun H => SqL K H p us ∧ SqL K H q ws, YPair (fun i => us[i]?) (fun i => ws[i]?), walk_zip e6, fun F' H' g1 g2 => ⟨.of (g2 _ _ (g1 _ _ e2)), .of (g2 _ _ (g1 _ _ e4))⟩, ?_, h2⟩⟩
    rintro i H1 x H2 hi ⟨Ta, u, w, rfl, hT, rfl, e7, e8⟩
    have e7 : us[i]? = some u := e7
    have e8 : ws[i]? = some w := e8
    rw [zipI_len] at hi
    have i1 : i < as.length := by omega
    have i2 : i < bs.length := by omega
    obtain ⟨v, a1, a2⟩ := e3.get (List.getElem?_eq_getElem i1)
    rw [e7] at a1
    cases a1
    obtain ⟨v, b1, b2⟩ := e5.get (List.getElem?_eq_getElem i2)
    rw [e8] at b1
    cases b1
    exact ⟨.two as[i] bs[i], zipI_get (List.getElem?_eq_getElem i1) (List.getElem?_eq_getElem i2), Ta, _, _, rfl, hT, rfl, a2, b2⟩
  · cases hk
end
end Mf


set_option Elab.async false
set_option linter.all false
set_option maxRecDepth 100000
set_option maxHeartbeats 4000000
namespace Mf
open PySem PySem.Spec PyProof.Rows L2 Sb
variable {K : PySem.W.Frag} {F F' F2 : Hp} {g g' : List Obj} {ad ad' : Nat → Addr} {L L' : Cells} {H H' : Hp} {σ : L2.St}
section
variable {E : XK}
/-! ### a dict comprehension -/
theorem dc_it {J : It} {n : Nat} {G : Hp → Prop} {Y : Nat → Hp → V → Hp → Prop} (w : Walk J n G Y) {Qd : Hp → Prop} {B : Nat → V → Hp → (Hp → Prop) → Prop} {H0 : Hp} (Pv : Nat → Hp → Prop) (h0 : Pv 0 H0) (hG : ∀ i H, i ≤ n → Pv i H → G H)
    (hs : ∀ i x H H', i < n → Pv i H → Y i H x H' → B i x H' (Pv (i + 1))) (hd : ∀ H, Pv n H → Qd H) :
    ∃ W : Nat → Nat → Hp → Prop, (∃ m, W 0 m H0) ∧ ∀ i m H, W i m H → (J.stop i H ∧ Qd H) ∨ (J.go i H ∧ ∃ Nx : Hp → Prop, (∀ H', Nx H' → ∃ m', m' < m ∧ W (i + 1) m' H') ∧ ∀ x H', J.yld i H x H' → B i x H' Nx) := by
  refine ⟨fun i m H => i ≤ n ∧ m = n - i ∧ Pv i H, ⟨n, Nat.zero_le _, rfl, h0⟩, ?_⟩
  rintro i m H ⟨hi, rfl, hp⟩
  by_cases q : i = n
  · subst q
    exact .inl ⟨w.stops H (hG _ H hi hp), hd H hp⟩
  · have hi : i < n := by omega
    exact .inr ⟨w.goes i H hi (hG i H (by omega) hp), Pv (i + 1), fun H' h => ⟨n - (i + 1), by omega, by omega, rfl, h⟩, fun x H' hy => hs i x H H' hi hp (w.yields i H x H' hi (hG i H (by omega) hp) hy)⟩
def loopD (sl0 : List SV) (ft : Im → List SV → Option (List SV)) (fc : M Bool) (fk fv : M SV) : List Im → List (Key × T) → List Obj → Option (O RZ)
  | [], acc, g => some (.ok (.n (.dic acc)) g)
  | im :: r, acc, g => match ft im sl0 with
    | none => none
    | some sl => match fc ⟨sl, g⟩ with
      | none => none
      | some (.er _ _ _) => none
      | some (.ok false g) => loopD sl0 ft fc fk fv r acc g
      | some (.ok true g) => match fk ⟨sl, g⟩ with
        | some (.ok (.t k) g) => match key k, fv ⟨sl, g⟩ with
          | some k, some (.ok (.t t) g) => if acc.length < 100000 then loopD sl0 ft fc fk fv r (putT acc k t) g else none
          | _, _ => none
        | _ => none
def mDComp (vs : List Nat) (fi : M (List Im)) (ft : Im → List SV → Option (List SV)) (fc : M Bool) (fk fv : M SV) : M RZ := fi.bind fun ims s => loopD (wipeS s.sl vs) ft fc fk fv ims [] s.g
theorem ee_dcomp {wi : TI} {fi : M (List Im)} {js vs : List Nat} {tg : TG} {ft : Im → List SV → Option (List SV)} {tt : L2.TT} {fc : M Bool} {tk tv : TE} {fk fv : M SV} (hjs : ∀ j ∈ js, j ∈ vs) (hw : II K E wi fi) (hg : GG K js tg ft) (hc : TT K C8.E0 tt fc) (hk' : EV K C8.E0 tk fk) (hv' : EV K C8.E0 tv fv) :
    EE K E (tDc wi tg tt tk tv vs) (mDComp vs fi ft fc fk fv) := by
  refine JJ.bind (u := fun J σ H1 (Q : VK) => ∀ D, H1 D = none → ∃ W : Nat → Nat → Hp → Prop, (∃ m, W 0 m (upd H1 D (.dK []))) ∧ ∀ i m H, W i m H →
    (J.stop i H ∧ Q (.ref D) H) ∨ (J.go i H ∧ ∃ Nx : Hp → Prop, (∀ H', Nx H' → ∃ m', m' < m ∧ W (i + 1) m' H') ∧ ∀ x H', J.yld i H x H' → tg x (L2.wipe σ vs) H' fun σ2 H2 => L2.wipe σ2 vs = L2.wipe σ vs ∧ tt σ2 H2 fun b H3 =>
      if b = true then tk σ2 H3 fun y H4 => tv σ2 H4 fun z H5 => ∃ kvs k, y = kV k ∧ H5 D = some (.dK kvs) ∧ kvs.length < sizeLine ∧ Nx (upd H5 D (.dK (putK kvs k z))) else Nx H3)) hw fun ims J sl g F ad L σ H Q r hs hr hk hp D hD => ?_
  obtain ⟨G, Y, wk, hG, hY, hg0⟩ := hr
  have hk : loopD (wipeS sl vs) ft fc fk fv ims [] g = some r := hk
  refine dc_it wk (B := fun i x H' Nx => tg x (L2.wipe σ vs) H' fun σ2 H2 => L2.wipe σ2 vs = L2.wipe σ vs ∧ tt σ2 H2 fun b H3 =>
      if b = true then tk σ2 H3 fun y H4 => tv σ2 H4 fun z H5 => ∃ kvs k, y = kV k ∧ H5 D = some (.dK kvs) ∧ kvs.length < sizeLine ∧ Nx (upd H5 D (.dK (putK kvs k z))) else Nx H3)
    (fun i H => ∃ (acc : List (Key × T)) (vs' : List (Key × V)) (g1 : List Obj) (F1 : Hp) (ad1 : Nat → Addr), Mf.Nx g F ad g1 F1 ad1 ∧ RTk K F1 acc vs' ∧ RG K g1 F1 ad1 ((D, .dK vs') :: L) H ∧ loopD (wipeS sl vs) ft fc fk fv (ims.drop i) acc g1 = some r)
    ⟨[], [], g, F, ad, Nx.refl, rfl, hg0.new hD _, hk⟩ (fun i H _ ⟨_, _, _, F1, _, n, _, h, _⟩ => hG F1 H n.gr h.gr) ?_ ?_
  · rintro i x H1 H2 hi ⟨acc, vs', g1, F1, ad1, n1, ha, hg1, hl⟩ hy
    obtain ⟨im, eim, hiv⟩ := hY i H1 x H2 hi hy
    have ed : ims.drop i = im :: ims.drop (i + 1) := by
      have e := List.drop_eq_getElem_cons hi
      have e2 : ims[i] = im := by
        have := List.getElem?_eq_getElem hi
        rw [eim] at this
        exact (Option.some.inj this).symm
      rw [e, e2]
    rw [ed] at hl
    unfold loopD at hl
    have hiv := hiv.up n1.gr
    have hg2 := hg1.item hiv
    cases e : ft im (wipeS sl vs) with
    | none => rw [e] at hl; cases hl
    | some sl2 =>
      rw [e] at hl
      dsimp only at hl
      refine hg im (wipeS sl vs) sl2 _ F1 ad1 x _ H1 H2 _ hg2.gr ((hs.nx n1).wipe vs) hiv e fun σ2 hs2 w2 => ⟨by rw [w2 vs hjs, wipe_wipe], ?_⟩
      cases ec : fc ⟨sl2, g1⟩ with
      | none => rw [ec] at hl; cases hl
      | some o =>
        rw [ec] at hl
        refine hc sl2 g1 F1 ad1 _ σ2 H2 _ o hs2 hg2 ec ?_
        cases o with
        | er c t g3 => cases hl
        | ok b g2 =>
          rintro b' F2 ad2 H3 n2 ⟨rfl, hg3⟩
          have n12 := n1.trans n2
          have ha2 := RTk.up n2.gr _ _ ha
          cases b with
          | false => exact ⟨acc, vs', g2, F2, ad2, n12, ha2, hg3, hl⟩
          | true =>
            dsimp only at hl
            cases ee : fk ⟨sl2, g2⟩ with
            | none => rw [ee] at hl; cases hl
            | some o =>
              rw [ee] at hl
              refine hk' sl2 g2 F2 ad2 _ σ2 H3 _ o (hs2.nx n2) hg3 ee ?_
              cases o with
              | er c t g3 => cases hl
              | ok y g3 =>
                cases y with
                | un => cases hl
                | o j => cases hl
                | t t =>
                  dsimp only at hl
                  rintro y F4 ad4 H4 n4 ⟨hy4, hg4⟩
                  cases ekk : key t with
                  | none => rw [ekk] at hl; cases hl
                  | some k =>
                    rw [ekk] at hl
                    cases ev : fv ⟨sl2, g3⟩ with
                    | none => rw [ev] at hl; cases hl
                    | some o =>
                      rw [ev] at hl
                      refine hv' sl2 g3 F4 ad4 _ σ2 H4 _ o ((hs2.nx n2).nx n4) hg4 ev ?_
                      cases o with
                      | er c t g3 => cases hl
                      | ok z g5 =>
                        cases z with
                        | un => cases hl
                        | o j => cases hl
                        | t u =>
                          dsimp only at hl
                          by_cases hlen : acc.length < 100000
                          · rw [if_pos hlen] at hl
                            rintro v F6 ad6 H6 n6 ⟨hv6, hg6⟩
                            have ha6 := RTk.up (n4.trans n6).gr _ _ ha2
                            have el : vs'.length = acc.length := ha6.len
                            refine ⟨vs', k, key_ok hy4 ekk, hg6.hd, by rw [el]; exact szl hlen, putT acc k u, putK vs' k v, g5, F6, ad6, (n12.trans n4).trans n6, ha6.put hv6, hg6.setL _, hl⟩
                          · rw [if_neg hlen] at hl; cases hl
  · rintro H1 ⟨acc, vs', g1, F1, ad1, n1, ha, hg1, hl⟩
    rw [List.drop_length] at hl
    cases hl
    exact hp _ F1 ad1 H1 n1 ⟨D, [(D, .dK vs')], rfl, ⟨vs', rfl, ha⟩, hg1⟩
/-- a comprehension within one: its scope lies within a relabelled one -/
theorem lookup_rel {env : PySem.Env} {n : Str} : ∀ {ns : List (Str × NameKind)}, ns.lookup n = some .cell ∨ ns.lookup n = some .free →
    (ns.map fun x => match x with | (n, k) => if (k == .free && env.scope.kind == .function && env.kindOf n == some .cell) = true then (n, NameKind.cell) else (n, k)).lookup n = some .cell ∨
    (ns.map fun x => match x with | (n, k) => if (k == .free && env.scope.kind == .function && env.kindOf n == some .cell) = true then (n, NameKind.cell) else (n, k)).lookup n = some .free
  | [], h => by rcases h with h | h <;> cases h
  | (m, k) :: ns, h => by
    rw [List.map_cons]
    by_cases q : n = m
    · subst q
      rw [List.lookup_cons_self] at h
      dsimp only
      split
      · rw [List.lookup_cons_self]
        exact .inl rfl
      · rw [List.lookup_cons_self]
        exact h
    · have q' : (n == m) = false := by simpa using q
      rw [List.lookup_cons, q'] at h
      have ih := lookup_rel (env := env) h
      dsimp only
      split
      · rw [List.lookup_cons, q']; exact ih
      · rw [List.lookup_cons, q']; exact ih
theorem rel_ok {N : List Str} {sc scope : PySem.Scope} {own : List (Str × Nat)} {env : PySem.Env} (h : BlkOk N sc scope own) : BlkOk N (PySem.relabel sc env) scope own :=
  ⟨h.kind, h.uniq, h.ix, fun y hy e => lookup_rel (h.free y hy e), h.own⟩
end
end Mf


set_option Elab.async false
set_option linter.all false
set_option maxRecDepth 100000
set_option maxHeartbeats 4000000
namespace Mf
open PySem PySem.Spec PyProof.Rows L2 Sb
/-! ### rules whose reading names the context's K: K written out, for the blocks of comprehensions -/
section
variable {X : Cx} {K : PySem.W.Frag}
theorem call_isiK (h : X.K = K) : CallR X (.builtin "isinstance") (rIsi K) := h ▸ call_isi
theorem op_in_seqK (h : X.K = K) : OpR X (compareOp .In) (rIn K false) := h ▸ op_in_seq
theorem op_notIn_seqK (h : X.K = K) : OpR X (compareOp .NotIn) (rIn K true) := h ▸ op_notIn_seq
theorem cr_allK (h : X.K = K) (c : X.calm = true) : CallR X (.builtin "all") (rAll K) := h ▸ cr_all c
theorem cr_anyK (h : X.K = K) (c : X.calm = true) : CallR X (.builtin "any") (rAny K) := h ▸ cr_any c
theorem cr_sortedSK (h : X.K = K) : CallR X (.builtin "sorted") (rSortedS K) := h ▸ cr_sortedS
theorem call_lenK (h : X.K = K) : CallR X (.builtin "len") (fun xs H Q => ∃ x n, xs = [x] ∧ LenV K x H n ∧ Q (.int n) H) := h ▸ call_len
theorem call_list_ofK (h : X.K = K) : CallR X (.type "list") (fun xs H Q => ∃ p ys, xs = [.ref p] ∧ (SqL K H p ys ∨ SqT K H p ys) ∧ ∀ l, H l = none → Q (.ref l) (upd H l (.lst ys))) := h ▸ call_list_of
theorem call_tupZK (h : X.K = K) : CallR X (.type "tuple") (fun xs H Q => ∃ p ys, xs = [.ref p] ∧ SqL K H p ys ∧ NewT ys H Q) := h ▸ call_tupZ
theorem ix_listK (h : X.K = K) : IxR X (rIxL K) := h ▸ ix_list
theorem ix_tupK (h : X.K = K) : IxR X (rIxT K) := h ▸ ix_tup
theorem sl_listK (h : X.K = K) : SlR X (rSlL K) := h ▸ sl_list
theorem sl_tupZAK (h : X.K = K) : SlR X (rSlZA K) := h ▸ sl_tupZA
theorem mt_indexK (h : X.K = K) : MtR X "list.index" (rIndex K) := h ▸ mt_index
theorem op_catZAK (h : X.K = K) : OpR X (binaryOp .Add) (rCatZA K) := h ▸ op_catZA
theorem op_eqPK (h : X.K = K) (hu : X.A.units + 64 < cLine) : OpR X (compareOp .Eq) (rEqP K false) := h ▸ op_eqP hu
theorem op_nePK (h : X.K = K) (hu : X.A.units + 64 < cLine) : OpR X (compareOp .NotEq) (rEqP K true) := h ▸ op_neP hu
theorem pe_fldK {e : PySem.Expr} {f : Str} {pos : PySem.Pos} {ta : TE} (hK : X.K = K) (h : PE X e ta) (h2 : attributeBase e f X.env (eval e X.env) = eval e X.env) : PE X (.Attribute e f pos) (tFld K ta f) := hK ▸ pe_fld h h2
theorem pi_listK {tg l : PySem.Expr} {tl : TE} (hK : X.K = K) (h : PE X l tl) : PI X tg l (iList K tl) := hK ▸ pi_list h
theorem pi_tupK {tg l : PySem.Expr} {tl : TE} (hK : X.K = K) (h : PE X l tl) : PI X tg l (iTup K tl) := hK ▸ pi_tup h
theorem pg_tupK {pos : PySem.Pos} {es : List PySem.Expr} {k : Nat} {t : TGs} {n : Nat} (hK : X.K = K) (hc : X.calm = true) (h : PGs X es t) (h1 : (assignEach es X.env).length = n := by rfl) (h2 : List.findIdx? (fun x => x.fst) (assignEach es X.env) = none := by rfl) :
    PG X (.Tuple es k pos) (gTup K n t) := hK ▸ pg_tup hc h h1 h2
theorem pt_truthK {a : PySem.Expr} {ta : TE} (hK : X.K = K) (h : PE X a ta) (he : ∀ whole : PySem.Sem PySem.Value, isTrue a X.env whole = (do let v ← whole; standAt a.pos; holding [v] (truthy v))) :
    L2.PT X a fun σ H Q => ta σ H fun x H' => ∃ k, TruV K x H' k ∧ Q k H' := hK ▸ pt_truth h he
end
/-! ### x = {k: v for ..} -/
theorem sw_trueD {kx vx : PySem.Expr} {gs : List PySem.Comprehension} {scope : PySem.Scope} {pos py : PySem.Pos} {y : Str} {l : Nat} {env : PySem.Env} (hk : env.scope.kind = .function) (hy : env.scope.names.lookup y = some .local)
    (hl : (py.line == pos.line) = true) (ha : (scope.names.any fun x => match x with | (n, k) => n == y && (k == NameKind.local || k == NameKind.cell)) = false) :
    swapsWith (.DictComp kx vx gs scope pos) (some (.Name y py)) l env = pure true :=
  @sw_true kx gs scope pos py y l env hk hy hl ha
theorem ps_setDc {X : Cx} {i : Nat} {y : Str} {py : PySem.Pos} {kx vx tg iter : PySem.Expr} {ifs : List PySem.Expr} {scope : PySem.Scope} {own : List (Str × Nat)} {pos spos : PySem.Pos} {wi : TI} {g : TG} {tt : L2.TT} {tk tv : TE}
    (hc : X.calm = true) (hN : X.N.Nodup) (hy : X.N[i]? = some y) (hyl : X.env.scope.names.lookup y = some .local)
    (hsw : swapsWith (.DictComp kx vx [⟨tg, iter, ifs, 0⟩] scope pos) (some (.Name y py)) spos.line X.env = pure true) (hi : PI X tg iter wi) (ok : BlkOk X.N X.env.scope scope own)
    (hg : ∀ (s : Shared) (H : Hp) (C : Addr) (cl : List (Str × Addr)) (fp : List Addr), PG (X.blk s H scope (compEnvC scope cl C X.env) fp) tg g)
    (ht : ∀ (s : Shared) (H : Hp) (C : Addr) (cl : List (Str × Addr)) (fp : List Addr), PTs (X.blk s H scope (compEnvC scope cl C X.env) fp) ifs tt)
    (hk : ∀ (s : Shared) (H : Hp) (C : Addr) (cl : List (Str × Addr)) (fp : List Addr), PE (X.blk s H scope (compEnvC scope cl C X.env) fp) kx tk)
    (he : ∀ (s : Shared) (H : Hp) (C : Addr) (cl : List (Str × Addr)) (fp : List Addr), PE (X.blk s H scope (compEnvC scope cl C X.env) fp) vx tv)
    (hs : ∀ x, foldedSetIterable iter X.env x = pure x := by intro _; rfl) :
    PS X (.Assign [.Name y py] (.DictComp kx vx [⟨tg, iter, ifs, 0⟩] scope pos) spos) (tAsg (tDc wi g tt tk tv (own.map (·.2))) (gName i)) := by
  refine ⟨fun pins s σ H D I h => ?_⟩
  rw [PySem.exec_Assign_Name_used y py (.DictComp kx vx [⟨tg, iter, ifs, 0⟩] scope pos) spos hsw]
  refine wpAny_bind (wpAny_standAt (wpAny_bind ?_))
  refine wpAny_bind (thn (dc_core hc hN I hi ok hg ht hk he hs h fun L C s' m H' I' q hn f => ?_) fun x s' hq => wpAny_pure (wpAny_pure hq))
  refine PySem.wpAny_assign_Name (store_ok2 I' hN hy (.inl hyl) (show RelV (V.ref L) (.ref L) from rfl) (fun s2 I2 x => ?_) (.inr hyl))
  obtain ⟨a, sb, ha⟩ := x
  obtain ⟨f0, f1, f2, f3, f4, f5⟩ := f
  have haC : C ≠ a := by
    rcases ha with z | z
    · rw [z]; exact f1
    · exact fun e => f4 y a z e.symm
  exact ⟨m, PySem.Heap.Ns.sameBut hn sb haC, fun h3 sb3 => ⟨σ.set i (some (.ref L)), H', Inv.turned I2 (fun b o hb e => (sb3.2 b hb).trans e) f0 f1 f3 f4 f5, q⟩⟩
end Mf


set_option Elab.async false
set_option linter.all false
set_option maxRecDepth 100000
set_option maxHeartbeats 4000000
namespace Mf
open PySem PySem.Spec PyProof.Rows L2 Sb
variable {K : PySem.W.Frag} {F F' F2 : Hp} {g g' : List Obj} {ad ad' : Nat → Addr} {L L' : Cells} {H H' : Hp} {σ : L2.St}
/-! ### the law's own def, from its mirror -/
/-- the mirror answers True at each script -/
def MLaw (m : Mir) : Prop := ∀ ns : List Int, ns.length ≤ 63 → ∃ g', m [.t (.scr ns)] [] = some (.ok (.v (.t (.bl true))) g')
def spLawM (K : PySem.W.Frag) : Sp := fun vs H Q _ => ∃ (a : Addr) (ns : List Int), vs = [.ref a] ∧ SqL K H a (ns.map V.int) ∧ ns.length ≤ 63 ∧ ∀ H', Q (.bl true) H'
theorem law_inM {H : Hp} {a : Addr} {ns : List Int} (hS : SqL K H a (ns.map V.int)) (hl : ns.length ≤ 63) : spLawM K [.ref a] H (fun v _ => v = .bl true) fun _ _ _ => False := ⟨a, ns, rfl, hS, hl, fun _ => rfl⟩
theorem calmF {P : Program} {w : World} {mg : Str → Option Value} {base : Heap} {k : Nat} {f : Addr} {fd : FuncData} {ps : List Str} {sp sp' : Sp} (Fn : FnOk P w K mg base (L2.CX P w) k f fd ps sp) (h : ∀ vs H Q E, sp' vs H Q E → sp vs H Q fun _ _ _ => False) : FnOk P w K mg base CX0 k f fd ps sp' := by
  refine ⟨fun vs H Q E q => Fn.len vs H Q _ (h vs H Q E q), fun A outer s H args us vs Q E hr he hb hv hs => ?_⟩
  refine codeAny_mono (Fn.run A outer s H args us vs Q (fun _ _ _ => False) hr he hb hv (h vs H Q E hs)) fun r s' q => ?_
  cases r with
  | ok a => cases a <;> exact q
  | error e =>
    obtain ⟨a, B, H', cls, d, _, _, _, _, _, _, _, q⟩ := q
    exact q.elim
theorem law_of {P : Program} {w : World} {mg : Str → Option Value} {base : Heap} {k : Nat} {f : Addr} {fd : FuncData} {ps : List Str} {m : Mir} (Fn : FnOk P w K mg base (L2.CX P w) k f fd ps (spM K 1 m)) (h : MLaw m) : FnOk P w K mg base CX0 k f fd ps (spLawM K) := by
  refine calmF Fn fun vs H Q E q => ?_
  obtain ⟨a, ns, rfl, hS, hl, k⟩ := q
  obtain ⟨g', hm⟩ := h ns hl
  refine ⟨[.t (.scr ns)], [], H, fun _ => 0, [], _, rfl, ⟨_, [], rfl, ⟨a, rfl, hS⟩, rfl⟩, ⟨fun _ => [], fun i o e => by simp at e, ⟨Gr.refl _, fun a o h => by simp at h, List.nodup_nil⟩⟩, hm, ?_⟩
  rintro v F' ad' H' n ⟨rfl, _⟩
  exact k H'
end Mf


set_option Elab.async false
set_option linter.all false
set_option maxRecDepth 100000
set_option maxHeartbeats 4000000
namespace Mf
open PySem PySem.Spec PyProof.Rows L2 Sb
variable {K : PySem.W.Frag} {F F' F2 : Hp} {g g' : List Obj} {ad ad' : Nat → Addr} {L L' : Cells} {H H' : Hp} {σ : L2.St}
/-! ### a walk over a list that may change, and does not change meanwhile -/
def eqFl : T → T → Bool
  | .non, .non => true
  | .bl a, .bl b => a == b
  | .int a, .int b => a == b
  | .str a, .str b => a == b
  | _, _ => false
def eqFls : List T → List T → Bool
  | [], [] => true
  | x :: xs, y :: ys => eqFl x y && eqFls xs ys
  | _, _ => false
theorem eqFl_ok {x y : T} {v w : V} {F' : Hp} (h : eqFl x y = true) (hx : RT K F x v) (hy : RT K F' y w) : v = w := by
  cases x <;> cases y <;> first | cases h | skip
  · cases (show v = .non from hx); cases (show w = .non from hy); rfl
  · rename_i a b
    have e : a = b := by simpa [eqFl] using h
    cases (show v = .bl a from hx); cases (show w = .bl b from hy); rw [e]
  · rename_i a b
    have e : a = b := by simpa [eqFl] using h
    cases (show v = .int a from hx); cases (show w = .int b from hy); rw [e]
  · rename_i a b
    have e : a = b := by simpa [eqFl] using h
    cases (show v = .str a from hx); cases (show w = .str b from hy); rw [e]
theorem eqFls_ok {F' : Hp} : ∀ {xs ys : List T} {vs ws : List V}, eqFls xs ys = true → RTs K F xs vs → RTs K F' ys ws → vs = ws
  | [], [], vs, ws, _, h, k => by
    have h : vs = [] := h
    have k : ws = [] := k
    rw [h, k]
  | [], _ :: _, _, _, h, _, _ => by cases h
  | _ :: _, [], _, _, h, _, _ => by cases h
  | x :: xs, y :: ys, _, _, e, ⟨v, vs, rfl, h1, h2⟩, ⟨w, ws, rfl, k1, k2⟩ => by
    obtain ⟨e1, e2⟩ := Bool.and_eq_true_iff.mp e
    rw [eqFl_ok e1 h1 k1, eqFls_ok e2 h2 k2]
theorem eqFls_str (ws : List Str) : eqFls (ws.map T.str) (ws.map T.str) = true := by
  induction ws with
  | nil => rfl
  | cons w ws ih => simp [eqFls, eqFl, ih]
theorem eqFls_int (ws : List Int) : eqFls (ws.map T.int) (ws.map T.int) = true := by
  induction ws with
  | nil => rfl
  | cons w ws ih => simp [eqFls, eqFl, ih]
/-- the thing i is still the list xs -/
def keepL (i : Nat) (xs : List T) (g : List Obj) : Bool := match lstAt g i with
  | some ys => eqFls xs ys
  | none => false
theorem keep_sq {i : Nat} {xs : List T} {vs : List V} {F0 : Hp} (hv : RTs K F0 xs vs) (hk : keepL i xs g = true) (hg : RG K g F ad L H) : SqL K H (ad i) vs := by
  unfold keepL at hk
  split at hk
  · rename_i ys e
    obtain ⟨ws, h1, h2⟩ := hg.isL (lstAt_ok e)
    rw [eqFls_ok hk hv h2]
    exact .of h1
  · cases hk
def loopCO (i : Nat) (xs : List T) (sl0 : List SV) (ft : Im → List SV → Option (List SV)) (fc : M Bool) (fe : M SV) : List T → List T → List Obj → Option (O RZ)
  | [], acc, g => some (.ok (.n (.lst acc)) g)
  | x :: r, acc, g => match ft (.one x) sl0 with
    | none => none
    | some sl => match fc ⟨sl, g⟩ with
      | none => none
      | some (.er _ _ _) => none
      | some (.ok false g) => if keepL i xs g = true then loopCO i xs sl0 ft fc fe r acc g else none
      | some (.ok true g) => match fe ⟨sl, g⟩ with
        | some (.ok (.t t) g) => if acc.length < 100000 ∧ keepL i xs g = true then loopCO i xs sl0 ft fc fe r (acc ++ [t]) g else none
        | _ => none
def mCompO (vs : List Nat) (f : M SV) (ft : Im → List SV → Option (List SV)) (fc : M Bool) (fe : M SV) : M RZ := f.bind fun x s => match x with
  | .o i => match lstAt s.g i with
    | some xs => if eqFls xs xs = true then loopCO i xs (wipeS s.sl vs) ft fc fe xs [] s.g else none
    | none => none
  | _ => none
section
variable {E : XK}
theorem ee_compO {tw : TE} {fw : M SV} {js vs : List Nat} {tg : TG} {ft : Im → List SV → Option (List SV)} {tt : L2.TT} {fc : M Bool} {te : TE} {fe : M SV} (hjs : ∀ j ∈ js, j ∈ vs) (hw : EV K E tw fw) (hg : GG K js tg ft) (hc : TT K C8.E0 tt fc) (he : EV K C8.E0 te fe) :
    EE K E (tLc (iList K tw) tg tt te vs) (mCompO vs fw ft fc fe) := by
  refine JJ.bind (u := fun x σ H1 (Q : VK) => ∃ a, x = V.ref a ∧ (∃ xs, SqL K H1 a xs) ∧ ∀ D, H1 D = none → ∃ W : Nat → Nat → Hp → Prop, (∃ m, W 0 m (upd H1 D (.lst []))) ∧ ∀ i m H, W i m H →
    ((Itl K a).stop i H ∧ Q (.ref D) H) ∨ ((Itl K a).go i H ∧ ∃ Nx : Hp → Prop, (∀ H', Nx H' → ∃ m', m' < m ∧ W (i + 1) m' H') ∧ ∀ x H', (Itl K a).yld i H x H' → tg x (L2.wipe σ vs) H' fun σ2 H2 => L2.wipe σ2 vs = L2.wipe σ vs ∧ tt σ2 H2 fun b H3 =>
      if b = true then te σ2 H3 fun y H4 => ∃ acc, H4 D = some (.lst acc) ∧ acc.length < sizeLine ∧ Nx (upd H4 D (.lst (acc ++ [y]))) else Nx H3)) hw fun x v sl g F ad L σ H Q r hs hr hk hp => ?_
  obtain ⟨h1, hg0⟩ := hr
  cases x with
  | un => exact h1.elim
  | t t => cases hk
  | o io =>
    obtain ⟨hlt, rfl⟩ := h1
    dsimp only at hk
    split at hk
    case h_2 => cases hk
    rename_i xs exs
    by_cases hfl : eqFls xs xs = true
    case neg => rw [if_neg hfl] at hk; cases hk
    rw [if_pos hfl] at hk
    obtain ⟨us, hu1, hu2⟩ := hg0.isL (lstAt_ok exs)
    have hkp : keepL io xs g = true := by
      unfold keepL
      rw [exs]
      exact hfl
    refine ⟨_, rfl, ⟨us, .of hu1⟩, fun D hD => ?_⟩
    have elen := hu2.len
    refine lc_it (walk_list (K := K) (a := ad io) (xs := us)) (fun i H => ∃ (acc : List T) (vs' : List V) (g1 : List Obj) (F1 : Hp) (ad1 : Nat → Addr), Nx g F ad g1 F1 ad1 ∧ RTs K F1 acc vs' ∧ keepL io xs g1 = true ∧ RG K g1 F1 ad1 ((D, .lst vs') :: L) H ∧ loopCO io xs (wipeS sl vs) ft fc fe (xs.drop i) acc g1 = some r)
      ⟨[], [], g, F, ad, Nx.refl, rfl, hkp, hg0.new hD _, hk⟩ (fun i H _ ⟨_, _, g1, F1, ad1, n, _, h2, h, _⟩ => ?_) ?_ ?_
    · have q := keep_sq hu2 h2 h
      rw [n.ag io hlt] at q
      exact q
    · rintro i x H1 H2 hi ⟨acc, vs', g1, F1, ad1, n1, ha, hkp1, hg1, hl⟩ hy
      obtain ⟨rfl, hy⟩ := hy
      have hix : i < xs.length := by omega
      have ed : xs.drop i = xs[i] :: xs.drop (i + 1) := List.drop_eq_getElem_cons hix
      rw [ed] at hl
      unfold loopCO at hl
      obtain ⟨v, ev, hv⟩ := hu2.get (List.getElem?_eq_getElem hix)
      rw [hy] at ev
      cases ev
      have hiv : ImV K F1 H2 (.one xs[i]) x H2 := ⟨rfl, RT.up n1.gr _ _ hv⟩
      have hg2 := hg1
      cases e : ft (.one xs[i]) (wipeS sl vs) with
      | none => rw [e] at hl; cases hl
      | some sl2 =>
        rw [e] at hl
        dsimp only at hl
        refine hg (.one xs[i]) (wipeS sl vs) sl2 _ F1 ad1 x _ H2 H2 _ hg2.gr ((hs.nx n1).wipe vs) hiv e fun σ2 hs2 w2 => ⟨by rw [w2 vs hjs, wipe_wipe], ?_⟩
        cases ec : fc ⟨sl2, g1⟩ with
        | none => rw [ec] at hl; cases hl
        | some o =>
          rw [ec] at hl
          refine hc sl2 g1 F1 ad1 _ σ2 H2 _ o hs2 hg2 ec ?_
          cases o with
          | er c t g3 => cases hl
          | ok b g2 =>
            rintro b' F2 ad2 H3 n2 ⟨rfl, hg3⟩
            have n12 := n1.trans n2
            have ha2 := RTs.up n2.gr _ _ ha
            cases b with
            | false =>
              dsimp only at hl
              by_cases hk2 : keepL io xs g2 = true
              · rw [if_pos hk2] at hl
                exact ⟨acc, vs', g2, F2, ad2, n12, ha2, hk2, hg3, hl⟩
              · rw [if_neg hk2] at hl; cases hl
            | true =>
              dsimp only at hl
              cases ee : fe ⟨sl2, g2⟩ with
              | none => rw [ee] at hl; cases hl
              | some o =>
                rw [ee] at hl
                refine he sl2 g2 F2 ad2 _ σ2 H3 _ o (hs2.nx n2) hg3 ee ?_
                cases o with
                | er c t g3 => cases hl
                | ok y g3 =>
                  cases y with
                  | un => cases hl
                  | o j => cases hl
                  | t t =>
                    dsimp only at hl
                    by_cases hlen : acc.length < 100000 ∧ keepL io xs g3 = true
                    · rw [if_pos hlen] at hl
                      rintro v F4 ad4 H4 n4 ⟨hv, hg4⟩
                      have ha4 := RTs.up n4.gr _ _ ha2
                      have el : vs'.length = acc.length := ha4.len
                      refine ⟨vs', hg4.hd, by rw [el]; exact szl hlen.1, acc ++ [t], vs' ++ [v], g3, F4, ad4, n12.trans n4, ha4.app ⟨v, [], rfl, hv, rfl⟩, hlen.2, hg4.setL _, hl⟩
                    · rw [if_neg hlen] at hl; cases hl
    · rintro H1 ⟨acc, vs', g1, F1, ad1, n1, ha, hkp1, hg1, hl⟩
      rw [← elen.symm, List.drop_length] at hl
      cases hl
      exact hp _ F1 ad1 H1 n1 ⟨D, [(D, .lst vs')], rfl, ⟨vs', rfl, ha⟩, hg1⟩
/-- for over such a list -/
def loopFO (i : Nat) (xs : List T) (ft : Im → List SV → Option (List SV)) (fb : M Fl) : List T → M Fl
  | [] => sNx
  | x :: r => fun s => match ft (.one x) s.sl with
    | none => none
    | some sl => match fb ⟨sl, s.g⟩ with
      | some (.ok (.nx sl2) g2) => if keepL i xs g2 = true then loopFO i xs ft fb r ⟨sl2, g2⟩ else none
      | o => o
def sForO (f : M SV) (ft : Im → List SV → Option (List SV)) (fb : M Fl) : M Fl := f.bind fun x s => match x with
  | .o i => match lstAt s.g i with
    | some xs => if eqFls xs xs = true then loopFO i xs ft fb xs s else none
    | none => none
  | _ => none
theorem ss_forO {tw : TE} {fw : M SV} {js : List Nat} {tg : TG} {ft : Im → List SV → Option (List SV)} {tb : TS} {fb : M Fl} (hw : EV K E tw fw) (hg : GG K js tg ft) (hb : SS K E tb fb) : SS K E (tFor (iList K tw) tg tb) (sForO fw ft fb) := by
  refine JJ.stmt (u := fun x D σ H => ∃ a, x = V.ref a ∧ (∃ xs, SqL K H a xs) ∧ ∃ W : Nat → Nat → L2.St → Hp → Prop, (∃ m, W 0 m σ H) ∧ ∀ i m σ H, W i m σ H →
    ((Itl K a).stop i H ∧ D.nx σ H) ∨ ((Itl K a).go i H ∧ ∃ N : L2.St → Hp → Prop, (∀ σ' H', N σ' H' → ∃ m', m' < m ∧ W (i + 1) m' σ' H') ∧ ∀ x H', (Itl K a).yld i H x H' → tg x σ H' fun σ2 H2 => tb { D with nx := N, ct := N, bk := D.nx } σ2 H2)) hw
    fun x v sl g F ad L σ H D r hs hr hk hp => ?_
  obtain ⟨h1, hg0⟩ := hr
  cases x with
  | un => exact h1.elim
  | t t => cases hk
  | o io =>
    obtain ⟨hlt, rfl⟩ := h1
    dsimp only at hk
    split at hk
    case h_2 => cases hk
    rename_i xs exs
    by_cases hfl : eqFls xs xs = true
    case neg => rw [if_neg hfl] at hk; cases hk
    rw [if_pos hfl] at hk
    obtain ⟨us, hu1, hu2⟩ := hg0.isL (lstAt_ok exs)
    have hkp : keepL io xs g = true := by
      unfold keepL
      rw [exs]
      exact hfl
    refine ⟨_, rfl, ⟨us, .of hu1⟩, ?_⟩
    have elen := hu2.len
    refine for_it (walk_list (K := K) (a := ad io) (xs := us)) (fun i σ H => ∃ sl1 g1 F1 ad1, Nx g F ad g1 F1 ad1 ∧ RSl K F1 g1.length ad1 sl1 σ ∧ keepL io xs g1 = true ∧ RG K g1 F1 ad1 L H ∧ loopFO io xs ft fb (xs.drop i) ⟨sl1, g1⟩ = some r)
      ⟨sl, g, F, ad, Nx.refl, hs, hkp, hg0, hk⟩ (fun i σ H _ ⟨_, g1, F1, ad1, n, _, h2, h, _⟩ => ?_) ?_ ?_
    · have q := keep_sq hu2 h2 h
      rw [n.ag io hlt] at q
      exact q
    · rintro i x σ1 H1 H2 hi ⟨sl1, g1, F1, ad1, n1, hs1, hkp1, hg1, hl⟩ hy
      obtain ⟨rfl, hy⟩ := hy
      have hix : i < xs.length := by omega
      have ed : xs.drop i = xs[i] :: xs.drop (i + 1) := List.drop_eq_getElem_cons hix
      rw [ed] at hl
      unfold loopFO at hl
      dsimp only at hl
      obtain ⟨v, ev, hv⟩ := hu2.get (List.getElem?_eq_getElem hix)
      rw [hy] at ev
      cases ev
      have hiv : ImV K F1 H2 (.one xs[i]) x H2 := ⟨rfl, RT.up n1.gr _ _ hv⟩
      cases e : ft (.one xs[i]) sl1 with
      | none => rw [e] at hl; cases hl
      | some sl2 =>
        rw [e] at hl
        dsimp only at hl
        refine hg (.one xs[i]) sl1 sl2 _ F1 ad1 x σ1 H2 H2 _ hg1.gr hs1 hiv e fun σ2 hs2 _ => ?_
        cases eb : fb ⟨sl2, g1⟩ with
        | none => rw [eb] at hl; cases hl
        | some o =>
          rw [eb] at hl
          refine hb sl2 g1 F1 ad1 L σ2 H2 _ o hs2 hg1 eb ?_
          cases o with
          | er c t g3 =>
            cases hl
            exact (hp.nx n1 : PS' K g1 F1 ad1 L D E (.er c t g3))
          | ok a g3 =>
            cases a with
            | rt z =>
              cases hl
              exact (hp.nx n1 : PS' K g1 F1 ad1 L D E (.ok (.rt z) g3))
            | nx sl3 =>
              dsimp only at hl
              by_cases hk3 : keepL io xs g3 = true
              · rw [if_pos hk3] at hl
                exact fun σ3 F3 ad3 H3 n3 hs3 hg3 => ⟨sl3, g3, F3, ad3, n1.trans n3, hs3, hk3, hg3, hl⟩
              · rw [if_neg hk3] at hl; cases hl
    · rintro σ1 H1 ⟨sl1, g1, F1, ad1, n1, hs1, hkp1, hg1, hl⟩
      rw [← elen.symm, List.drop_length] at hl
      cases hl
      exact hp σ1 F1 ad1 H1 n1 hs1 hg1
end
end Mf


set_option Elab.async false
set_option linter.all false
set_option maxRecDepth 100000
set_option maxHeartbeats 4000000
/-! sets of texts that are made of a list and walked by sorted -/
namespace Sb
open PySem PySem.Spec PyProof.Rows L2
def txt : Value → Str
  | .str x _ => x
  | _ => Str.empty
abbrev newD (w : World) : Froz.SD := (#[], 0, .fresh 0 0 (!w.params.followText "set-order"))
abbrev newS (w : World) : Obj := { cls := .type "set", dict := none, data := .set #[] 0 (.fresh 0 0 (!w.params.followText "set-order")) }
/-- a payload that holds the texts l, each once, in a table that can be walked -/
structure TxD (w : World) (D : Froz.SD) (l : List Str) : Prop where
  el : ∀ e ∈ D.1.toList, ∃ k u, e.2 = Value.str k u ∧ e.1 = hashStr w k
  pm : (D.1.toList.map fun e => txt e.2).Perm l
  nd : l.Nodup
  ft : D.2.2.fits D.1.size = true
  ris : Ris D.2.2.place.toList
  led : w.params.followText "set-order" = true ∨ D.2.2.led = true
theorem is_txt {P : Program} {w : World} {e : Int × Value} {k x : Str} {u : Tok} (h : e.2 = Value.str x u) : (strKind P w).is k e.2 = true ↔ txt e.2 = k := by
  rw [h]
  show Value.isStrOf k (.str x u) = true ↔ x = k
  simp [Value.isStrOf]
theorem TxD.ok {P : Program} {w : World} {D : Froz.SD} {l : List Str} (h : TxD w D l) : Froz.TxOk P w D l where
  el := fun e he => by
    obtain ⟨k, u, h1, h2⟩ := h.el e he
    exact ⟨⟨k, by rw [h1]; exact Froz.is_str k u, h2⟩, by rw [h1]; rfl⟩
  mem := fun k => by
    rw [← h.pm.mem_iff, List.mem_map]
    constructor
    · rintro ⟨e, he, q⟩
      obtain ⟨x, u, h1, _⟩ := h.el e he
      exact ⟨e, he, (is_txt h1).mpr q⟩
    · rintro ⟨e, he, q⟩
      obtain ⟨x, u, h1, _⟩ := h.el e he
      exact ⟨e, he, (is_txt h1).mp q⟩
  sz := by
    have := h.pm.length_eq
    rw [List.length_map, Array.length_toList] at this
    exact this
  fit := h.ft
theorem TxD.none (w : World) : TxD w (newD w) [] where
  el := fun e he => by simp at he
  pm := by simp
  nd := List.nodup_nil
  ft := by rfl
  ris := List.Pairwise.nil
  led := by
    show _ ∨ (!w.params.followText "set-order") = true
    cases w.params.followText "set-order" <;> simp
theorem TxD.move {w : World} {es es' : Array (Int × Value)} {ep ep' : Nat} {t t' : SetTable} {l : List Str} (h : TxD w (es, ep, t) l) (p : es'.toList.Perm es.toList)
    (hf : t'.fits es'.size = true) (hr : Ris t'.place.toList) (hl : w.params.followText "set-order" = true ∨ t'.led = true) : TxD w (es', ep', t') l where
  el := fun e he => h.el e (p.mem_iff.mp he)
  pm := (p.map _).trans h.pm
  nd := h.nd
  ft := hf
  ris := hr
  led := hl
theorem TxD.add {w : World} {D : Froz.SD} {l : List Str} {k : Str} (u : Tok) (h : TxD w D l) (hk : k ∉ l) : TxD w (Froz.addTx (hashStr w k) (.str k u) D) (k :: l) := by
  obtain ⟨es, ep, t⟩ := D
  have a1 := layNew_perm t es (hashStr w k) (.str k u)
  have a2 := layNew_fits t es (hashStr w k) (.str k u)
  have a3 := layNew_ris t es (hashStr w k) (.str k u) h.ris
  have a4 := layNew_led t es (hashStr w k) (.str k u)
  unfold Froz.addTx
  dsimp only
  generalize layNew t es (hashStr w k) (.str k u) = Z at a1 a2 a3 a4 ⊢
  obtain ⟨e1, t1, wd, gv⟩ := Z
  dsimp only at a1 a2 a3 a4 ⊢
  have b1 : TxD w (e1, ep, t1) (k :: l) := by
    rw [Array.toList_push] at a1
    refine ⟨fun e he => ?_, ?_, List.nodup_cons.mpr ⟨hk, h.nd⟩, a2, a3, h.led.imp id fun z => by rw [a4]; exact z⟩
    · rcases List.mem_append.mp (a1.mem_iff.mp he) with q | q
      · exact h.el e q
      · rw [List.mem_singleton.mp q]
        exact ⟨k, u, rfl, rfl⟩
    · have := a1.map fun e => txt e.2
      rw [List.map_append] at this
      exact this.trans ((List.perm_append_singleton _ _).trans (List.Perm.cons _ h.pm))
  have b2 : TxD w (e1, ep, if t1.plain = true then { t1 with plain := false } else t1) (k :: l) := by
    by_cases c : t1.plain = true
    · rw [if_pos c]
      exact b1.move (List.Perm.refl _) (SetTable.fits_plain_off a2) a3 b1.led
    · rw [if_neg c]
      exact b1
  generalize (if t1.plain = true then { t1 with plain := false } else t1) = t2 at b2 ⊢
  unfold Froz.tailTx
  by_cases c : (!wd && t2.tooFull) = true
  · rw [if_pos c]
    refine b2.move (relayAll_perm t2 e1 _) (relayAll_fits t2 e1 _) (relayAll_ris t2 e1 _) (b2.led.imp id fun z => ?_)
    rw [relayAll_led]
    exact z
  · rw [if_neg c]
    exact b2.move (List.Perm.refl _) b2.ft b2.ris b2.led
/-- the set at a holds the texts l -/
def TSet (w : World) (h : Heap) (a : Addr) (l : List Str) : Prop := ∃ D, h.get? a = some (Froz.sObj "set" D) ∧ TxD w D l
theorem TSet.up {w : World} {h h' : Heap} {a : Addr} {l : List Str} (R : TSet w h a l) (k : ∀ o, h.get? a = some o → h'.get? a = some o) : TSet w h' a l := by
  obtain ⟨D, h1, h2⟩ := R
  exact ⟨D, k _ h1, h2⟩
def putS (l : List Str) (k : Str) : List Str := if k ∈ l then l else k :: l
def gatS (l ks : List Str) : List Str := ks.foldl putS l
theorem putS_len (l : List Str) (k : Str) : (putS l k).length ≤ l.length + 1 := by
  unfold putS
  split <;> simp
theorem mem_putS {l : List Str} {k x : Str} : x ∈ putS l k ↔ x ∈ l ∨ x = k := by
  unfold putS
  split
  · rename_i h
    constructor
    · exact .inl
    · rintro (q | rfl)
      · exact q
      · exact h
  · rw [List.mem_cons]
    exact Or.comm
theorem putS_nd {l : List Str} (k : Str) (h : l.Nodup) : (putS l k).Nodup := by
  unfold putS
  split
  · exact h
  · rename_i q
    exact List.nodup_cons.mpr ⟨q, h⟩
theorem gatS_len : ∀ (ks l : List Str), (gatS l ks).length ≤ l.length + ks.length
  | [], l => Nat.le_refl _
  | k :: ks, l => by
    have := gatS_len ks (putS l k)
    have h2 := putS_len l k
    show (gatS (putS l k) ks).length ≤ _
    rw [List.length_cons]
    omega
theorem mem_gatS {x : Str} : ∀ (ks l : List Str), x ∈ gatS l ks ↔ x ∈ l ∨ x ∈ ks
  | [], l => by simp [gatS]
  | k :: ks, l => by
    show x ∈ gatS (putS l k) ks ↔ _
    rw [mem_gatS ks, mem_putS, List.mem_cons, or_assoc]
theorem gatS_nd : ∀ (ks : List Str) {l : List Str}, l.Nodup → (gatS l ks).Nodup
  | [], _, h => h
  | k :: ks, _, h => gatS_nd ks (putS_nd k h)
section
variable {P : Program} {w : World} {A : Around} {E : Value → Shared → Prop} {s : Shared}
/-- one text more -/
theorem tset_add {a : Addr} {l : List Str} {k : Str} {u : Tok} {Q : Bool → Shared → Prop} (R : TSet w s.heap a l) (room : l.length + 1 < scanBound)
    (q : ∀ b h', Heap.SameBut a s.heap h' → TSet w h' a (putS l k) → Q b { s with heap := h' }) : wpAny (model P w) A (setAddHashed a (.str k u) (hashStr w k)) Q E s := by
  obtain ⟨D, ho, F⟩ := R
  by_cases hk : k ∈ l
  · have q := q false s.heap (Heap.SameBut.refl a s.heap) ⟨D, ho, by unfold putS; rw [if_pos hk]; exact F⟩
    obtain ⟨es, ep, t⟩ := D
    have G : Froz.TxOk P w (es, ep, t) l := F.ok
    have hs : es.size = l.length := G.sz
    obtain ⟨e, he, is⟩ := (G.mem k).mp hk
    unfold setAddHashed setAddHashedIn
    refine wpAny_holding (wpAny_bind (wpAny_setState_of ho rfl G.fit ?_))
    dsimp only
    rw [byScan_of (knd := strKind P w) rfl (show es.size < scanBound by omega) G.el]
    simp only [↓reduceIte]
    unfold setAddByScan
    refine wpAny_bind (wpAny_bind (wpAny_rule (wpAny_bind (wpAny_setScan_of (knd := strKind P w) (k := k) (Froz.is_str k u) ho rfl G.fit G.el ?_))))
    cases c : List.findIdx? (fun e => (strKind P w).is k e.2) es.toList with
    | none =>
      have := List.findIdx?_eq_none_iff.mp c e he
      rw [is] at this
      cases this
    | some j => exact wpAny_pure (wpAny_pure q)
  · refine Froz.add_x (l := l) ho F.ok hk room (q true _ (Heap.SameBut.update ..) ⟨Froz.addTx (hashStr w k) (.str k u) D, Froz.get_upd _ ho rfl, ?_⟩)
    unfold putS
    rw [if_neg hk]
    exact F.add u hk
/-- the loop of update: the texts of a walk, from place i on -/
theorem tset_loop {I : Addr} {fp wr : List Addr} {G : Array GenState → Array GenState → Prop} {n : Nat} {Pv : Nat → Value → Prop} {St : Nat → Shared → Prop} {R : Result → Shared → Prop}
    (W : WalksS P w A.in1 I fp wr G n Pv St) (S : Addr) (off : S ∉ fp) (ks : List Str) (hn : n = ks.length) (hb : ks.length < scanBound) (hv : ∀ i v, Pv i v → ∃ k u, ks[i]? = some k ∧ v = .str k u) :
    ∀ (m i : Nat) (s : Shared), n - i = m → i ≤ n → St i s → TSet w s.heap S (gatS [] (ks.take i)) → (∀ s', Moved (S :: wr) G s s' → TSet w s'.heap S (gatS [] ks) → R (.ok (.ret .none)) s') →
      codeAny (model P w) A (.builtin "set.update.loop" ⟨[.ref S, .ref I], []⟩) R s := by
  have off2 : S ∉ wr := fun h => off (W.sub _ h)
  have more : ∀ b ∈ wr, b ∈ S :: wr := fun b hb => List.mem_cons_of_mem _ hb
  intro m
  induction m with
  | zero =>
    intro i s e1 e2 st T q
    obtain rfl : i = n := by omega
    refine codeAny_builtin F.entry_set_update_loop ?_
    rw [Around.under_plainId F.plain_set_update_loop _]
    refine wpAny_bind (W.done s _ _ st fun s' mv => ?_)
    refine wpAny_pure (q s' (mv.mono more) ?_)
    rw [List.take_of_length_le (by omega)] at T
    exact T.up fun o e => mv.heap S o off2 e
  | succ m ih =>
    intro i s e1 e2 st T q
    have lt : i < n := by omega
    refine codeAny_builtin F.entry_set_update_loop ?_
    rw [Around.under_plainId F.plain_set_update_loop _]
    refine wpAny_bind (W.item i s _ _ lt st fun v s' hp st' mv => ?_)
    obtain ⟨k, u, hk, rfl⟩ := hv i v hp
    have T1 : TSet w s'.heap S (gatS [] (ks.take i)) := T.up fun o e => mv.heap S o off2 e
    have room : (gatS [] (ks.take i)).length + 1 < scanBound := by
      have := gatS_len (ks.take i) []
      rw [List.length_take, List.length_nil] at this
      omega
    refine wpAny_bind (wpAny_holding ?_)
    unfold setAdd
    refine wpAny_holding (wpAny_bind ((strKind P w).pyHash (k := k) (Froz.is_str k u) ?_))
    refine tset_add (s := { s' with toks := s'.toks + 1 }) T1 room fun b h' sb T2 => ?_
    have T3 : TSet w h' S (gatS [] (ks.take (i + 1))) := by
      rw [List.take_add_one, hk]
      unfold gatS
      rw [List.foldl_append]
      exact T2
    refine wpAny_pure ⟨plainId_quiet F.plain_set_update_loop _, ih (i + 1) _ (by omega) lt (W.frame _ s' _ _ st' (Nat.le_succ _) fun b hb o e => ?_) T3 fun s2 mv2 T4 => ?_⟩
    · rw [sb.2 b (fun z : b = S => off (z ▸ hb))]
      exact e
    · refine q s2 (Moved.trans W.gtrans ((mv.mono more).then_heap (Nat.le_succ _) fun b o nb e => ?_) mv2) T4
      rw [sb.2 b (fun z : b = S => nb (by rw [z]; exact List.mem_cons_self))]
      exact e
end
end Sb


set_option Elab.async false
set_option linter.all false
set_option maxRecDepth 100000
set_option maxHeartbeats 4000000
namespace Sb
open PySem PySem.Spec PyProof.Rows L2
section
variable {P : Program} {w : World} {A : Around} {E : Value → Shared → Prop} {s : Shared}
/-- set(a list of texts) -/
theorem call_set_txt {l : Addr} {xs : Array Value} (ks : List Str) {Q : Value → Shared → Prop} (ah : A.handled = none) (il : s.heap.IsList l xs) (ix : StrsAre xs.toList ks) (hb : ks.length < scanBound)
    (q : ∀ h' tk, TSet w h' s.heap.objs.size (gatS [] ks) → (∀ b o, s.heap.get? b = some o → h'.get? b = some o) → Q (.ref s.heap.objs.size) { s with heap := h', toks := tk }) :
    wpAny (model P w) A (call (.type "set") [.ref l]) Q E s := by
  have len : xs.size = ks.length := by
    have := StrsAre.length ix
    rw [Array.length_toList] at this
    exact this
  obtain ⟨c, tl, hmro⟩ := F.called_set.mro
  have y1 := F.called_set.made
  have y2 := F.called_set.sub
  refine wpAny_call (codeAny_of_tree ?_)
  show wpAny _ _ (callAny (.type "set") _) _ _ _
  refine wpAny_pure ⟨Code.quiet_builtin _ (by decide +kernel), codeAny_builtin F.entry_type_call ?_⟩
  rw [Around.under_plain (weight_type_call_type "set" [.ref l] []) rfl]
  have y3 := F.called_set.notType
  have y4 := F.called_set.canCreate
  have y5 := F.typeCall_set_1 (.ref l)
  repeat (any_goals (first | assumption | wp_step))
  refine codeAny_mono (code_set_led1 (.ref l) (E := E) (Q₁ := fun obj s₁ => obj = .ref s.heap.objs.size ∧ s₁ = { s with heap := s.heap.push (newS w) }) ⟨rfl, rfl⟩) fun r s₁ hr => ?_
  cases r with
  | error e => exact hr
  | ok fl =>
    cases fl with
    | ret obj =>
      obtain ⟨rfl, rfl⟩ := hr
      have at0 : (s.heap.push (newS w)).get? s.heap.objs.size = some (newS w) := Heap.get?_push_size _ rfl
      have ty0 : Shared.TypeIs { s with heap := s.heap.push (newS w) } (.ref s.heap.objs.size) "set" := ⟨_, at0, rfl⟩
      have y6 := F.called_set.init.lookup
      have y7 := F.called_set.init.bind (.ref s.heap.objs.size)
      repeat (any_goals (first | assumption | wp_step))
      refine codeAny_mono (codeAny_call_builtin (R := wants (fun r s₂ => r = .none ∧ ∃ h' tk, s₂ = { s with heap := h', toks := tk } ∧ TSet w h' s.heap.objs.size (gatS [] ks) ∧
          (∀ b o, s.heap.get? b = some o → h'.get? b = some o)) E) F.called_set.init.plain F.entry_set_init (check_set_init_1 ty0 ?_)) fun r₂ s₂ hr₂ => ?_
      · obtain ⟨⟨oc, od, oda, osl⟩, ho, hc, n, hd⟩ := il
        simp only at hc hd
        subst hc
        subst hd
        have ho' : (s.heap.push (newS w)).get? l = some { cls := .type "list", dict := od, data := .seq xs n, slots := osl } := Heap.get?_push_of_some _ ho
        have z1 := F.sub_list_set
        have z2 := F.sub_list_frozenset
        have z3 : (Value.type "list" == Value.type "dict") = false := by decide
        have il' : (s.heap.push (newS w)).IsList l xs := ⟨_, ho', rfl, n, rfl⟩
        unfold Builtin.«set.__init__» noKeywords Builtin.Frozenset.updateFrom
        generalize hPI : pyIter = PI
        wp_walk
        subst hPI
        refine wpAny_pyIter_list il' ?_
        refine wpAny_bind (wpAny_runValue ?_)
        have lt : l < s.heap.objs.size := Heap.lt_size ho
        have ah3 : A.in1.in1.in1.handled = none := by simp [ah]
        have sz : (s.heap.push (newS w)).objs.size = s.heap.objs.size + 1 := Heap.size_push ..
        have ne : l ≠ (s.heap.push (newS w)).objs.size := by rw [sz]; exact Nat.ne_of_lt (Nat.lt_succ_of_lt lt)
        have off : s.heap.objs.size ∉ [(s.heap.push (newS w)).objs.size, l] := by
          simp only [List.mem_cons, List.not_mem_nil, or_false, not_or]
          exact ⟨by rw [sz]; exact Nat.ne_of_lt (Nat.lt_succ_self _), Nat.ne_of_gt lt⟩
        refine tset_loop ((Walks.list ah3 _ l ne xs).toS) s.heap.objs.size off ks len hb (fun i v hv => ?_) (xs.size - 0) 0 _ (by omega) (Nat.zero_le _)
          ⟨⟨_, Heap.get?_push_size _ rfl, rfl, rfl⟩, (il'.push _)⟩ ⟨newD w, ?_, TxD.none w⟩ fun s' mv T => ?_
        · have hi : i < ks.length := by rw [← len]; exact (Array.getElem?_eq_some_iff.mp hv).1
          obtain ⟨t, e⟩ := SS.strs_at ix i v (by rw [Array.getElem?_toList]; exact hv)
          refine ⟨ks[i], t, List.getElem?_eq_getElem hi, ?_⟩
          rw [e, List.getD_eq_getElem?_getD, List.getElem?_eq_getElem hi] <;> rfl
        · exact Heap.get?_push_of_some _ at0
        · obtain ⟨h', g2, d', tk', os'⟩ := s'
          obtain rfl : g2 = s.gens := mv.gens
          obtain rfl : d' = s.drawn := mv.drawn
          obtain rfl : os' = s.os := mv.os
          refine wpAny_pure ?_
          show wpAny _ _ (ret Value.none) _ _ _
          refine wpAny_pure ⟨rfl, h', tk', rfl, T, fun b o e => ?_⟩
          have hb0 : b < s.heap.objs.size := Heap.lt_size e
          refine mv.heap b o (fun hm => ?_) (Heap.get?_push_of_some _ (Heap.get?_push_of_some _ e))
          simp only [List.mem_cons, List.not_mem_nil, or_false] at hm
          rcases hm with e2 | e2
          · exact Nat.ne_of_lt hb0 e2
          · rw [sz] at e2
            exact Nat.ne_of_lt (Nat.lt_succ_of_lt hb0) e2
      · cases r₂ with
        | error e => exact hr₂
        | ok fl₂ =>
          cases fl₂ with
          | ret r =>
            obtain ⟨rfl, h', tk, rfl, T, kp⟩ := hr₂
            repeat (any_goals (first | assumption | wp_step))
            exact q _ _ T kp
          | _ => exact hr₂.elim
    | _ => exact hr.elim
theorem strsAre_txt : ∀ (vs : List Value), (∀ v ∈ vs, ∃ k u, v = Value.str k u) → StrsAre vs (vs.map txt)
  | [], _ => .nil
  | v :: vs, h => by
    obtain ⟨k, u, rfl⟩ := h v List.mem_cons_self
    exact .cons k u (strsAre_txt vs fun x hx => h x (List.mem_cons_of_mem _ hx))
/-- sorted(a set of texts) -/
theorem sorted_txt {a : Addr} {l : List Str} {Q : Value → Shared → Prop} (R : TSet w s.heap a l) (ah : A.handled = none) (h64 : l.length < 64)
    (q : ∀ s' p (out : Array Value) (c : Nat) (ys : List Str), (∀ b o, s.heap.get? b = some o → s'.heap.get? b = some o) → s'.gens = s.gens → s'.os = s.os → s.heap.objs.size ≤ p →
      s'.heap.get? p = some (seqObj "list" out c) → StrsAre out.toList ys → ys.Perm l → sortedS ys = true → Q (.ref p) s') :
    wpAny (model P w) A (call (.builtin "sorted") [.ref a]) Q E s := by
  obtain ⟨⟨es, ep, t⟩, ho, T⟩ := R
  have hz : es.size = l.length := (T.ok (P := P)).sz
  refine Calls.call_function_entry kind_sorted plain_sorted entry_sorted (args_sorted1 _) ?_
  unfold Builtin.«sorted»
  refine wpAny_bind (m := checkCount "sorted" 1 1 _) (wpAny_pure ?_)
  refine wpAny_bind (collect_set (A := A.in1) ah ⟨_, ho, rfl, rfl⟩ T.ft (show es.size < scanBound by unfold scanBound; omega) T.ris T.led fun s1 vs k1 z1 g1 o1 pm => ?_)
  have vl : vs.length = l.length := by rw [pm.length_eq, List.length_map, Array.length_toList, hz]
  have vt : ∀ v ∈ vs, ∃ k u, v = Value.str k u := fun v hv => by
    obtain ⟨e, he, rfl⟩ := List.mem_map.mp (pm.mem_iff.mp hv)
    obtain ⟨k, u, h1, _⟩ := T.el e he
    exact ⟨k, u, h1⟩
  have pt : (vs.map txt).Perm l := by
    have := pm.map txt
    rw [List.map_map] at this
    exact this.trans T.pm
  have ta := strsAre_txt vs vt
  refine wpAny_bind (wpAny_newList ?_ (by rw [vl, sizeLine_eq]; omega))
  have at1 : (s1.heap.push (seqObj "list" vs.toArray 0)).get? s1.heap.objs.size = some (seqObj "list" vs.toArray 0) := Heap.get?_push_size _ rfl
  refine wpAny_bind (wpAny_holding (wpAny_call_entry slot_list_sort ⟨_, at1, rfl⟩ entry_list_sort (list_sort_treeK strKind_oneLt at1 ta.keysOf (fun v₁ v₂ rest e => keyKind_strs (by rw [← e]; exact ta)) (by omega) fun st' hp hs => ?_) (args_list_sort _)))
  obtain ⟨ys, a1, a2, a3⟩ := sorted_out_str ta hp hs
  refine ⟨_, rfl, ?_⟩
  obtain ⟨c, hc⟩ := sortedHeap_at (vs := vs) (out := (arrOf st').map (·.2)) at1
  refine wpAny_pure ⟨_, rfl, q _ s1.heap.objs.size _ c ys (fun b u e => ?_) g1 o1 z1 hc a1 (a2.trans pt) a3⟩
  have e1 := k1 b u e
  have lt := Heap.lt_size e1
  show (sortedHeap (s1.heap.push (seqObj "list" vs.toArray 0)) s1.heap.objs.size vs _).get? b = some u
  rw [sortedHeap_old (Nat.ne_of_lt lt) (by rw [Heap.size_push]; exact Nat.lt_succ_of_lt lt)]
  exact Heap.get?_push_of_some _ e1
end
/-! ### the same, by values -/
section
variable {X : Cx}
def TSetO (w : World) (a : Addr) (l : List Str) : HO := .ext fun h => TSet w h a l
theorem tsetO_new {w : World} {P : Program} {H : Hp} {h : Heap} {a : Addr} {l : List Str} (R : TSet w h a l) : ObjOk P w H h a (TSetO w a l) := by
  have ⟨_, ho, _⟩ := R
  exact ⟨R, ⟨_, ho⟩, fun h1 h2 p k => TSet.up p k⟩
/-- set(a list of texts) -/
def rSetX (w : World) (K : PySem.W.Frag) : List V → Hp → VK → Prop := fun vs H Q => ∃ (a : Addr) (ks : List Str), vs = [V.ref a] ∧ SqL K H a (ks.map V.str) ∧ ks.length < scanBound ∧
  ∀ p, H p = none → Q (.ref p) (upd H p (TSetO w p (gatS [] ks)))
theorem cr_setX (hc : X.calm = true) : CallR X (.type "set") (rSetX X.w X.K) := by
  intro pins s σ H vs us Q I r h
  obtain ⟨a, ks, rfl, hs, hb, q⟩ := h
  obtain ⟨its, rv, pl, _⟩ := I.list hs
  rw [Vals.ref1 r]
  refine call_set_txt ks (I.ok.hd hc) pl.isList (by simpa using rv.strs) hb fun h' tk T kp => ?_
  have hn : H s.heap.objs.size = none := I.hok.fresh (Nat.le_refl _)
  exact ⟨.ref _, _, I.laid (t' := tk) kp (Nat.le_refl _) (tsetO_new T), rfl, q _ hn⟩
/-- sorted(a set of texts) -/
def rSortX (w : World) : List V → Hp → VK → Prop := fun vs H Q => ∃ (a : Addr) (l : List Str), vs = [V.ref a] ∧ H a = some (TSetO w a l) ∧ l.length < 64 ∧
  ∀ (ys : List Str) (p : Addr), ys.Perm l → sortedS ys = true → H p = none → Q (.ref p) (upd H p (.lst (ys.map V.str)))
theorem cr_sortX (hc : X.calm = true) : CallR X (.builtin "sorted") (rSortX X.w) := by
  intro pins s σ H vs us Q I r h
  obtain ⟨a, l, rfl, ha, h64, q⟩ := h
  have R : TSet X.w s.heap a l := (I.hok a _ ha).1
  rw [Vals.ref1 r]
  refine sorted_txt R (I.ok.hd hc) h64 fun s' p out c ys k g o hp hg hi pm hs => ?_
  have hlen : (ys.map V.str).length ≤ sizeLine := by rw [List.length_map, pm.length_eq, sizeLine_eq]; omega
  have hn : H p = none := I.hok.fresh hp
  have J : Inv X pins σ (upd H p (.lst (ys.map V.str))) { s with heap := s'.heap, gens := s'.gens, drawn := s'.drawn, toks := s'.toks } :=
    I.call (ch := []) (Un.laid k hp hn) (I.hok.laid k hp ⟨hlen, out.toList, c, vals_of_strs hi, hg⟩) (by rw [g]; exact I.bare) (fun _ z => nomatch z)
  have e : s' = { s with heap := s'.heap, gens := s'.gens, drawn := s'.drawn, toks := s'.toks } := by
    cases s'
    cases s
    cases o
    rfl
  rw [e]
  exact ⟨.ref p, _, J, rfl, q ys p pm hs hn⟩
end
end Sb


set_option Elab.async false
set_option linter.all false
set_option maxRecDepth 100000
set_option maxHeartbeats 8000000
namespace Mf
open PySem PySem.Spec PyProof.Rows L2 Sb
def m_closure : Mir := runD 6 ((sSeq (sIf (mB (mV (mOp2 (oInSto true) (mVar 1) (mVar 0)))) (sRaise "NoName" (mVar 1)) sNx)
      (sSeq (sSet 2 (mO (mOp oDisp (mCons (mVar 1) mNil))))
      (sSeq (sSet 3 (M.ret (.t (.int 0))))
      (sSeq (sWhile (mB (mV (mOp2 oLt (mVar 3) (mV (mOp oLen (mCons (mVar 2) mNil))))))
      (sSeq (sSet 4 (mV (mGetSto (mVar 0) (mV (mOp2 oIxL (mVar 2) (mVar 3))))))
      (sSeq (sFor (mItU (mV (mLibF "needs" (mVar 4)))) (gN 5)
      (sSeq (sIf (mB (mV (mOp2 (oInSto true) (mVar 5) (mVar 0)))) (sRaise "Missing" (mVar 5)) sNx)
      (sIf (mB (mV (mOp2 (oIn true) (mVar 5) (mVar 2)))) (sDrop (mMeth oAppend (mVar 2) (mCons (mVar 5) mNil))) sNx)))
      (sAug 3 oAdd (M.ret (.t (.int 1)))))))
      (sRet (mZ (mVar 2))))))))
def m_first_definer : Mir := runD 4 ((sSeq (sFor (mItL (mVar 1)) (gN 3)
      (sIf (mB (mV (mOp2 (oIn false) (mVar 2) (mV (mLibF "defines" (mV (mGetSto (mVar 0) (mVar 3)))))))) (sRet (mZ (mVar 3))) sNx))
      (sRet (mZ (M.ret (.t .non))))))
def m_check_wishes : Mir := runD 3 ((sSeq (sIf (mOr (mNot (mB (mV (mIsi "dict" (mVar 1))))) (mNot (mB (mV (mOp (oBools fun bs => bs.all id) (mCons (mT (mComp [2] (mKeys (mVar 1)) (gN 2) (M.ret true) (mV (mIsi "str" (mVar 2))))) mNil)))))) (sRaise "NoWishes" (M.ret (.t .non))) sNx)
      (sFor (mItL (mT (mOp oSorted (mCons (mT (mOp oListD (mCons (mVar 1) mNil))) mNil)))) (gN 2)
      (sIf (mOr (mNot (mB (mV (mOp oIsWord (mCons (mVar 2) mNil))))) (mB (mV (mOp2 (oInSto true) (mV (mOp2 oDGet (mVar 1) (mVar 2))) (mVar 0))))) (sRaise "NoWishes" (mVar 2)) sNx))))
def m_elders_of : Mir := runD 7 ((sSeq (sSet 4 (mO (fun s => some (.ok (.n (.dic [])) s.g))))
      (sSeq (sFor (mItL (mT (mOp oSorted (mCons (mT (mOp oListD (mCons (mVar 2) mNil))) mNil)))) (gN 5)
      (sSeq (sSet 6 (mV (mOp2 oDGet (mVar 2) (mVar 5))))
      (sIf (mAnd (mB (mV (mOp2 (oIn false) (mVar 5) (mV (mLibF "defines" (mV (mGetSto (mVar 0) (mVar 3)))))))) (mB (mV (mOp2 (oIn true) (mVar 6) (mV (mOp oTup (mCons (mVar 3) (mCons (mVar 1) mNil)))))))) (sDrop (mDSetd (mVar 4) (mVar 6) (mVar 5))) sNx)))
      (sRet (mZ (mVar 4))))))
def m_required : Mir := runD 9 ((sSeq (sSet 4 (mO (mOp oDisp mNil)))
      (sSeq (sFor (mKeys (mVar 3)) (gN 5)
      (sIf (mAnd (mB (mV (mOp2 (oEq true) (mV (mCall 3 m_first_definer (mCons (mVar 0) (mCons (mVar 2) (mCons (mVar 5) mNil))))) (mV (mOp2 oDGet (mVar 3) (mVar 5)))))) (mB (mV (mOp2 (oIn true) (mV (mOp2 oDGet (mVar 3) (mVar 5))) (mVar 4))))) (sDrop (mMeth oAppend (mVar 4) (mCons (mV (mOp2 oDGet (mVar 3) (mVar 5))) mNil))) sNx))
      (sSeq (sSet 6 (M.ret (.t (.int 0))))
      (sSeq (sWhile (mB (mV (mOp2 oLt (mVar 6) (mV (mOp oLen (mCons (mVar 4) mNil))))))
      (sSeq (sSet 7 (mV (mOp2 oIxL (mVar 4) (mVar 6))))
      (sSeq (sFor (mKeys (mTD (mCall 4 m_elders_of (mCons (mVar 0) (mCons (mVar 1) (mCons (mVar 3) (mCons (mVar 7) mNil))))))) (gN 8)
      (sIf (mB (mV (mOp2 (oIn true) (mVar 8) (mVar 4)))) (sDrop (mMeth oAppend (mVar 4) (mCons (mVar 8) mNil))) sNx))
      (sAug 6 oAdd (M.ret (.t (.int 1)))))))
      (sRet (mZ (mVar 4))))))))
def m_first_elder : Mir := runD 4 ((sRet (mZ (mV (mOp2 oIxL (mT (mComp [3] (mKeys (mV (mOp2 oDGet (mVar 0) (mVar 2)))) (gN 3) (mB (mV (mOp2 (oIn false) (mVar 3) (mVar 1)))) (mVar 3))) (M.ret (.t (.int 0))))))))
def m_ring_of : Mir := runD 7 ((sSeq (sSet 2 (mO (mOp oDisp (mCons (mV (mOp2 oIxL (mVar 1) (M.ret (.t (.int 0))))) mNil))))
      (sSeq (sSet 3 (mV (mCall 3 m_first_elder (mCons (mVar 0) (mCons (mVar 1) (mCons (mV (mOp2 oIxL (mVar 2) (M.ret (.t (.int 0))))) mNil))))))
      (sSeq (sWhile (mB (mV (mOp2 (oIn true) (mVar 3) (mVar 2))))
      (sSeq (sDrop (mMeth oAppend (mVar 2) (mCons (mVar 3) mNil)))
      (sSet 3 (mV (mCall 3 m_first_elder (mCons (mVar 0) (mCons (mVar 1) (mCons (mVar 3) mNil))))))))
      (sSeq (sSet 4 (mT (mOp oRevL (mCons (mT (mSl oSlL (mVar 2) (mPart (mV (mMeth oIndex (mVar 2) (mCons (mVar 3) mNil)))) (M.ret none))) mNil))))
      (sRet (mComp [5, 6] (mZip (mCons (mVar 4) (mCons (mT (mOp2 oCat (mT (mSl oSlL (mVar 4) (mPart (M.ret (.t (.int 1)))) (M.ret none))) (mT (mSl oSlL (mVar 4) (M.ret none) (mPart (M.ret (.t (.int 1)))))))) mNil))) (gT (gsCons (gN 5) (gsCons (gN 6) gsNil))) (M.ret true) (mV (mOp oTup (mCons (mVar 5) (mCons (mV (mOp2 oDGet (mV (mOp2 oDGet (mVar 0) (mVar 6))) (mVar 5))) mNil)))))))))))
def m_arranged : Mir := runD 6 ((sSeq (sSet 1 (mO (mOp oSorted (mCons (mT (mOp oListD (mCons (mVar 0) mNil))) mNil))))
      (sSeq (sSet 2 (mO (mOp oDisp mNil)))
      (sSeq (sWhile (mTru (mVar 1))
      (sSeq (sSet 3 (mT (mCompO [4] (mVar 1) (gN 4) (mNot (mB (mV (mOp (oBools fun bs => bs.any id) (mCons (mT (mComp [5] (mKeys (mV (mOp2 oDGet (mVar 0) (mVar 4)))) (gN 5) (M.ret true) (mV (mOp2 (oIn false) (mVar 5) (mVar 1))))) mNil))))) (mVar 4))))
      (sSeq (sIf (mNot (mTru (mVar 3))) (sRet (mOp oTup (mCons (M.ret (.t (.str "ring"))) (mCons (mT (mCall 2 m_ring_of (mCons (mVar 0) (mCons (mT (mZ (mVar 1))) mNil)))) mNil)))) sNx)
      (sSeq (sDrop (mMeth oAppend (mVar 2) (mCons (mV (mOp2 oIxL (mVar 3) (M.ret (.t (.int 0))))) mNil)))
      (sDrop (mMeth oRemove (mVar 1) (mCons (mV (mOp2 oIxL (mVar 3) (M.ret (.t (.int 0))))) mNil)))))))
      (sRet (mOp oTup (mCons (M.ret (.t (.str "order"))) (mCons (mT (mZ (mVar 2))) mNil))))))))
def m_least_preloads : Mir := runD 7 ((sSeq (sSet 3 (mT (mCall 2 m_closure (mCons (mVar 0) (mCons (mVar 1) mNil)))))
      (sSeq (sDrop (mCall 2 m_check_wishes (mCons (mVar 0) (mCons (mVar 2) mNil))))
      (sSeq (sFor (mItL (mT (mOp oSorted (mCons (mT (mOp oListD (mCons (mVar 2) mNil))) mNil)))) (gN 4)
      (sIf (mB (mV (mOp2 (oIn true) (mVar 4) (mV (mLibF "defines" (mV (mGetSto (mVar 0) (mV (mOp2 oDGet (mVar 2) (mVar 4)))))))))) (sRet (mOp oTup (mCons (M.ret (.t (.str "undefined"))) (mCons (mVar 4) mNil)))) sNx))
      (sSeq (sFor (mItL (mT (mOp oSorted (mCons (mT (mOp oListD (mCons (mVar 2) mNil))) mNil)))) (gN 4)
      (sIf (mAnd (mB (mV (mOp2 (oEq true) (mV (mOp2 oDGet (mVar 2) (mVar 4))) (mVar 1)))) (mB (mV (mOp2 (oIn false) (mVar 4) (mV (mLibF "defines" (mV (mGetSto (mVar 0) (mVar 1))))))))) (sRet (mOp oTup (mCons (M.ret (.t (.str "main"))) (mCons (mVar 4) mNil)))) sNx))
      (sSeq (sSet 5 (mO (mDComp [6] (mItL (mT (mCall 4 m_required (mCons (mVar 0) (mCons (mVar 1) (mCons (mVar 3) (mCons (mVar 2) mNil))))))) (gN 6) (M.ret true) (mVar 6) (mTD (mCall 4 m_elders_of (mCons (mVar 0) (mCons (mVar 1) (mCons (mVar 2) (mCons (mVar 6) mNil)))))))))
      (sRet (mCall 1 m_arranged (mCons (mVar 5) mNil)))))))))
def m_cell_at : Mir := runD 2 ((sSeq (sIf (mB (mV (mOp2 oLt (mVar 1) (mV (mOp oLen (mCons (mVar 0) mNil)))))) (sRet (mZ (mV (mOp2 oIxL (mVar 0) (mVar 1))))) sNx)
      (sRet (mZ (M.ret (.t (.int 0)))))))
def m_begin : Mir := runD 1 ((sRet (mOp oDisp (mCons (mV (mOp2 oMul (mVar 0) (mV (mOp oInt (mCons (mV (mOp2 oGe (mVar 0) (mV (mOp2 oPow (M.ret (.t (.int 10))) (M.ret (.t (.int 18))))))) mNil))))) (mCons (mV (mOp2 oMod (mVar 0) (M.ret (.t (.int 2147483629))))) (mCons (M.ret (.t (.int 0))) mNil))))))
def m_draw : Mir := runD 4 ((sSeq (sIf (mB (mV (mOp2 oGt (mV (mOp2 oIxL (mVar 0) (M.ret (.t (.int 0))))) (M.ret (.t (.int 0)))))) (sSeq (sSet 2 (mV (mOp2 oMod (mV (mOp2 oIxL (mVar 0) (M.ret (.t (.int 0))))) (mVar 1))))
      (sSeq (sSetIx (mV (mOp2 oDiv (mV (mOp2 oIxL (mVar 0) (M.ret (.t (.int 0))))) (mVar 1))) (mVar 0) (M.ret (.t (.int 0))))
      (sRet (mZ (mVar 2))))) sNx)
      (sSeq (sSetIx (mV (mOp2 oAdd (mV (mOp2 oIxL (mVar 0) (M.ret (.t (.int 2))))) (M.ret (.t (.int 1))))) (mVar 0) (M.ret (.t (.int 2))))
      (sSeq (sSet 3 (mV (mOp2 oMod (mV (mOp2 oPow (mV (mOp2 oAdd (mV (mOp2 oAdd (mV (mOp2 oIxL (mVar 0) (M.ret (.t (.int 1))))) (mV (mOp2 oMul (M.ret (.t (.int 30103))) (mV (mOp2 oIxL (mVar 0) (M.ret (.t (.int 2))))))))) (M.ret (.t (.int 11))))) (M.ret (.t (.int 5))))) (M.ret (.t (.int 2147483647))))))
      (sSeq (sSet 3 (mV (mOp2 oMod (mV (mOp2 oMul (mV (mOp2 oAdd (mVar 3) (mV (mOp2 oMul (M.ret (.t (.int 7919))) (mV (mOp2 oIxL (mVar 0) (M.ret (.t (.int 2))))))))) (mV (mOp2 oAdd (mV (mOp2 oDiv (mVar 3) (M.ret (.t (.int 1013))))) (M.ret (.t (.int 69623))))))) (M.ret (.t (.int 2147483587))))))
      (sRet (mOp2 oMod (mV (mOp2 oDiv (mV (mOp2 oMod (mV (mOp2 oMul (mVar 3) (mV (mOp2 oAdd (mV (mOp2 oDiv (mVar 3) (M.ret (.t (.int 2011))))) (M.ret (.t (.int 40693))))))) (M.ret (.t (.int 2147483549))))) (M.ret (.t (.int 5))))) (mVar 1))))))))
def m_pick : Mir := runD 2 ((sRet (mZ (mV (mOp2 oIxL (mVar 1) (mV (mCall 2 m_draw (mCons (mVar 0) (mCons (mV (mOp oLen (mCons (mVar 1) mNil))) mNil)))))))))
def m_part : Mir := runD 6 ((sSeq (sSet 3 (mO (mComp [5] (mItL (mVar 1)) (gN 5) (mB (mV (mOp2 (oEq false) (mV (mCall 2 m_draw (mCons (mVar 0) (mCons (mVar 2) mNil)))) (M.ret (.t (.int 0)))))) (mVar 5))))
      (sSeq (sSet 4 (mO (mOp oDisp mNil)))
      (sSeq (sWhile (mB (mV (mOp2 (oEq true) (mVar 3) (mT (mOp oDisp mNil)))))
      (sDrop (mMeth oAppend (mVar 4) (mCons (mV (mMeth oPopAt (mVar 3) (mCons (mV (mCall 2 m_draw (mCons (mVar 0) (mCons (mV (mOp oLen (mCons (mVar 3) mNil))) mNil)))) mNil))) mNil))))
      (sRet (mZ (mVar 4)))))))
def m_spelled : Mir := runD 8 ((sSeq (sSet 2 (M.ret (.t (.str "abcdefghijklmnopqrstuvwxyz"))))
      (sSeq (sSet 3 (mV (mCall 2 m_draw (mCons (mVar 0) (mCons (M.ret (.t (.int 26))) mNil)))))
      (sSeq (sSet 4 (mO (mOp oDisp mNil)))
      (sSeq (sFor (mRng1 (mCons (mVar 1) mNil)) (gN 5)
      (sSeq (sSet 6 (M.ret (.t (.str ""))))
      (sSeq (sFor (mRng1 (mCons (mV (mCall 2 m_pick (mCons (mVar 0) (mCons (mT (mIf (mB (mV (mOp2 oLt (mVar 5) (M.ret (.t (.int 26)))))) (mOp oDisp (mCons (M.ret (.t (.int 0))) (mCons (M.ret (.t (.int 1))) (mCons (M.ret (.t (.int 1))) (mCons (M.ret (.t (.int 2))) (mCons (M.ret (.t (.int 11))) mNil)))))) (mOp oDisp (mCons (M.ret (.t (.int 3))) (mCons (M.ret (.t (.int 4))) (mCons (M.ret (.t (.int 5))) mNil)))))) mNil)))) mNil)) (gN 7)
      (sSet 6 (mV (mOp2 oAddS (mVar 6) (mV (mOp2 oIxS (mVar 2) (mV (mCall 2 m_draw (mCons (mVar 0) (mCons (M.ret (.t (.int 26))) mNil))))))))))
      (sDrop (mMeth oAppend (mVar 4) (mCons (mV (mOp2 oAddS (mVar 6) (mV (mOp2 oIxS (mVar 2) (mV (mOp2 oMod (mV (mOp2 oAdd (mVar 3) (mV (mOp2 oMul (M.ret (.t (.int 7))) (mVar 5))))) (M.ret (.t (.int 26))))))))) mNil))))))
      (sRet (mZ (mVar 4))))))))
def m_library : Mir := runD 12 ((sSeq (sSet 5 (mT (mSl oSlL (mT (mCall 3 m_part (mCons (mVar 0) (mCons (mT (mComp [11] (mItL (mVar 2)) (gN 11) (mB (mV (mOp2 (oEq true) (mVar 11) (mVar 1)))) (mVar 11))) (mCons (mV (mCall 2 m_pick (mCons (mVar 0) (mCons (mT (mOp oDisp (mCons (M.ret (.t (.int 2))) (mCons (M.ret (.t (.int 3))) (mCons (M.ret (.t (.int 5))) mNil))))) mNil)))) mNil))))) (M.ret none) (mPart (M.ret (.t (.int 11)))))))
      (sSeq (sIf (mB (mV (mOp2 (oEq false) (mV (mCall 2 m_draw (mCons (mVar 0) (mCons (M.ret (.t (.int 20))) mNil)))) (M.ret (.t (.int 0)))))) (sSeq (sSet 6 (mV (mCall 2 m_draw (mCons (mVar 0) (mCons (mV (mOp2 oAdd (mV (mOp oLen (mCons (mVar 5) mNil))) (M.ret (.t (.int 1))))) mNil)))))
      (sSet 5 (mT (mOp2 oCat (mT (mOp2 oCat (mT (mSl oSlL (mVar 5) (M.ret none) (mPart (mVar 6)))) (mT (mOp oDisp (mCons (mVar 3) mNil))))) (mT (mSl oSlL (mVar 5) (mPart (mVar 6)) (M.ret none))))))) sNx)
      (sSeq (sIf (mB (mV (mOp2 (oEq false) (mVar 1) (mV (mOp2 oIxL (mVar 2) (M.ret (.t (.int 0)))))))) (sSet 5 (mT (mOp oDisp mNil))) sNx)
      (sSeq (sSet 7 (mT (mCall 3 m_part (mCons (mVar 0) (mCons (mVar 4) (mCons (mV (mCall 2 m_pick (mCons (mVar 0) (mCons (mT (mOp oDisp (mCons (M.ret (.t (.int 1))) (mCons (M.ret (.t (.int 2))) (mCons (M.ret (.t (.int 3))) mNil))))) mNil)))) mNil))))))
      (sSeq (sSet 8 (mT (mCall 3 m_part (mCons (mVar 0) (mCons (mVar 4) (mCons (M.ret (.t (.int 2))) mNil))))))
      (sSeq (sSet 9 (mT (mCall 3 m_part (mCons (mVar 0) (mCons (mVar 8) (mCons (M.ret (.t (.int 3))) mNil))))))
      (sSeq (sSet 10 (mV (mOp oTup (mCons (mV (mOp2 (oEq false) (mV (mCall 2 m_draw (mCons (mVar 0) (mCons (M.ret (.t (.int 4))) mNil)))) (M.ret (.t (.int 0))))) (mCons (mV (mOp2 (oEq false) (mV (mCall 2 m_draw (mCons (mVar 0) (mCons (M.ret (.t (.int 3))) mNil)))) (M.ret (.t (.int 0))))) mNil)))))
      (sRet (mOp2 oCatU (mV (mOp oTup (mCons (mV (mOp oTupOf (mCons (mVar 5) mNil))) (mCons (mV (mOp oTupOf (mCons (mVar 7) mNil))) (mCons (mV (mOp oTupOf (mCons (mVar 8) mNil))) (mCons (mV (mOp oTupOf (mCons (mVar 9) mNil))) mNil)))))) (mVar 10)))))))))))
def m_libraries : Mir := runD 6 ((sSeq (sSet 3 (mT (mCall 2 m_spelled (mCons (mVar 0) (mCons (mV (mOp2 oAdd (M.ret (.t (.int 3))) (mV (mCall 2 m_draw (mCons (mVar 0) (mCons (mV (mOp2 oSub (mVar 1) (M.ret (.t (.int 1))))) mNil)))))) mNil)))))
      (sSeq (sSet 4 (mO (fun s => some (.ok (.n (.dic [])) s.g))))
      (sSeq (sFor (mItL (mT (mSl oSlL (mVar 3) (M.ret none) (mPart (mV (mOp oNeg (mCons (M.ret (.t (.int 1))) mNil))))))) (gN 5)
      (sDPut (mVar 4) (mVar 5) (mV (mCall 5 m_library (mCons (mVar 0) (mCons (mVar 5) (mCons (mT (mSl oSlL (mVar 3) (M.ret none) (mPart (mV (mOp oNeg (mCons (M.ret (.t (.int 1))) mNil)))))) (mCons (mV (mOp2 oIxL (mVar 3) (mV (mOp oNeg (mCons (M.ret (.t (.int 1))) mNil))))) (mCons (mVar 2) mNil)))))))))
      (sRet (mOp oTup (mCons (mTD (mZ (mVar 4))) (mCons (mV (mOp2 oIxL (mVar 3) (mV (mOp oNeg (mCons (M.ret (.t (.int 1))) mNil))))) mNil))))))))
def m_stored : Mir := runD 8 ((sSeq (sSet 1 (mO (mOp oDisp mNil)))
      (sSeq (sFor (mItems (mVar 0)) (gT (gsCons (gN 2) (gsCons (gN 3) gsNil)))
      (sSeq (sUnp (mV (mSl oSlU (mVar 3) (M.ret none) (mPart (M.ret (.t (.int 4)))))) (gT (gsCons (gN 4) (gsCons (gN 5) (gsCons (gN 6) (gsCons (gN 7) gsNil))))))
      (sDrop (mMeth oAppend (mVar 1) (mCons (mV (mMkLib (mCons (mVar 2) mNil) (mCons (mVar 4) (mCons (mVar 5) (mCons (mVar 6) (mCons (mVar 7) (mCons (mV (mOp2 oIxU (mVar 3) (M.ret (.t (.int 4))))) (mCons (mV (mOp2 oIxU (mVar 3) (M.ret (.t (.int 5))))) mNil)))))))) mNil)))))
      (sRet (mMkSto (mCons (mT (mZ (mVar 1))) mNil))))))
def m_closed : Mir := runD 5 ((sSeq (sUnp (mV (mOp oTup (mCons (mT (mOp oDisp (mCons (mVar 1) mNil))) (mCons (M.ret (.t (.int 0))) mNil)))) (gT (gsCons (gN 2) (gsCons (gN 3) gsNil))))
      (sSeq (sWhile (mB (mV (mOp2 oLt (mVar 3) (mV (mOp oLen (mCons (mVar 2) mNil))))))
      (sSeq (sIf (mB (mV (mOp2 (oDIn true) (mV (mOp2 oIxL (mVar 2) (mVar 3))) (mVar 0)))) (sRet (mZ (M.ret (.t .non)))) sNx)
      (sSeq (sSet 2 (mT (mOp2 oCat (mVar 2) (mT (mComp [4] (mItU (mV (mOp2 oIxU (mV (mOp2 oDGet (mVar 0) (mV (mOp2 oIxL (mVar 2) (mVar 3))))) (M.ret (.t (.int 0)))))) (gN 4) (mB (mV (mOp2 (oIn true) (mVar 4) (mVar 2)))) (mVar 4))))))
      (sSet 3 (mV (mOp2 oAdd (mVar 3) (M.ret (.t (.int 1)))))))))
      (sRet (mZ (mVar 2))))))
def m_complete : Mir := runD 2 ((sRet (mComp [1] (mKeys (mVar 0)) (gN 1) (mB (mV (mIsN true (mT (mCall 2 m_closed (mCons (mVar 0) (mCons (mVar 1) mNil))))))) (mVar 1))))
def m_wishes : Mir := runD 7 ((sSeq (sSet 3 (mO (fun s => some (.ok (.n (.dic [])) s.g))))
      (sSeq (sFor (mItL (mT (mCall 3 m_part (mCons (mVar 0) (mCons (mVar 2) (mCons (mV (mCall 2 m_pick (mCons (mVar 0) (mCons (mT (mOp oDisp (mCons (M.ret (.t (.int 1))) (mCons (M.ret (.t (.int 2))) mNil)))) mNil)))) mNil)))))) (gN 4)
      (sSeq (sSet 5 (mT (mComp [6] (mKeys (mVar 1)) (gN 6) (mB (mV (mOp2 (oIn false) (mVar 4) (mV (mOp2 oIxU (mV (mOp2 oDGet (mVar 1) (mVar 6))) (M.ret (.t (.int 1)))))))) (mVar 6))))
      (sDPut (mVar 3) (mVar 4) (mV (mCall 2 m_pick (mCons (mVar 0) (mCons (mT (mOp2 oCat (mT (mOp2 oRep (mVar 5) (M.ret (.t (.int 4))))) (mT (mOp oListD (mCons (mVar 1) mNil))))) mNil)))))))
      (sRet (mZ (mVar 3))))))
def m_reason : Mir := runD 6 ((sSeq (sSet 3 (mT (mComp [5] (mItL (mT (mOp oSortedD (mCons (mVar 2) mNil)))) (gN 5) (mB (mV (mOp2 (oIn true) (mVar 5) (mV (mOp2 oIxU (mV (mOp2 oDGet (mVar 0) (mV (mOp2 oDGet (mVar 2) (mVar 5))))) (M.ret (.t (.int 1)))))))) (mVar 5))))
      (sSeq (sIf (mB (mV (mOp2 (oEq true) (mVar 3) (mT (mOp oDisp mNil))))) (sRet (mOp oTup (mCons (M.ret (.t (.str "undefined"))) (mCons (mV (mOp2 oIxL (mVar 3) (M.ret (.t (.int 0))))) mNil)))) sNx)
      (sSeq (sSet 4 (mT (mComp [5] (mItL (mT (mOp oSortedD (mCons (mVar 2) mNil)))) (gN 5) (mAnd (mB (mV (mOp2 (oEq true) (mV (mOp2 oDGet (mVar 2) (mVar 5))) (mVar 1)))) (mB (mV (mOp2 (oIn false) (mVar 5) (mV (mOp2 oIxU (mV (mOp2 oDGet (mVar 0) (mVar 1))) (M.ret (.t (.int 1))))))))) (mVar 5))))
      (sRet (mIf (mB (mV (mOp2 (oEq true) (mVar 4) (mT (mOp oDisp mNil))))) (mOp oTup (mCons (M.ret (.t (.str "main"))) (mCons (mV (mOp2 oIxL (mVar 4) (M.ret (.t (.int 0))))) mNil))) (mZ (M.ret (.t .non)))))))))
def m_right : Mir := runD 11 ((sSeq (sSet 3 (mV (mCall 2 m_pick (mCons (mVar 0) (mCons (mT (mCall 1 m_complete (mCons (mVar 1) mNil))) mNil)))))
      (sSeq (sSet 4 (mO (mCall 3 m_wishes (mCons (mVar 0) (mCons (mVar 1) (mCons (mVar 2) mNil))))))
      (sSeq (sFor (mRng1 (mCons (mV (mCall 2 m_draw (mCons (mVar 0) (mCons (M.ret (.t (.int 3))) mNil)))) mNil)) (gN 5)
      (sSeq (sSet 6 (mV (mCall 2 m_pick (mCons (mVar 0) (mCons (mVar 2) mNil)))))
      (sSeq (sSet 7 (mT (mComp [10] (mKeys (mVar 1)) (gN 10) (mB (mV (mOp2 (oIn false) (mVar 6) (mV (mOp2 oIxU (mV (mOp2 oDGet (mVar 1) (mVar 10))) (M.ret (.t (.int 1)))))))) (mVar 10))))
      (sDPut (mVar 4) (mVar 6) (mV (mCall 2 m_pick (mCons (mVar 0) (mCons (mT (mOp oDisp (mCons (mVar 3) (mCons (mV (mCall 2 m_pick (mCons (mVar 0) (mCons (mT (mOp oListD (mCons (mVar 1) mNil))) mNil)))) (mCons (mV (mCall 2 m_pick (mCons (mVar 0) (mCons (mT (mOp2 oCat (mVar 7) (mT (mOp oDisp (mCons (mVar 3) mNil))))) mNil)))) mNil))))) mNil))))))))
      (sSeq (sPar 8 9 (mCons (mV (mCall 3 m_least_preloads (mCons (mV (mCall 1 m_stored (mCons (mVar 1) mNil))) (mCons (mVar 3) (mCons (mTD (mOp oDictD (mCons (mVar 4) mNil))) mNil))))) (mCons (mV (mCall 3 m_reason (mCons (mVar 1) (mCons (mVar 3) (mCons (mTD (mZ (mVar 4))) mNil))))) mNil)))
      (sSeq (sIf (mB (mV (mIsN false (mVar 9)))) (sRet (mOp2 (oIn false) (mV (mOp2 oIxU (mVar 8) (M.ret (.t (.int 0))))) (mV (mOp oTup (mCons (M.ret (.t (.str "order"))) (mCons (M.ret (.t (.str "ring"))) mNil)))))) sNx)
      (sRet (mOp2 (oEq false) (mVar 8) (mVar 9)))))))))
def m_law : Mir := runD 6 ((sSeq (sFor (mItL (mT (mOp2 oCat (mT (mOp oDisp (mCons (mV (mCall 2 m_cell_at (mCons (mVar 0) (mCons (M.ret (.t (.int 0))) mNil)))) mNil))) (mT (mSl oSlL (mVar 0) (mPart (M.ret (.t (.int 1)))) (mPart (M.ret (.t (.int 5))))))))) (gN 1)
      (sSeq (sSet 2 (mO (mCall 1 m_begin (mCons (mVar 1) mNil))))
      (sSeq (sSet 3 (mT (mCall 2 m_spelled (mCons (mVar 2) (mCons (mV (mOp2 oAdd (M.ret (.t (.int 1))) (mV (mCall 2 m_draw (mCons (mVar 2) (mCons (M.ret (.t (.int 8))) mNil)))))) mNil)))))
      (sSeq (sSet 4 (mV (mOp2 oIxU (mV (mCall 3 m_libraries (mCons (mVar 2) (mCons (M.ret (.t (.int 9))) (mCons (mVar 3) mNil))))) (M.ret (.t (.int 0))))))
      (sFor (mRng1 (mCons (M.ret (.t (.int 4))) mNil)) (gN 5)
      (sIf (mNot (mB (mV (mCall 3 m_right (mCons (mVar 2) (mCons (mVar 4) (mCons (mVar 3) mNil))))))) (sRet (mZ (M.ret (.t (.bl false))))) sNx))))))
      (sRet (mZ (M.ret (.t (.bl true)))))))
end Mf


set_option Elab.async false
set_option linter.all false
set_option maxRecDepth 100000
set_option maxHeartbeats 4000000
namespace Mf
open PySem PySem.Spec PyProof.Rows L2 Sb
/-! ### what a mirror does: weakest preconditions -/
abbrev EP := Str → T → List Obj → Prop
def WE {α : Type} (f : M α) (s : St) (Q : α → List Obj → Prop) (E : EP) : Prop := match f s with
  | none => False
  | some (.er c t g) => E c t g
  | some (.ok a g) => Q a g
section
variable {α β : Type} {s : St} {E : EP} {sl : List SV} {g : List Obj}
theorem WE.mono {f : M α} {Q Q' : α → List Obj → Prop} {E' : EP} (h : WE f s Q E) (h1 : ∀ a g, Q a g → Q' a g) (h2 : ∀ c t g, E c t g → E' c t g) : WE f s Q' E' := by
  unfold WE at h ⊢
  cases e : f s with
  | none => rw [e] at h; exact h.elim
  | some o => cases o with
    | er c t g => rw [e] at h; exact h2 _ _ _ h
    | ok a g => rw [e] at h; exact h1 _ _ h
theorem w_bind {f : M α} {k : α → M β} {Q : β → List Obj → Prop} : WE (f.bind k) s Q E = WE f s (fun a g => WE (k a) ⟨s.sl, g⟩ Q E) E := by
  unfold WE M.bind
  cases e : f s with
  | none => rfl
  | some o => cases o with
    | er c t g => rfl
    | ok a g => rfl
theorem w_ret {a : α} {Q : α → List Obj → Prop} : WE (M.ret a) s Q E = Q a s.g := rfl
theorem w_fn {F : St → Option (O α)} {Q : α → List Obj → Prop} : WE F ⟨sl, g⟩ Q E = (match F ⟨sl, g⟩ with
  | none => False
  | some (.er c t g) => E c t g
  | some (.ok a g) => Q a g) := rfl
def slQ (x : Option SV) (Q : SV → Prop) : Prop := match x with
  | some (.t t) => Q (.t t)
  | some (.o i) => Q (.o i)
  | _ => False
theorem w_var {i : Nat} {Q : SV → List Obj → Prop} : WE (mVar i) ⟨sl, g⟩ Q E = slQ sl[i]? fun x => Q x g := by
  unfold WE mVar slQ
  dsimp only
  cases sl[i]? with
  | none => rfl
  | some x => cases x <;> rfl
theorem slQ_t {t : T} {Q : SV → Prop} : slQ (some (.t t)) Q = Q (.t t) := rfl
theorem slQ_o {i : Nat} {Q : SV → Prop} : slQ (some (.o i)) Q = Q (.o i) := rfl
theorem get0 {γ : Type} {a : γ} {l : List γ} : (a :: l)[0]? = some a := rfl
theorem getS {γ : Type} {a : γ} {l : List γ} {n : Nat} : (a :: l)[n + 1]? = l[n]? := rfl
theorem set0 {γ : Type} {a b : γ} {l : List γ} : (a :: l).set 0 b = b :: l := rfl
theorem setS {γ : Type} {a b : γ} {l : List γ} {n : Nat} : (a :: l).set (n + 1) b = a :: l.set n b := rfl
/-! #### coercions -/
def trQ (z : RZ) (g : List Obj) (Q : SV → List Obj → Prop) : Prop := match z with
  | .v (.t t) => Q (.t t) g
  | .v (.o i) => match g[i]? with
    | some (.lst xs) => Q (.t (.lst xs)) (g.set i (.frz (.lst xs)))
    | some (.frz t) => Q (.t t) g
    | _ => False
  | .n (.lst xs) => Q (.t (.lst xs)) g
  | _ => False
theorem w_T {f : M RZ} {Q : SV → List Obj → Prop} : WE (mT f) s Q E = WE f s (fun z g => trQ z g Q) E := by
  unfold mT
  rw [w_bind]
  congr
  funext z g
  cases z with
  | v x => cases x with
    | un => rfl
    | t t => rfl
    | o i =>
      unfold WE trQ
      dsimp only
      cases g[i]? with
      | none => rfl
      | some o => cases o <;> rfl
  | n o => cases o <;> rfl
theorem trQ_t {t : T} {Q : SV → List Obj → Prop} : trQ (.v (.t t)) g Q = Q (.t t) g := rfl
theorem trQ_n {xs : List T} {Q : SV → List Obj → Prop} : trQ (.n (.lst xs)) g Q = Q (.t (.lst xs)) g := rfl
def objQ (z : RZ) (g : List Obj) (Q : SV → List Obj → Prop) : Prop := match z with
  | .v x => Q x g
  | .n o => Q (.o g.length) (g ++ [o])
theorem w_O {f : M RZ} {Q : SV → List Obj → Prop} : WE (mO f) s Q E = WE f s (fun z g => objQ z g Q) E := by
  unfold mO
  rw [w_bind]
  congr
  funext z g
  cases z <;> rfl
theorem objQ_v {x : SV} {Q : SV → List Obj → Prop} : objQ (.v x) g Q = Q x g := rfl
theorem objQ_n {o : Obj} {Q : SV → List Obj → Prop} : objQ (.n o) g Q = Q (.o g.length) (g ++ [o]) := rfl
def valQ (z : RZ) (g : List Obj) (Q : SV → List Obj → Prop) : Prop := match z with
  | .v x => Q x g
  | .n _ => False
theorem w_V {f : M RZ} {Q : SV → List Obj → Prop} : WE (mV f) s Q E = WE f s (fun z g => valQ z g Q) E := by
  unfold mV
  rw [w_bind]
  congr
  funext z g
  cases z <;> rfl
theorem valQ_v {x : SV} {Q : SV → List Obj → Prop} : valQ (.v x) g Q = Q x g := rfl
theorem w_Z {f : M SV} {Q : RZ → List Obj → Prop} : WE (mZ f) s Q E = WE f s (fun x g => Q (.v x) g) E := by
  unfold mZ
  rw [w_bind]
  rfl
def sealQ (z : RZ) (g : List Obj) (Q : SV → List Obj → Prop) : Prop := match z with
  | .v (.o i) => match g[i]? with
    | some (.dic xs) => Q (.t (.dic xs)) (g.set i (.frz (.dic xs)))
    | _ => False
  | .n (.dic xs) => Q (.t (.dic xs)) g
  | _ => False
theorem w_TD {f : M RZ} {Q : SV → List Obj → Prop} : WE (mTD f) s Q E = WE f s (fun z g => sealQ z g Q) E := by
  unfold mTD
  rw [w_bind]
  congr
  funext z g
  cases z with
  | v x => cases x with
    | un => rfl
    | t t => rfl
    | o i =>
      unfold WE sealQ
      dsimp only
      cases g[i]? with
      | none => rfl
      | some o => cases o <;> rfl
  | n o => cases o <;> rfl
theorem sealQ_n {xs : List (Key × T)} {Q : SV → List Obj → Prop} : sealQ (.n (.dic xs)) g Q = Q (.t (.dic xs)) g := rfl
/-! #### arguments, operations -/
theorem w_nil {Q : List SV → List Obj → Prop} : WE mNil s Q E = Q [] s.g := rfl
theorem w_cons {f : M SV} {k : M (List SV)} {Q : List SV → List Obj → Prop} : WE (mCons f k) s Q E = WE f s (fun x g => WE k ⟨s.sl, g⟩ (fun xs g => Q (x :: xs) g) E) E := by
  unfold mCons
  rw [w_bind]
  congr
  funext x g
  rw [w_bind]
  rfl
def opQ (o : Option (RZ × List Obj)) (Q : RZ → List Obj → Prop) : Prop := match o with
  | none => False
  | some (z, g) => Q z g
theorem opQ_some {z : RZ} {g : List Obj} {Q : RZ → List Obj → Prop} : opQ (some (z, g)) Q = Q z g := rfl
theorem w_op {op : VO} {f : M (List SV)} {Q : RZ → List Obj → Prop} : WE (mOp op f) s Q E = WE f s (fun xs g => opQ (op g xs) Q) E := by
  unfold mOp
  rw [w_bind]
  congr
  funext xs g
  unfold WE
  dsimp only
  cases op g xs with
  | none => rfl
  | some z => rfl
theorem w_op2 {op : VO} {fa fb : M SV} {Q : RZ → List Obj → Prop} : WE (mOp2 op fa fb) s Q E = WE fa s (fun x g => WE fb ⟨s.sl, g⟩ (fun y g => opQ (op g [x, y]) Q) E) E := by
  unfold mOp2
  rw [w_op, w_cons]
  congr
  funext x g
  rw [w_cons]
  rfl
/-! #### tests -/
def blQ (x : SV) (Q : Bool → Prop) : Prop := match x with
  | .t (.bl b) => Q b
  | _ => False
theorem blQ_b {b : Bool} {Q : Bool → Prop} : blQ (.t (.bl b)) Q = Q b := rfl
theorem w_B {f : M SV} {Q : Bool → List Obj → Prop} : WE (mB f) s Q E = WE f s (fun x g => blQ x fun b => Q b g) E := by
  unfold mB
  rw [w_bind]
  congr
  funext x g
  cases x with
  | un => rfl
  | o i => rfl
  | t t => cases t <;> rfl
theorem w_and {c d : M Bool} {Q : Bool → List Obj → Prop} : WE (mAnd c d) s Q E = WE c s (fun b g => if b = true then WE d ⟨s.sl, g⟩ Q E else Q false g) E := by
  unfold mAnd
  rw [w_bind]
  congr
  funext b g
  cases b <;> rfl
theorem w_or {c d : M Bool} {Q : Bool → List Obj → Prop} : WE (mOr c d) s Q E = WE c s (fun b g => if b = true then Q true g else WE d ⟨s.sl, g⟩ Q E) E := by
  unfold mOr
  rw [w_bind]
  congr
  funext b g
  cases b <;> rfl
theorem w_not {c : M Bool} {Q : Bool → List Obj → Prop} : WE (mNot c) s Q E = WE c s (fun b g => Q (!b) g) E := by
  unfold mNot
  rw [w_bind]
  rfl
theorem w_If {c : M Bool} {f k : M α} {Q : α → List Obj → Prop} : WE (mIf c f k) s Q E = WE c s (fun b g => if b = true then WE f ⟨s.sl, g⟩ Q E else WE k ⟨s.sl, g⟩ Q E) E := by
  unfold mIf
  rw [w_bind]
  congr
  funext b g
  cases b <;> rfl
theorem w_andV {f k : M SV} {Q : SV → List Obj → Prop} : WE (mAndV f k) s Q E = WE f s (fun x g => blQ x fun b => if b = true then WE k ⟨s.sl, g⟩ Q E else Q (.t (.bl false)) g) E := by
  unfold mAndV
  rw [w_bind]
  congr
  funext x g
  cases x with
  | un => rfl
  | o i => rfl
  | t t => cases t with
    | bl b => cases b <;> rfl
    | _ => rfl
theorem w_orV {f k : M SV} {Q : SV → List Obj → Prop} : WE (mOrV f k) s Q E = WE f s (fun x g => blQ x fun b => if b = true then Q (.t (.bl true)) g else WE k ⟨s.sl, g⟩ Q E) E := by
  unfold mOrV
  rw [w_bind]
  congr
  funext x g
  cases x with
  | un => rfl
  | o i => rfl
  | t t => cases t with
    | bl b => cases b <;> rfl
    | _ => rfl
theorem w_notV {f : M SV} {Q : SV → List Obj → Prop} : WE (mNotV f) s Q E = WE f s (fun x g => blQ x fun b => Q (.t (.bl (!b))) g) E := by
  unfold mNotV
  rw [w_bind]
  congr
  funext x g
  cases x with
  | un => rfl
  | o i => rfl
  | t t => cases t <;> rfl
def opt {γ : Type} (x : Option γ) (Q : γ → Prop) : Prop := match x with
  | some a => Q a
  | none => False
theorem opt_some {γ : Type} {a : γ} {Q : γ → Prop} : opt (some a) Q = Q a := rfl
theorem opt_of {γ : Type} {x : Option γ} {a : γ} {Q : γ → Prop} (e : x = some a) (h : Q a) : opt x Q := by rw [e]; exact h
theorem w_tru {f : M SV} {Q : Bool → List Obj → Prop} : WE (mTru f) s Q E = WE f s (fun x g => opt (truV g x) fun b => Q b g) E := by
  unfold mTru
  rw [w_bind]
  congr
  funext x g
  unfold WE opt
  dsimp only
  cases truV g x <;> rfl
def isNQ (x : SV) (neg : Bool) (Q : Bool → Prop) : Prop := match x with
  | .t .non => Q (!neg)
  | .t _ => Q neg
  | .o _ => Q neg
  | .un => False
theorem w_isN {neg : Bool} {f : M SV} {Q : RZ → List Obj → Prop} : WE (mIsN neg f) s Q E = WE f s (fun x g => isNQ x neg fun b => Q (.v (.t (.bl b))) g) E := by
  unfold mIsN
  rw [w_bind]
  congr
  funext x g
  cases x with
  | un => rfl
  | o i => rfl
  | t t => cases t <;> rfl
theorem w_isi {n : String} {f : M SV} {Q : RZ → List Obj → Prop} : WE (mIsi n f) s Q E = WE f s (fun x g => opt (kindV g x) fun m => opt (kitB m n) fun b => Q (.v (.t (.bl b))) g) E := by
  unfold mIsi
  rw [w_bind]
  congr
  funext x g
  unfold WE opt
  dsimp only
  cases kindV g x with
  | none => rfl
  | some m =>
    dsimp only
    cases kitB m n <;> rfl
/-! #### statements -/
def flQ (fl : Fl) (g : List Obj) (Qn : List SV → List Obj → Prop) (Qr : RZ → List Obj → Prop) : Prop := match fl with
  | .nx sl => Qn sl g
  | .rt z => Qr z g
/-- a statement, with two ends -/
def WS (f : M Fl) (sl : List SV) (g : List Obj) (Qn : List SV → List Obj → Prop) (Qr : RZ → List Obj → Prop) (E : EP) : Prop := WE f ⟨sl, g⟩ (fun fl g => flQ fl g Qn Qr) E
variable {Qn : List SV → List Obj → Prop} {Qr : RZ → List Obj → Prop}
theorem WS.mono {f : M Fl} {Qn' : List SV → List Obj → Prop} {Qr' : RZ → List Obj → Prop} {E' : EP} (h : WS f sl g Qn Qr E) (h1 : ∀ sl g, Qn sl g → Qn' sl g) (h2 : ∀ z g, Qr z g → Qr' z g) (h3 : ∀ c t g, E c t g → E' c t g) : WS f sl g Qn' Qr' E' :=
  WE.mono h (fun a g h => by
    cases a with
    | nx sl => exact h1 _ _ h
    | rt z => exact h2 _ _ h) h3
theorem s_nx : WS sNx sl g Qn Qr E = Qn sl g := rfl
theorem s_seq {f k : M Fl} : WS (sSeq f k) sl g Qn Qr E = WS f sl g (fun sl g => WS k sl g Qn Qr E) Qr E := by
  unfold WS WE sSeq
  cases f ⟨sl, g⟩ with
  | none => rfl
  | some o => cases o with
    | er c t g => rfl
    | ok a g => cases a <;> rfl
theorem s_ret {f : M RZ} : WS (sRet f) sl g Qn Qr E = WE f ⟨sl, g⟩ Qr E := by
  unfold WS sRet
  rw [w_bind]
  rfl
theorem s_retN : WS (M.ret (.rt (.v (.t .non)))) sl g Qn Qr E = Qr (.v (.t .non)) g := rfl
theorem s_drop {f : M RZ} : WS (sDrop f) sl g Qn Qr E = WE f ⟨sl, g⟩ (fun _ g => Qn sl g) E := by
  unfold WS sDrop
  rw [w_bind]
  rfl
theorem s_if {c : M Bool} {f k : M Fl} : WS (sIf c f k) sl g Qn Qr E = WE c ⟨sl, g⟩ (fun b g => if b = true then WS f sl g Qn Qr E else WS k sl g Qn Qr E) E := by
  unfold WS sIf
  rw [w_bind]
  congr
  funext b g
  cases b <;> rfl
theorem s_set {i : Nat} {f : M SV} : WS (sSet i f) sl g Qn Qr E = WE f ⟨sl, g⟩ (fun x g => Qn (sl.set i x) g) E := by
  unfold WS sSet
  rw [w_bind]
  rfl
def args2Q (xs : List SV) (Q : SV → SV → Prop) : Prop := match xs with
  | [x, y] => Q x y
  | _ => False
theorem s_par {i j : Nat} {f : M (List SV)} : WS (sPar i j f) sl g Qn Qr E = WE f ⟨sl, g⟩ (fun xs g => args2Q xs fun x y => Qn ((sl.set i x).set j y) g) E := by
  unfold WS sPar
  rw [w_bind]
  congr
  funext xs g
  match xs with
  | [] => rfl
  | [_] => rfl
  | [_, _] => rfl
  | _ :: _ :: _ :: _ => rfl
theorem args2Q_is {x y : SV} {Q : SV → SV → Prop} : args2Q [x, y] Q = Q x y := rfl
def augQ (x : Option SV) (Q : T → Prop) : Prop := match x with
  | some (.t t) => Q t
  | _ => False
theorem augQ_t {t : T} {Q : T → Prop} : augQ (some (.t t)) Q = Q t := rfl
theorem s_aug {i : Nat} {op : VO} {f : M SV} : WS (sAug i op f) sl g Qn Qr E = augQ sl[i]? fun t => WE f ⟨sl, g⟩ (fun y g => opQ (op g [.t t, y]) fun z g => match z with
  | .v x => Qn (sl.set i x) g
  | .n _ => False) E := by
  unfold WS WE sAug augQ
  dsimp only
  cases sl[i]? with
  | none => rfl
  | some x => cases x with
    | un => rfl
    | o i => rfl
    | t t =>
      dsimp only [M.bind]
      cases f ⟨sl, g⟩ with
      | none => rfl
      | some o => cases o with
        | er c t g => rfl
        | ok y g =>
          dsimp only
          cases op g [.t t, y] with
          | none => rfl
          | some z =>
            obtain ⟨z, g⟩ := z
            cases z <;> rfl
def treeQ (x : SV) (Q : T → Prop) : Prop := match x with
  | .t t => Q t
  | _ => False
theorem treeQ_t {t : T} {Q : T → Prop} : treeQ (.t t) Q = Q t := rfl
theorem s_unp {f : M SV} {ft : Im → List SV → Option (List SV)} : WS (sUnp f ft) sl g Qn Qr E = WE f ⟨sl, g⟩ (fun x g => treeQ x fun t => opt (ft (.one t) sl) fun sl => Qn sl g) E := by
  unfold WS sUnp
  rw [w_bind]
  congr
  funext x g
  cases x with
  | un => rfl
  | o i => rfl
  | t t =>
    unfold WE treeQ opt
    dsimp only
    cases ft (.one t) sl <;> rfl
theorem s_raise {c : Str} {f : M SV} : WS (sRaise c f) sl g Qn Qr E = WE f ⟨sl, g⟩ (fun x g => treeQ x fun t => E c t g) E := by
  unfold WS sRaise
  rw [w_bind]
  congr
  funext x g
  cases x <;> rfl
def setIxQ (t x y : SV) (g : List Obj) (Q : List Obj → Prop) : Prop := match t, x, y with
  | .t t, .o n, .t (.int k) => match lstAt g n with
    | some ts => match ixN ts.length k with
      | some j => Q (g.set n (.lst (ts.set j t)))
      | none => False
    | none => False
  | _, _, _ => False
theorem s_setIx {f o i : M SV} : WS (sSetIx f o i) sl g Qn Qr E = WE f ⟨sl, g⟩ (fun t g => WE o ⟨sl, g⟩ (fun x g => WE i ⟨sl, g⟩ (fun y g => setIxQ t x y g fun g => Qn sl g) E) E) E := by
  unfold WS sSetIx
  rw [w_bind]
  congr
  funext t g
  rw [w_bind]
  congr
  funext x g
  rw [w_bind]
  congr
  funext y g
  cases t with
  | un => rfl
  | o i => rfl
  | t t => cases x with
    | un => rfl
    | t t => rfl
    | o n => cases y with
      | un => rfl
      | o i => rfl
      | t u => cases u with
        | int k =>
          unfold WE setIxQ
          dsimp only
          cases lstAt g n with
          | none => rfl
          | some ts =>
            dsimp only
            cases ixN ts.length k <;> rfl
        | _ => rfl
def dPutQ (t x y : SV) (g : List Obj) (Q : List Obj → Prop) : Prop := match t, x, y with
  | .t t, .o n, .t u => match dicAt g n with
    | some kvs => match key u with
      | some k => kvs.length < 100000 ∧ Q (g.set n (.dic (putT kvs k t)))
      | none => False
    | none => False
  | _, _, _ => False
theorem s_dPut {fd fk fv : M SV} : WS (sDPut fd fk fv) sl g Qn Qr E = WE fv ⟨sl, g⟩ (fun t g => WE fd ⟨sl, g⟩ (fun x g => WE fk ⟨sl, g⟩ (fun y g => dPutQ t x y g fun g => Qn sl g) E) E) E := by
  unfold WS sDPut
  rw [w_bind]
  congr
  funext t g
  rw [w_bind]
  congr
  funext x g
  rw [w_bind]
  congr
  funext y g
  cases t with
  | un => rfl
  | o i => rfl
  | t t => cases x with
    | un => rfl
    | t t => rfl
    | o n => cases y with
      | un => rfl
      | o i => rfl
      | t u =>
        unfold WE dPutQ
        dsimp only
        cases dicAt g n with
        | none => rfl
        | some kvs =>
          dsimp only
          cases key u with
          | none => rfl
          | some k =>
            dsimp only
            by_cases q : kvs.length < 100000
            · rw [if_pos q, eq_true q, true_and]
              rfl
            · rw [if_neg q, eq_false q, false_and]
end
end Mf


set_option Elab.async false
set_option linter.all false
set_option maxRecDepth 100000
set_option maxHeartbeats 4000000
namespace Mf
open PySem PySem.Spec PyProof.Rows L2 Sb
section
variable {α β : Type} {s : St} {E : EP} {sl : List SV} {g : List Obj} {Qn : List SV → List Obj → Prop} {Qr : RZ → List Obj → Prop}
/-! #### loops -/
theorem s_for {fi : M (List Im)} {ft : Im → List SV → Option (List SV)} {fb : M Fl} : WS (sFor fi ft fb) sl g Qn Qr E = WE fi ⟨sl, g⟩ (fun ims g => WS (loopF ft fb ims) sl g Qn Qr E) E := by
  unfold WS sFor
  rw [w_bind]
theorem s_loop {ft : Im → List SV → Option (List SV)} {fb : M Fl} (I : List Im → List SV → List Obj → Prop) : ∀ {ims : List Im} {sl : List SV} {g : List Obj}, I ims sl g →
    (∀ im r sl g, I (im :: r) sl g → ∃ sl1, ft im sl = some sl1 ∧ WS fb sl1 g (fun sl2 g2 => I r sl2 g2) Qr E) → (∀ sl g, I [] sl g → Qn sl g) → WS (loopF ft fb ims) sl g Qn Qr E
  | [], sl, g, h0, hs, he => he _ _ h0
  | im :: r, sl, g, h0, hs, he => by
    obtain ⟨sl1, e1, h1⟩ := hs im r sl g h0
    unfold WS WE loopF
    dsimp only
    rw [e1]
    dsimp only
    unfold WS WE at h1
    cases e : fb ⟨sl1, g⟩ with
    | none => rw [e] at h1; exact h1.elim
    | some o => cases o with
      | er c t g => rw [e] at h1; exact h1
      | ok a g2 => cases a with
        | rt z => rw [e] at h1; exact h1
        | nx sl2 =>
          rw [e] at h1
          exact s_loop I h1 hs he
theorem s_while {c : M Bool} {fb : M Fl} (I : Nat → List SV → List Obj → Prop) {n : Nat} (hn : n < bigN) (h0 : I n sl g)
    (hs : ∀ n sl g, I n sl g → WE c ⟨sl, g⟩ (fun b g1 => if b = true then WS fb sl g1 (fun sl2 g2 => ∃ m, m < n ∧ I m sl2 g2) Qr E else Qn sl g1) E) : WS (sWhile c fb) sl g Qn Qr E := by
  have go : ∀ (N n : Nat) (sl : List SV) (g : List Obj), n < N → I n sl g → WS (loopW c fb N) sl g Qn Qr E := by
    intro N
    induction N with
    | zero => intro n sl g h; omega
    | succ N ih =>
      intro n sl g hn h0
      have h1 := hs n sl g h0
      unfold WS WE loopW
      unfold WE at h1
      dsimp only
      cases e : c ⟨sl, g⟩ with
      | none => rw [e] at h1; exact h1.elim
      | some o => cases o with
        | er c t g => rw [e] at h1; exact h1
        | ok b g1 => cases b with
          | false => rw [e] at h1; exact h1
          | true =>
            rw [e] at h1
            dsimp only at h1 ⊢
            rw [if_pos rfl] at h1
            unfold WS WE at h1
            cases e2 : fb ⟨sl, g1⟩ with
            | none => rw [e2] at h1; exact h1.elim
            | some o => cases o with
              | er c t g => rw [e2] at h1; exact h1
              | ok a g2 => cases a with
                | rt z => rw [e2] at h1; exact h1
                | nx sl2 =>
                  rw [e2] at h1
                  obtain ⟨m, hm, hI⟩ := h1
                  exact ih m sl2 g2 (by omega) hI
  exact go bigN n sl g hn h0
/-! #### comprehensions -/
/-- the walk of a comprehension -/
def WC (sl0 : List SV) (ft : Im → List SV → Option (List SV)) (fc : M Bool) (fe : M SV) (ims : List Im) (acc : List T) (g : List Obj) (Q : RZ → List Obj → Prop) : Prop := match loopC sl0 ft fc fe ims acc g with
  | some (.ok z g) => Q z g
  | _ => False
theorem w_comp {vs : List Nat} {fi : M (List Im)} {ft : Im → List SV → Option (List SV)} {fc : M Bool} {fe : M SV} {Q : RZ → List Obj → Prop} (h : WE fi s (fun ims g => WC (wipeS s.sl vs) ft fc fe ims [] g Q) E) : WE (mComp vs fi ft fc fe) s Q E := by
  unfold mComp
  rw [w_bind]
  refine h.mono (fun ims g h => ?_) fun _ _ _ h => h
  unfold WC at h
  unfold WE
  dsimp only
  cases e : loopC (wipeS s.sl vs) ft fc fe ims [] g with
  | none => rw [e] at h; exact h.elim
  | some o => cases o with
    | er c t g => rw [e] at h; exact h.elim
    | ok a g => rw [e] at h; exact h
abbrev noE : EP := fun _ _ _ => False
theorem wc_loop {sl0 : List SV} {ft : Im → List SV → Option (List SV)} {fc : M Bool} {fe : M SV} {Q : RZ → List Obj → Prop} (I : List Im → List T → List Obj → Prop) : ∀ {ims : List Im} {acc : List T} {g : List Obj}, I ims acc g →
    (∀ im r acc g, I (im :: r) acc g → ∃ sl1, ft im sl0 = some sl1 ∧ WE fc ⟨sl1, g⟩ (fun b g1 => if b = true then WE fe ⟨sl1, g1⟩ (fun x g2 => treeQ x fun t => acc.length < 100000 ∧ I r (acc ++ [t]) g2) noE else I r acc g1) noE) →
    (∀ acc g, I [] acc g → Q (.n (.lst acc)) g) → WC sl0 ft fc fe ims acc g Q
  | [], acc, g, h0, hs, he => he _ _ h0
  | im :: r, acc, g, h0, hs, he => by
    obtain ⟨sl1, e1, h1⟩ := hs im r acc g h0
    unfold WC loopC
    rw [e1]
    dsimp only
    unfold WE at h1
    cases e : fc ⟨sl1, g⟩ with
    | none => rw [e] at h1; exact h1.elim
    | some o => cases o with
      | er c t g => rw [e] at h1; exact h1.elim
      | ok b g1 =>
        rw [e] at h1
        dsimp only at h1
        cases b with
        | false => exact wc_loop I h1 hs he
        | true =>
          dsimp only
          rw [if_pos rfl] at h1
          cases e2 : fe ⟨sl1, g1⟩ with
          | none => rw [e2] at h1; exact h1.elim
          | some o => cases o with
            | er c t g => rw [e2] at h1; exact h1.elim
            | ok x g2 =>
              rw [e2] at h1
              dsimp only at h1
              cases x with
              | un => exact h1.elim
              | o i => exact h1.elim
              | t t =>
                obtain ⟨h2, h3⟩ := h1
                dsimp only
                rw [if_pos h2]
                exact wc_loop I h3 hs he
/-- a comprehension whose test and item change nothing: filter and map -/
theorem wc_pure {sl0 : List SV} {ft : Im → List SV → Option (List SV)} {fc : M Bool} {fe : M SV} {Q : RZ → List Obj → Prop} {ims : List Im} {g : List Obj} (p : Im → Bool) (e : Im → T) (hl : ims.length ≤ 100000)
    (hs : ∀ im ∈ ims, ∃ sl1, ft im sl0 = some sl1 ∧ WE fc ⟨sl1, g⟩ (fun b g1 => b = p im ∧ g1 = g) noE ∧ (p im = true → WE fe ⟨sl1, g⟩ (fun x g1 => x = .t (e im) ∧ g1 = g) noE))
    (hq : Q (.n (.lst ((ims.filter p).map e))) g) : WC sl0 ft fc fe ims [] g Q := by
  refine wc_loop (fun r acc g1 => g1 = g ∧ ∃ d, ims = d ++ r ∧ acc = (d.filter p).map e) ⟨rfl, [], rfl, rfl⟩ ?_ ?_
  · rintro im r acc g1 ⟨rfl, d, hd, rfl⟩
    obtain ⟨sl1, e1, h1, h2⟩ := hs im (by rw [hd]; simp)
    refine ⟨sl1, e1, h1.mono ?_ fun _ _ _ h => h⟩
    rintro b g2 ⟨rfl, rfl⟩
    cases q : p im with
    | false =>
      rw [if_neg (by simp)]
      exact ⟨rfl, d ++ [im], by simp [hd], by rw [List.filter_append, List.filter_cons_of_neg (by simp [q])]; simp⟩
    | true =>
      rw [if_pos rfl]
      refine (h2 q).mono ?_ fun _ _ _ h => h
      rintro x g3 ⟨rfl, rfl⟩
      refine ⟨?_, rfl, d ++ [im], by simp [hd], by rw [List.filter_append, List.filter_cons_of_pos q]; simp⟩
      rw [List.length_map]
      have l1 := List.length_filter_le p d
      have l2 : ims.length = d.length + (im :: r).length := by rw [hd, List.length_append]
      simp at l2
      omega
  · rintro acc g1 ⟨rfl, d, hd, rfl⟩
    rw [List.append_nil] at hd
    subst hd
    exact hq
def WD (sl0 : List SV) (ft : Im → List SV → Option (List SV)) (fc : M Bool) (fk fv : M SV) (ims : List Im) (acc : List (Key × T)) (g : List Obj) (Q : RZ → List Obj → Prop) : Prop := match loopD sl0 ft fc fk fv ims acc g with
  | some (.ok z g) => Q z g
  | _ => False
theorem w_dcomp {vs : List Nat} {fi : M (List Im)} {ft : Im → List SV → Option (List SV)} {fc : M Bool} {fk fv : M SV} {Q : RZ → List Obj → Prop} (h : WE fi s (fun ims g => WD (wipeS s.sl vs) ft fc fk fv ims [] g Q) E) : WE (mDComp vs fi ft fc fk fv) s Q E := by
  unfold mDComp
  rw [w_bind]
  refine h.mono (fun ims g h => ?_) fun _ _ _ h => h
  unfold WD at h
  unfold WE
  dsimp only
  cases e : loopD (wipeS s.sl vs) ft fc fk fv ims [] g with
  | none => rw [e] at h; exact h.elim
  | some o => cases o with
    | er c t g => rw [e] at h; exact h.elim
    | ok a g => rw [e] at h; exact h
theorem wd_loop {sl0 : List SV} {ft : Im → List SV → Option (List SV)} {fc : M Bool} {fk fv : M SV} {Q : RZ → List Obj → Prop} (I : List Im → List (Key × T) → List Obj → Prop) : ∀ {ims : List Im} {acc : List (Key × T)} {g : List Obj}, I ims acc g →
    (∀ im r acc g, I (im :: r) acc g → ∃ sl1, ft im sl0 = some sl1 ∧ WE fc ⟨sl1, g⟩ (fun b g1 => if b = true then WE fk ⟨sl1, g1⟩ (fun y g2 => treeQ y fun y => opt (key y) fun k => WE fv ⟨sl1, g2⟩ (fun x g3 => treeQ x fun t => acc.length < 100000 ∧ I r (putT acc k t) g3) noE) noE else I r acc g1) noE) →
    (∀ acc g, I [] acc g → Q (.n (.dic acc)) g) → WD sl0 ft fc fk fv ims acc g Q
  | [], acc, g, h0, hs, he => he _ _ h0
  | im :: r, acc, g, h0, hs, he => by
    obtain ⟨sl1, e1, h1⟩ := hs im r acc g h0
    unfold WD loopD
    rw [e1]
    dsimp only
    unfold WE at h1
    cases e : fc ⟨sl1, g⟩ with
    | none => rw [e] at h1; exact h1.elim
    | some o => cases o with
      | er c t g => rw [e] at h1; exact h1.elim
      | ok b g1 =>
        rw [e] at h1
        dsimp only at h1
        cases b with
        | false => exact wd_loop I h1 hs he
        | true =>
          dsimp only
          rw [if_pos rfl] at h1
          cases e2 : fk ⟨sl1, g1⟩ with
          | none => rw [e2] at h1; exact h1.elim
          | some o => cases o with
            | er c t g => rw [e2] at h1; exact h1.elim
            | ok y g2 =>
              rw [e2] at h1
              dsimp only at h1
              cases y with
              | un => exact h1.elim
              | o i => exact h1.elim
              | t y =>
                dsimp only
                have h1 : opt (key y) fun k => WE fv ⟨sl1, g2⟩ (fun x g3 => treeQ x fun t => acc.length < 100000 ∧ I r (putT acc k t) g3) noE := h1
                cases ek : key y with
                | none => rw [ek] at h1; exact h1.elim
                | some k =>
                  rw [ek] at h1
                  have h1 : WE fv ⟨sl1, g2⟩ (fun x g3 => treeQ x fun t => acc.length < 100000 ∧ I r (putT acc k t) g3) noE := h1
                  unfold WE at h1
                  cases e3 : fv ⟨sl1, g2⟩ with
                  | none => rw [e3] at h1; exact h1.elim
                  | some o => cases o with
                    | er c t g => rw [e3] at h1; exact h1.elim
                    | ok x g3 =>
                      rw [e3] at h1
                      cases x with
                      | un => exact h1.elim
                      | o i => exact h1.elim
                      | t t =>
                        obtain ⟨h2, h3⟩ := h1
                        dsimp only
                        rw [if_pos h2]
                        exact wd_loop I h3 hs he
/-! #### what is walked -/
def itLQ (x : SV) (Q : List Im → Prop) : Prop := match x with
  | .t (.lst ts) => Q (ones ts)
  | .t (.scr ns) => Q (ones (ns.map T.int))
  | _ => False
theorem itLQ_l {ts : List T} {Q : List Im → Prop} : itLQ (.t (.lst ts)) Q = Q (ones ts) := rfl
theorem w_itL {f : M SV} {Q : List Im → List Obj → Prop} : WE (mItL f) s Q E = WE f s (fun x g => itLQ x fun ims => Q ims g) E := by
  unfold mItL
  rw [w_bind]
  congr
  funext x g
  cases x with
  | un => rfl
  | o i => rfl
  | t t => cases t <;> rfl
def itUQ (x : SV) (Q : List Im → Prop) : Prop := match x with
  | .t (.tup ts) => Q (ones ts)
  | _ => False
theorem itUQ_u {ts : List T} {Q : List Im → Prop} : itUQ (.t (.tup ts)) Q = Q (ones ts) := rfl
theorem w_itU {f : M SV} {Q : List Im → List Obj → Prop} : WE (mItU f) s Q E = WE f s (fun x g => itUQ x fun ims => Q ims g) E := by
  unfold mItU
  rw [w_bind]
  congr
  funext x g
  cases x with
  | un => rfl
  | o i => rfl
  | t t => cases t <;> rfl
def rngQ (xs : List SV) (Q : Int → Prop) : Prop := match xs with
  | [.t (.int j)] => (-1000000 ≤ j ∧ j ≤ 1000000) ∧ Q j
  | _ => False
theorem rngQ_i {j : Int} {Q : Int → Prop} : rngQ [.t (.int j)] Q = ((-1000000 ≤ j ∧ j ≤ 1000000) ∧ Q j) := rfl
theorem w_rng1 {f : M (List SV)} {Q : List Im → List Obj → Prop} : WE (mRng1 f) s Q E = WE f s (fun xs g => rngQ xs fun j => Q (rangeI 0 j.toNat) g) E := by
  unfold mRng1
  rw [w_bind]
  congr
  funext xs g
  match xs with
  | [] => rfl
  | [.un] => rfl
  | [.o _] => rfl
  | [.t t] => cases t with
    | int j =>
      by_cases q : -1000000 ≤ j ∧ j ≤ 1000000
      · unfold WE rngQ
        dsimp only
        rw [if_pos q, eq_true q, true_and]
      · unfold WE rngQ
        dsimp only
        rw [if_neg q, eq_false q, false_and]
    | _ => rfl
  | .un :: _ :: _ => rfl
  | .o _ :: _ :: _ => rfl
  | .t t :: _ :: _ => cases t <;> rfl
theorem w_keys {f : M SV} {Q : List Im → List Obj → Prop} : WE (mKeys f) s Q E = WE f s (fun x g => opt (frzD g x) fun kvs => Q (keysI kvs) g) E := by
  unfold mKeys
  rw [w_bind]
  congr
  funext x g
  unfold WE opt
  dsimp only
  cases frzD g x <;> rfl
theorem w_items {f : M SV} {Q : List Im → List Obj → Prop} : WE (mItems f) s Q E = WE f s (fun x g => opt (frzD g x) fun kvs => Q (itemsI kvs) g) E := by
  unfold mItems
  rw [w_bind]
  congr
  funext x g
  unfold WE opt
  dsimp only
  cases frzD g x <;> rfl
def zipQ (xs : List SV) (Q : List T → List T → Prop) : Prop := match xs with
  | [.t (.lst a), .t (.lst b)] => Q a b
  | _ => False
theorem zipQ_l {a b : List T} {Q : List T → List T → Prop} : zipQ [.t (.lst a), .t (.lst b)] Q = Q a b := rfl
theorem w_zip {f : M (List SV)} {Q : List Im → List Obj → Prop} (h : WE f s (fun xs g => zipQ xs fun a b => Q (zipI a b) g) E) : WE (mZip f) s Q E := by
  unfold mZip
  rw [w_bind]
  refine h.mono (fun xs g h => ?_) fun _ _ _ h => h
  unfold zipQ at h
  split at h
  · exact h
  · exact h.elim
def enumQ (xs : List SV) (Q : List T → Prop) : Prop := match xs with
  | [.t (.lst a)] => Q a
  | _ => False
theorem enumQ_l {a : List T} {Q : List T → Prop} : enumQ [.t (.lst a)] Q = Q a := rfl
theorem w_enum {f : M (List SV)} {Q : List Im → List Obj → Prop} (h : WE f s (fun xs g => enumQ xs fun a => Q (enumI a) g) E) : WE (mEnum f) s Q E := by
  unfold mEnum
  rw [w_bind]
  refine h.mono (fun xs g h => ?_) fun _ _ _ h => h
  unfold enumQ at h
  split at h
  · exact h
  · exact h.elim
/-! #### libraries, stores, dicts, methods -/
def libQ (x : SV) (Q : Lib → Prop) : Prop := match x with
  | .t (.lib l) => Q l
  | _ => False
theorem libQ_l {l : Lib} {Q : Lib → Prop} : libQ (.t (.lib l)) Q = Q l := rfl
theorem w_libF {f : Str} {k : M SV} {Q : RZ → List Obj → Prop} : WE (mLibF f k) s Q E = WE k s (fun x g => libQ x fun l => opt (fieldL f l) fun t => Q (.v (.t t)) g) E := by
  unfold mLibF
  rw [w_bind]
  congr
  funext x g
  cases x with
  | un => rfl
  | o i => rfl
  | t t => cases t with
    | lib l =>
      unfold WE libQ opt
      dsimp only
      cases fieldL f l <;> rfl
    | _ => rfl
theorem w_mkLib {f k : M (List SV)} {Q : RZ → List Obj → Prop} : WE (mMkLib f k) s Q E = WE f s (fun xs g => WE k ⟨s.sl, g⟩ (fun ys g => opt (mkL xs ys) fun l => l.ok = true ∧ Q (.v (.t (.lib l))) g) E) E := by
  unfold mMkLib
  rw [w_bind]
  congr
  funext xs g
  rw [w_bind]
  congr
  funext ys g
  unfold WE opt
  dsimp only
  cases mkL xs ys with
  | none => rfl
  | some l =>
    dsimp only
    by_cases q : l.ok = true
    · rw [if_pos q, eq_true q, true_and]
    · rw [if_neg q, eq_false q, false_and]
def lstsQ (xs : List SV) (Q : List T → Prop) : Prop := match xs with
  | [.t (.lst ts)] => Q ts
  | _ => False
theorem lstsQ_l {ts : List T} {Q : List T → Prop} : lstsQ [.t (.lst ts)] Q = Q ts := rfl
theorem w_mkSto {f : M (List SV)} {Q : RZ → List Obj → Prop} (h : WE f s (fun xs g => lstsQ xs fun ts => opt (libsOf ts) fun ls => (namesL ls).Nodup ∧ ls.length ≤ 40 ∧ Q (.v (.t (.sto ls))) g) E) : WE (mMkSto f) s Q E := by
  unfold mMkSto
  rw [w_bind]
  refine h.mono (fun xs g h => ?_) fun _ _ _ h => h
  unfold lstsQ at h
  split at h
  · unfold WE
    dsimp only
    rename_i ts
    cases e : libsOf ts with
    | none => rw [e] at h; exact h.elim
    | some ls =>
      rw [e] at h
      obtain ⟨h1, h2, h3⟩ := h
      dsimp only
      rw [if_pos ⟨h1, h2⟩]
      exact h3
  · exact h.elim
/-- s[z] of a text that is a name in s -/
theorem w_getSto {f k : M SV} {Q : RZ → List Obj → Prop} (h : WE f s (fun x g => WE k ⟨s.sl, g⟩ (fun y g => ∃ ls z, x = .t (.sto ls) ∧ y = .t (.str z) ∧ ((z ∉ namesL ls ∧ E "NoName" (.str z) g) ∨ ∃ l, z ∈ namesL ls ∧ findL ls z = some l ∧ Q (.v (.t (.lib l))) g)) E) E) : WE (mGetSto f k) s Q E := by
  unfold mGetSto
  rw [w_bind]
  refine h.mono (fun x g h => ?_) fun _ _ _ h => h
  rw [w_bind]
  refine h.mono (fun y g h => ?_) fun _ _ _ h => h
  obtain ⟨ls, z, rfl, rfl, ⟨h1, h2⟩ | ⟨l, h1, h2, h3⟩⟩ := h
  · unfold WE
    dsimp only [inSto]
    rw [decide_eq_false h1]
    exact h2
  · unfold WE
    dsimp only [inSto]
    rw [decide_eq_true h1]
    dsimp only
    rw [h2]
    exact h3
theorem w_meth {op : VO} {f : M SV} {k : M (List SV)} {Q : RZ → List Obj → Prop} : WE (mMeth op f k) s Q E = WE f s (fun x g => isL g x = true ∧ WE k ⟨s.sl, g⟩ (fun xs g => opQ (op g (x :: xs)) Q) E) E := by
  unfold mMeth
  rw [w_bind]
  congr
  funext x g
  by_cases q : isL g x = true
  · have e : WE (fun s => if isL s.g x = true then (k.bind fun xs s => (op s.g (x :: xs)).map fun z => O.ok z.1 z.2) s else none) ⟨s.sl, g⟩ Q E = WE (k.bind fun xs s => (op s.g (x :: xs)).map fun z => O.ok z.1 z.2) ⟨s.sl, g⟩ Q E := by
      unfold WE
      dsimp only
      rw [if_pos q]
    rw [e, w_bind, eq_true q, true_and]
    congr
    funext xs g
    unfold WE
    dsimp only
    cases op g (x :: xs) <;> rfl
  · unfold WE
    dsimp only
    rw [if_neg q, eq_false q, false_and]
theorem w_meth0 {op : VO} {f : M SV} {Q : RZ → List Obj → Prop} : WE (mMeth0 op f) s Q E = WE f s (fun x g => isL g x = true ∧ opQ (op g [x]) Q) E := by
  unfold mMeth0
  rw [w_bind]
  congr
  funext x g
  unfold WE
  dsimp only
  by_cases q : isL g x = true
  · rw [if_pos q, eq_true q, true_and]
    cases op g [x] <;> rfl
  · rw [if_neg q, eq_false q, false_and]
/-- d.setdefault(k, x) -/
theorem w_dSetd {fd fk fz : M SV} {Q : RZ → List Obj → Prop} (h : WE fd s (fun x g => (vD g x).isSome = true ∧ WE fk ⟨s.sl, g⟩ (fun y g => WE fz ⟨s.sl, g⟩ (fun z g => ∃ n t u kvs k, x = .o n ∧ y = .t t ∧ z = .t u ∧ dicAt g n = some kvs ∧ key t = some k ∧ kvs.length < 100000 ∧
    (∀ w, valT kvs k = some w → Q (.v (.t w)) g) ∧ (valT kvs k = none → Q (.v (.t u)) (g.set n (.dic (putT kvs k u))))) E) E) E) : WE (mDSetd fd fk fz) s Q E := by
  unfold mDSetd
  rw [w_bind]
  refine h.mono (fun x g h => ?_) fun _ _ _ h => h
  obtain ⟨q, h⟩ := h
  unfold WE
  dsimp only
  rw [if_pos q]
  show WE (fk.bind fun y => fz.bind fun z s => match x, y, z with
  | .o n, .t t, .t u => match dicAt s.g n, key t with
    | some kvs, some k => if kvs.length < 100000 then match valT kvs k with
      | some w => some (.ok (.v (.t w)) s.g)
      | none => some (.ok (.v (.t u)) (s.g.set n (.dic (putT kvs k u))))
      else none
    | _, _ => none
  | _, _, _ => none) ⟨s.sl, g⟩ Q E
  rw [w_bind]
  refine h.mono (fun y g h => ?_) fun _ _ _ h => h
  rw [w_bind]
  refine h.mono (fun z g h => ?_) fun _ _ _ h => h
  obtain ⟨n, t, u, kvs, k, rfl, rfl, rfl, h1, h2, h3, h4, h5⟩ := h
  unfold WE
  dsimp only
  rw [h1, h2]
  dsimp only
  rw [if_pos h3]
  cases e : valT kvs k with
  | none => exact h5 e
  | some w => exact h4 w e
/-! #### slices -/
def partQ (x : SV) (Q : Option Int → Prop) : Prop := match x with
  | .t (.int i) => Q (some i)
  | _ => False
theorem partQ_i {i : Int} {Q : Option Int → Prop} : partQ (.t (.int i)) Q = Q (some i) := rfl
theorem w_part {f : M SV} {Q : Option Int → List Obj → Prop} : WE (mPart f) s Q E = WE f s (fun x g => partQ x fun o => Q o g) E := by
  unfold mPart
  rw [w_bind]
  congr
  funext x g
  cases x with
  | un => rfl
  | o i => rfl
  | t t => cases t <;> rfl
theorem w_sl {op : SO} {f : M SV} {lo hi : M (Option Int)} {Q : RZ → List Obj → Prop} : WE (mSl op f lo hi) s Q E = WE f s (fun x g => WE lo ⟨s.sl, g⟩ (fun l g => WE hi ⟨s.sl, g⟩ (fun h g => opt (op g x l h) fun z => Q z g) E) E) E := by
  unfold mSl
  rw [w_bind]
  congr
  funext x g
  rw [w_bind]
  congr
  funext l g
  rw [w_bind]
  congr
  funext h g
  unfold WE opt
  dsimp only
  cases op g x l h <;> rfl
/-! #### calls, defs -/
def MR (m : Mir) (xs : List SV) (g : List Obj) (Q : RZ → List Obj → Prop) (E : EP) : Prop := match m xs g with
  | none => False
  | some (.er c t g) => E c t g
  | some (.ok a g) => Q a g
theorem MR.mono {m : Mir} {xs : List SV} {Q Q' : RZ → List Obj → Prop} {E' : EP} (h : MR m xs g Q E) (h1 : ∀ a g, Q a g → Q' a g) (h2 : ∀ c t g, E c t g → E' c t g) : MR m xs g Q' E' := by
  unfold MR at h ⊢
  cases e : m xs g with
  | none => rw [e] at h; exact h.elim
  | some o => cases o with
    | er c t g => rw [e] at h; exact h2 _ _ _ h
    | ok a g => rw [e] at h; exact h1 _ _ h
theorem MR.ex {m : Mir} {xs : List SV} {Q : RZ → List Obj → Prop} (h : MR m xs g Q noE) : ∃ z g', m xs g = some (.ok z g') ∧ Q z g' := by
  unfold MR at h
  cases e : m xs g with
  | none => rw [e] at h; exact h.elim
  | some o => cases o with
    | er c t g => rw [e] at h; exact h.elim
    | ok a g => rw [e] at h; exact ⟨a, g, rfl, h⟩
def exQ (n : Nat) (g : List Obj) (z : RZ) (Q : RZ → List Obj → Prop) : Prop := match z with
  | .v (.t t) => Q (.v (.t t)) (g.take n)
  | .v (.o i) => if i < n then Q (.v (.o i)) (g.take n) else match g[i]? with
    | some (.frz t) => Q (.v (.t t)) (g.take n)
    | some .gone => False
    | some o => Q (.n o) (g.take n)
    | none => False
  | .v .un => False
  | .n o => Q (.n o) (g.take n)
theorem m_run {ns : Nat} {f : M Fl} {xs : List SV} {Q : RZ → List Obj → Prop} (h : WS f (xs ++ List.replicate (ns - xs.length) .un) g (fun _ g' => Q (.v (.t .non)) (g'.take g.length)) (fun z g' => exQ g.length g' z Q) (fun c t g' => E c t (g'.take g.length))) : MR (runD ns f) xs g Q E := by
  unfold WS WE at h
  unfold MR runD
  cases e : f ⟨xs ++ List.replicate (ns - xs.length) .un, g⟩ with
  | none => rw [e] at h; exact h.elim
  | some o => cases o with
    | er c t g => rw [e] at h; exact h
    | ok a g' => cases a with
      | nx sl => rw [e] at h; exact h
      | rt z =>
        rw [e] at h
        have h : exQ g.length g' z Q := h
        dsimp only
        unfold exQ at h
        cases z with
        | n o => exact h
        | v x => cases x with
          | un => exact h.elim
          | t t => exact h
          | o i =>
            unfold exitZ
            dsimp only at h ⊢
            by_cases q : i < g.length
            · rw [if_pos q] at h ⊢
              exact h
            · rw [if_neg q] at h ⊢
              cases ei : g'[i]? with
              | none => rw [ei] at h; exact h.elim
              | some o => cases o with
                | gone => rw [ei] at h; exact h.elim
                | _ => rw [ei] at h; exact h
theorem w_call {n : Nat} {m : Mir} {f : M (List SV)} {Q : RZ → List Obj → Prop} (h : WE f s (fun xs g => xs.length = n ∧ (hs xs).Nodup ∧ ∃ gs, pick g (hs xs) = some gs ∧
    MR m (ren 0 xs) gs (fun z gs' => gs'.length = gs.length ∧ ∃ z', back (hs xs) z = some z' ∧ Q z' (put g (hs xs) gs')) (fun c t gs' => gs'.length = gs.length ∧ E c t (put g (hs xs) gs'))) E) : WE (mCall n m f) s Q E := by
  unfold mCall
  rw [w_bind]
  refine h.mono (fun xs g h => ?_) fun _ _ _ h => h
  obtain ⟨h1, h2, gs, h3, h4⟩ := h
  rw [if_pos h1]
  unfold WE callG
  rw [if_pos h2]
  dsimp only
  rw [h3]
  dsimp only
  unfold MR at h4
  cases e : m (ren 0 xs) gs with
  | none => rw [e] at h4; exact h4.elim
  | some o => cases o with
    | er c t gs' =>
      rw [e] at h4
      dsimp only
      rw [if_pos h4.1]
      exact h4.2
    | ok z gs' =>
      rw [e] at h4
      obtain ⟨h5, z', h6, h7⟩ := h4
      dsimp only
      rw [if_pos h5, h6]
      exact h7
end
end Mf


set_option Elab.async false
set_option linter.all false
set_option maxRecDepth 100000
set_option maxHeartbeats 4000000
namespace Mf
open PySem PySem.Spec PyProof.Rows L2 Sb
section
variable {g : List Obj} {Q : RZ → List Obj → Prop} {i j : Int} {t : T} {ts : List T} {kvs : List (Key × T)} {o : Obj} {n : Nat}
theorem ite_opQ {c : Prop} [Decidable c] {z : RZ × List Obj} : opQ (if c then some z else none) Q = (c ∧ Q z.1 z.2) := by
  by_cases q : c
  · rw [if_pos q, eq_true q, true_and]; rfl
  · rw [if_neg q, eq_false q, false_and]; rfl
/-! ### views -/
theorem vL_t : vL g (.t (.lst ts)) = some ts := rfl
theorem vL_s {ns : List Int} : vL g (.t (.scr ns)) = some (ns.map T.int) := rfl
theorem vL_0 : vL (.lst ts :: g) (.o 0) = some ts := rfl
theorem vL_f : vL (.frz (.lst ts) :: g) (.o 0) = some ts := rfl
theorem vL_S : vL (o :: g) (.o (n + 1)) = vL g (.o n) := rfl
theorem vL_u : vL g (.t (.tup ts)) = none := rfl
theorem vM_t : vM g (.t (.lst ts)) = some ts := rfl
theorem vM_0 : vM (.lst ts :: g) (.o 0) = some ts := rfl
theorem vM_f : vM (.frz (.lst ts) :: g) (.o 0) = some ts := rfl
theorem vM_S : vM (o :: g) (.o (n + 1)) = vM g (.o n) := rfl
theorem vU_t : vU g (.t (.tup ts)) = some ts := rfl
theorem lstAt_0 : lstAt (.lst ts :: g) 0 = some ts := rfl
theorem lstAt_S : lstAt (o :: g) (n + 1) = lstAt g n := rfl
theorem dicAt_0 : dicAt (.dic kvs :: g) 0 = some kvs := rfl
theorem dicAt_S : dicAt (o :: g) (n + 1) = dicAt g n := rfl
theorem vD_t : vD g (.t (.dic kvs)) = some kvs := rfl
theorem vD_0 : vD (.dic kvs :: g) (.o 0) = some kvs := rfl
theorem vD_f : vD (.frz (.dic kvs) :: g) (.o 0) = some kvs := rfl
theorem vD_S : vD (o :: g) (.o (n + 1)) = vD g (.o n) := rfl
theorem frzD_t : frzD g (.t (.dic kvs)) = some kvs := rfl
theorem frzD_f : frzD (.frz (.dic kvs) :: g) (.o 0) = some kvs := rfl
theorem frzD_S : frzD (o :: g) (.o (n + 1)) = frzD g (.o n) := rfl
theorem kindV_t : kindV g (.t t) = kindT t := rfl
theorem kindV_d : kindV (.dic kvs :: g) (.o 0) = some "dict" := rfl
theorem kindV_l : kindV (.lst ts :: g) (.o 0) = some "list" := rfl
theorem kindV_f : kindV (.frz t :: g) (.o 0) = kindT t := rfl
theorem kindV_S : kindV (o :: g) (.o (n + 1)) = kindV g (.o n) := rfl
theorem vP_t : vP g (.t t) = pd t := rfl
theorem vP_l : vP (.lst ts :: g) (.o 0) = (pds ts).map .list := rfl
theorem vP_f : vP (.frz t :: g) (.o 0) = pd t := rfl
theorem vP_S : vP (o :: g) (.o (n + 1)) = vP g (.o n) := rfl
theorem isL_is {x : SV} : isL g x = (vL g x).isSome := rfl
theorem or_some {γ : Type} {a : γ} {b : Option γ} : (some a).or b = some a := rfl
theorem none_or {γ : Type} {b : Option γ} : (none : Option γ).or b = b := rfl
/-! ### numbers, texts -/
theorem oq_add : opQ (oAdd g [.t (.int i), .t (.int j)]) Q = Q (.v (.t (.int (i + j)))) g := rfl
theorem oq_sub : opQ (oSub g [.t (.int i), .t (.int j)]) Q = Q (.v (.t (.int (i - j)))) g := rfl
theorem oq_lt : opQ (oLt g [.t (.int i), .t (.int j)]) Q = Q (.v (.t (.bl (decide (i < j))))) g := rfl
theorem oq_le : opQ (oLe g [.t (.int i), .t (.int j)]) Q = Q (.v (.t (.bl (decide (i ≤ j))))) g := rfl
theorem oq_gt : opQ (oGt g [.t (.int i), .t (.int j)]) Q = Q (.v (.t (.bl (decide (j < i))))) g := rfl
theorem oq_ge : opQ (oGe g [.t (.int i), .t (.int j)]) Q = Q (.v (.t (.bl (decide (j ≤ i))))) g := rfl
theorem oq_mul : opQ (oMul g [.t (.int i), .t (.int j)]) Q = (cMul i j = true ∧ Q (.v (.t (.int (i * j)))) g) := ite_opQ
theorem oq_mod : opQ (oMod g [.t (.int i), .t (.int j)]) Q = (j ≠ 0 ∧ Q (.v (.t (.int (i.fmod j)))) g) := by
  show opQ (if decide (j ≠ 0) = true then _ else none) Q = _
  rw [ite_opQ, decide_eq_true_eq]
theorem oq_div : opQ (oDiv g [.t (.int i), .t (.int j)]) Q = ((j ≠ 0 ∧ j.natAbs < 1073741824) ∧ Q (.v (.t (.int (i.fdiv j)))) g) := by
  show opQ (if (decide (j ≠ 0) && decide (j.natAbs < 1073741824)) = true then _ else none) Q = _
  rw [ite_opQ, Bool.and_eq_true, decide_eq_true_eq, decide_eq_true_eq]
theorem oq_pow : opQ (oPow g [.t (.int i), .t (.int j)]) Q = ((0 ≤ j ∧ j ≤ 1000000 ∧ i.natAbs < 2 ^ 64) ∧ Q (.v (.t (.int (i ^ j.toNat)))) g) := by
  show opQ (if (decide (0 ≤ j) && (decide (j ≤ 1000000) && decide (i.natAbs < 2 ^ 64))) = true then _ else none) Q = _
  rw [ite_opQ, Bool.and_eq_true, Bool.and_eq_true, decide_eq_true_eq, decide_eq_true_eq, decide_eq_true_eq]
theorem oq_intB {b : Bool} : opQ (oInt g [.t (.bl b)]) Q = Q (.v (.t (.int (if b then 1 else 0)))) g := rfl
theorem oq_intI : opQ (oInt g [.t (.int i)]) Q = Q (.v (.t (.int i))) g := rfl
theorem oq_neg : opQ (oNeg g [.t (.int i)]) Q = Q (.v (.t (.int (-i)))) g := rfl
theorem oq_addS {a b : Str} : opQ (oAddS g [.t (.str a), .t (.str b)]) Q = (a.length + b.length ≤ 100000 ∧ Q (.v (.t (.str (a ++ b)))) g) := ite_opQ
theorem oq_ixS {z : Str} : opQ (oIxS g [.t (.str z), .t (.int i)]) Q = ((0 ≤ i ∧ i < z.length ∧ i < 100000) ∧ opt z.cps[i.toNat]? fun c => Q (.v (.t (.str ⟨#[c]⟩))) g) := by
  show opQ (if 0 ≤ i ∧ i < z.length ∧ i < 100000 then (match z.cps[i.toNat]? with | some c => _ | none => none) else none) Q = _
  by_cases q : 0 ≤ i ∧ i < z.length ∧ i < 100000
  · rw [if_pos q, eq_true q, true_and]
    cases z.cps[i.toNat]? <;> rfl
  · rw [if_neg q, eq_false q, false_and]; rfl
/-! ### lists, tuples -/
theorem oq_ixL {x : SV} : opQ (oIxL g [x, .t (.int i)]) Q = opt (vL g x) fun ts => opt (atI ts i) fun t => Q (.v (.t t)) g := by
  unfold oIxL
  dsimp only
  (cases vL g x; (focus rfl); try dsimp only)
  rename_i ts
  show _ = opt (atI ts i) _
  (cases atI ts i; (focus rfl); try dsimp only)
  rfl
theorem oq_ixU {x : SV} : opQ (oIxU g [x, .t (.int i)]) Q = opt (vU g x) fun ts => opt (atI ts i) fun t => Q (.v (.t t)) g := by
  unfold oIxU
  dsimp only
  (cases vU g x; (focus rfl); try dsimp only)
  rename_i ts
  show _ = opt (atI ts i) _
  (cases atI ts i; (focus rfl); try dsimp only)
  rfl
theorem oq_lenL : opQ (oLen g [.t (.lst ts)]) Q = Q (.v (.t (.int ts.length))) g := rfl
theorem oq_lenU : opQ (oLen g [.t (.tup ts)]) Q = Q (.v (.t (.int ts.length))) g := rfl
theorem oq_lenN {ns : List Int} : opQ (oLen g [.t (.scr ns)]) Q = Q (.v (.t (.int ns.length))) g := by
  show Q (.v (.t (.int ((ns.map T.int).length : Nat)))) g = _
  rw [List.length_map]
theorem oq_lenS {z : Str} : opQ (oLen g [.t (.str z)]) Q = (z.length ≤ 100000 ∧ Q (.v (.t (.int z.length))) g) := ite_opQ
theorem oq_lenO {m : Nat} : opQ (oLen g [.o m]) Q = opt (vL g (.o m)) fun ts => Q (.v (.t (.int ts.length))) g := by
  unfold oLen
  dsimp only
  cases e : vL g (.o m) with
  | some ts => rfl
  | none => rfl
theorem oq_cat {x y : SV} : opQ (oCat g [x, y]) Q = opt (vM g x) fun a => opt (vM g y) fun b => a.length + b.length ≤ 100000 ∧ Q (.n (.lst (a ++ b))) g := by
  unfold oCat
  dsimp only
  cases e : vM g x with
  | none => rfl
  | some a =>
    cases e2 : vM g y with
    | none => rfl
    | some b => exact ite_opQ
theorem oq_catU {x y : SV} : opQ (oCatU g [x, y]) Q = opt (vU g x) fun a => opt (vU g y) fun b => a.length + b.length ≤ 100000 ∧ Q (.v (.t (.tup (a ++ b)))) g := by
  unfold oCatU
  dsimp only
  cases e : vU g x with
  | none => rfl
  | some a =>
    cases e2 : vU g y with
    | none => rfl
    | some b => exact ite_opQ
theorem oq_rep {x : SV} : opQ (oRep g [x, .t (.int i)]) Q = opt (vM g x) fun a => (-1000 ≤ i ∧ i ≤ 1000 ∧ a.length ≤ 90) ∧ Q (.n (.lst (repT i.toNat a))) g := by
  unfold oRep
  dsimp only
  cases e : vM g x with
  | none => rfl
  | some a => exact ite_opQ
theorem oq_disp0 : opQ (oDisp g []) Q = Q (.n (.lst [])) g := rfl
theorem oq_disp1 {a : T} : opQ (oDisp g [.t a]) Q = Q (.n (.lst [a])) g := rfl
theorem oq_disp2 {a b : T} : opQ (oDisp g [.t a, .t b]) Q = Q (.n (.lst [a, b])) g := rfl
theorem oq_disp3 {a b c : T} : opQ (oDisp g [.t a, .t b, .t c]) Q = Q (.n (.lst [a, b, c])) g := rfl
theorem oq_disp4 {a b c d : T} : opQ (oDisp g [.t a, .t b, .t c, .t d]) Q = Q (.n (.lst [a, b, c, d])) g := rfl
theorem oq_disp5 {a b c d e : T} : opQ (oDisp g [.t a, .t b, .t c, .t d, .t e]) Q = Q (.n (.lst [a, b, c, d, e])) g := rfl
theorem oq_disp6 {a b c d e f : T} : opQ (oDisp g [.t a, .t b, .t c, .t d, .t e, .t f]) Q = Q (.n (.lst [a, b, c, d, e, f])) g := rfl
theorem oq_disp7 {a b c d e f h : T} : opQ (oDisp g [.t a, .t b, .t c, .t d, .t e, .t f, .t h]) Q = Q (.n (.lst [a, b, c, d, e, f, h])) g := rfl
theorem oq_tup0 : opQ (oTup g []) Q = Q (.v (.t (.tup []))) g := rfl
theorem oq_tup1 {a : T} : opQ (oTup g [.t a]) Q = Q (.v (.t (.tup [a]))) g := rfl
theorem oq_tup2 {a b : T} : opQ (oTup g [.t a, .t b]) Q = Q (.v (.t (.tup [a, b]))) g := rfl
theorem oq_tup3 {a b c : T} : opQ (oTup g [.t a, .t b, .t c]) Q = Q (.v (.t (.tup [a, b, c]))) g := rfl
theorem oq_tup4 {a b c d : T} : opQ (oTup g [.t a, .t b, .t c, .t d]) Q = Q (.v (.t (.tup [a, b, c, d]))) g := rfl
theorem oq_tup5 {a b c d e : T} : opQ (oTup g [.t a, .t b, .t c, .t d, .t e]) Q = Q (.v (.t (.tup [a, b, c, d, e]))) g := rfl
theorem oq_tup6 {a b c d e f : T} : opQ (oTup g [.t a, .t b, .t c, .t d, .t e, .t f]) Q = Q (.v (.t (.tup [a, b, c, d, e, f]))) g := rfl
theorem oq_tupOf {x : SV} : opQ (oTupOf g [x]) Q = opt (vL g x) fun ts => Q (.v (.t (.tup ts))) g := by
  unfold oTupOf
  dsimp only
  (cases vL g x; (focus rfl); try dsimp only)
  rfl
theorem oq_listL {x : SV} {ts : List T} (e : vL g x = some ts) : opQ (oListOf g [x]) Q = Q (.n (.lst ts)) g := by
  unfold oListOf
  dsimp only
  rw [e]
  rfl
theorem oq_revL {x : SV} : opQ (oRevL g [x]) Q = opt (vL g x) fun ts => Q (.n (.lst ts.reverse)) g := by
  unfold oRevL
  dsimp only
  (cases vL g x; (focus rfl); try dsimp only)
  rfl
theorem oq_append : opQ (oAppend g [.o n, .t t]) Q = opt (lstAt g n) fun ts => ts.length < 100000 ∧ Q (.v (.t .non)) (g.set n (.lst (ts ++ [t]))) := by
  unfold oAppend
  dsimp only
  (cases lstAt g n; (focus rfl); try dsimp only)
  exact ite_opQ
theorem oq_extend {zs : List T} : opQ (oExtend g [.o n, .t (.lst zs)]) Q = opt (lstAt g n) fun ts => ts.length + zs.length ≤ 100000 ∧ Q (.v (.t .non)) (g.set n (.lst (ts ++ zs))) := by
  unfold oExtend
  dsimp only
  (cases lstAt g n; (focus rfl); try dsimp only)
  exact ite_opQ
theorem oq_popAt : opQ (oPopAt g [.o n, .t (.int j)]) Q = opt (lstAt g n) fun ts => (-1000000 ≤ j ∧ j ≤ 1000000) ∧ opt (seqIndex? j ts.length) fun k => opt ts[k]? fun t => Q (.v (.t t)) (g.set n (.lst (ts.eraseIdx k))) := by
  unfold oPopAt
  dsimp only
  (cases lstAt g n; (focus rfl); try dsimp only)
  rename_i ts
  show _ = ((-1000000 ≤ j ∧ j ≤ 1000000) ∧ opt (seqIndex? j ts.length) _)
  by_cases q : -1000000 ≤ j ∧ j ≤ 1000000
  · rw [if_pos q, eq_true q, true_and]
    (cases seqIndex? j ts.length; (focus rfl); try dsimp only)
    rename_i k
    show _ = opt ts[k]? _
    (cases ts[k]?; (focus rfl); try dsimp only)
    rfl
  · rw [if_neg q, eq_false q, false_and]; rfl
theorem oq_pop : opQ (oPop g [.o n]) Q = opt (lstAt g n) fun ts => opt ts[ts.length - 1]? fun t => Q (.v (.t t)) (g.set n (.lst ts.dropLast)) := by
  unfold oPop
  dsimp only
  (cases lstAt g n; (focus rfl); try dsimp only)
  rename_i ts
  show _ = opt ts[ts.length - 1]? _
  (cases ts[ts.length - 1]?; (focus rfl); try dsimp only)
  rfl
theorem oq_remove : opQ (oRemove g [.o n, .t t]) Q = opt (lstAt g n) fun ts => (flT t && ts.all flT) = true ∧ opt (findF t ts) fun j => Q (.v (.t .non)) (g.set n (.lst (ts.eraseIdx j))) := by
  unfold oRemove
  dsimp only
  (cases lstAt g n; (focus rfl); try dsimp only)
  rename_i ts
  show _ = ((flT t && ts.all flT) = true ∧ opt (findF t ts) _)
  by_cases q : (flT t && ts.all flT) = true
  · rw [if_pos q, eq_true q, true_and]
    (cases findF t ts; (focus rfl); try dsimp only)
    rfl
  · rw [if_neg q, eq_false q, false_and]; rfl
theorem oq_index {x : SV} : opQ (oIndex g [x, .t t]) Q = opt (vL g x) fun ts => (flT t && ts.all flT) = true ∧ opt (findF t ts) fun j => Q (.v (.t (.int j))) g := by
  unfold oIndex
  dsimp only
  (cases vL g x; (focus rfl); try dsimp only)
  rename_i ts
  show _ = ((flT t && ts.all flT) = true ∧ opt (findF t ts) _)
  by_cases q : (flT t && ts.all flT) = true
  · rw [if_pos q, eq_true q, true_and]
    (cases findF t ts; (focus rfl); try dsimp only)
    rfl
  · rw [if_neg q, eq_false q, false_and]; rfl
theorem oq_eq {neg : Bool} {x y : SV} : opQ (oEq neg g [x, y]) Q = opt (vP g x) fun d => opt (vP g y) fun e => d.depth ≤ 64 ∧ Q (.v (.t (.bl (if neg then !PyData.eqv d e else PyData.eqv d e)))) g := by
  unfold oEq
  dsimp only
  cases e : vP g x with
  | none => rfl
  | some a =>
    cases e2 : vP g y with
    | none => rfl
    | some b => exact ite_opQ
theorem oq_in {neg : Bool} {y : SV} : opQ (oIn neg g [.t t, y]) Q = opt ((vL g y).or (vU g y)) fun ts => (flT t && ts.all flT) = true ∧ Q (.v (.t (.bl (if neg then !inF t ts else inF t ts)))) g := by
  unfold oIn
  dsimp only
  (cases (vL g y).or (vU g y); (focus rfl); try dsimp only)
  exact ite_opQ
theorem oq_dget {x : SV} : opQ (oDGet g [x, .t t]) Q = opt (vD g x) fun kvs => opt (key t) fun k => opt (valT kvs k) fun u => Q (.v (.t u)) g := by
  unfold oDGet
  dsimp only
  (cases vD g x; (focus rfl); try dsimp only)
  rename_i kvs
  show _ = opt (key t) _
  (cases key t; (focus rfl); try dsimp only)
  rename_i k
  show _ = opt (valT kvs k) _
  (cases valT kvs k; (focus rfl); try dsimp only)
  rfl
theorem oq_din {neg : Bool} {x : SV} : opQ (oDIn neg g [.t t, x]) Q = opt (vD g x) fun kvs => opt (key t) fun k => Q (.v (.t (.bl (if neg then !(valT kvs k).isSome else (valT kvs k).isSome)))) g := by
  unfold oDIn
  dsimp only
  cases e : vD g x with
  | none => rfl
  | some a =>
    cases e2 : key t with
    | none => rfl
    | some b => rfl
theorem oq_listD {x : SV} : opQ (oListD g [x]) Q = opt (vD g x) fun ts => Q (.n (.lst (ts.map fun kv => keyT kv.1))) g := by
  unfold oListD
  dsimp only
  (cases vD g x; (focus rfl); try dsimp only)
  rfl
theorem oq_dictD {x : SV} : opQ (oDictD g [x]) Q = opt (vD g x) fun ts => Q (.n (.dic ts)) g := by
  unfold oDictD
  dsimp only
  (cases vD g x; (focus rfl); try dsimp only)
  rfl
theorem oq_sorted {x : SV} : opQ (oSorted g [x]) Q = opt (vL g x) fun ts => opt (strsOf ts) fun ws => ws.length < 64 ∧ Q (.n (.lst ((sortS ws).map T.str))) g := by
  unfold oSorted
  dsimp only
  (cases vL g x; (focus rfl); try dsimp only)
  rename_i ts
  show _ = opt (strsOf ts) _
  (cases strsOf ts; (focus rfl); try dsimp only)
  exact ite_opQ
theorem oq_sortedD {x : SV} : opQ (oSortedD g [x]) Q = opt (vD g x) fun ts => opt (keyStrs ts) fun ws => ws.length < 64 ∧ Q (.n (.lst ((sortS ws).map T.str))) g := by
  unfold oSortedD
  dsimp only
  (cases vD g x; (focus rfl); try dsimp only)
  rename_i ts
  show _ = opt (keyStrs ts) _
  (cases keyStrs ts; (focus rfl); try dsimp only)
  exact ite_opQ
theorem oq_bools {f : List Bool → Bool} {x : SV} : opQ (oBools f g [x]) Q = opt (vL g x) fun ts => opt (boolsOf ts) fun bs => Q (.v (.t (.bl (f bs)))) g := by
  unfold oBools
  dsimp only
  (cases vL g x; (focus rfl); try dsimp only)
  rename_i ts
  show _ = opt (boolsOf ts) _
  (cases boolsOf ts; (focus rfl); try dsimp only)
  rfl
theorem oq_inSto {neg : Bool} {ls : List Lib} : opQ (oInSto neg g [.t t, .t (.sto ls)]) Q = opt (inSto ls t) fun b => Q (.v (.t (.bl (if neg then !b else b)))) g := by
  unfold oInSto
  dsimp only
  (cases inSto ls t; (focus rfl); try dsimp only)
  rfl
theorem oq_isWord {z : Str} : opQ (oIsWord g [.t (.str z)]) Q = (z.length ≤ 100000 ∧ Q (.v (.t (.bl (wordB z)))) g) := ite_opQ
theorem oq_names {ls : List Lib} : opQ (oNames g [.t (.sto ls)]) Q = Q (.n (.lst ((sortS (namesL ls)).map T.str))) g := rfl
theorem so_lL {x : SV} {lo hi : Option Int} : oSlL g x lo hi = (vL g x).map fun ts => .n (.lst (cutT ts lo hi)) := by
  unfold oSlL
  cases vL g x <;> rfl
theorem so_uU {x : SV} {lo hi : Option Int} : oSlU g x lo hi = (vU g x).map fun ts => .v (.t (.tup (cutT ts lo hi))) := by
  unfold oSlU
  cases vU g x <;> rfl
/-! ### flat things -/
theorem all_str (ws : List Str) : (ws.map T.str).all flT = true := by
  rw [List.all_eq_true]
  intro x hx
  obtain ⟨w, _, rfl⟩ := List.mem_map.mp hx
  rfl
theorem all_int (ws : List Int) : (ws.map T.int).all flT = true := by
  rw [List.all_eq_true]
  intro x hx
  obtain ⟨w, _, rfl⟩ := List.mem_map.mp hx
  rfl
theorem inF_str (w : Str) (ws : List Str) : inF (.str w) (ws.map T.str) = decide (w ∈ ws) := by
  induction ws with
  | nil => rfl
  | cons a ws ih =>
    unfold inF at ih ⊢
    rw [List.map_cons, List.any_cons, ih]
    show ((a == w) || decide (w ∈ ws)) = _
    by_cases q : w = a
    · subst q; simp
    · have : a ≠ w := fun e => q e.symm
      simp [q, this]
theorem strsOf_map (ws : List Str) : strsOf (ws.map T.str) = some ws := by
  induction ws with
  | nil => rfl
  | cons a ws ih => rw [List.map_cons, strsOf, ih]
theorem boolsOf_map (ws : List Bool) : boolsOf (ws.map T.bl) = some ws := by
  induction ws with
  | nil => rfl
  | cons a ws ih => rw [List.map_cons, boolsOf, ih]
theorem libsOf_map (ws : List Lib) : libsOf (ws.map T.lib) = some ws := by
  induction ws with
  | nil => rfl
  | cons a ws ih => rw [List.map_cons, libsOf, ih]
theorem pds_str (ws : List Str) : pds (ws.map T.str) = some (ws.map .str) := by
  induction ws with
  | nil => rfl
  | cons a ws ih => rw [List.map_cons, pds, ih]; rfl
theorem pds_int (ws : List Int) : pds (ws.map T.int) = some (ws.map .int) := by
  induction ws with
  | nil => rfl
  | cons a ws ih => rw [List.map_cons, pds, ih]; rfl
end
end Mf


set_option Elab.async false
set_option linter.all false
set_option maxRecDepth 100000
set_option maxHeartbeats 4000000
namespace Mf
open PySem PySem.Spec PyProof.Rows L2 Sb
section
variable {g : List Obj} {Q : RZ → List Obj → Prop} {n i : Nat} {t : T}
theorem exQ_t : exQ n g (.v (.t t)) Q = Q (.v (.t t)) (g.take n) := rfl
theorem exQ_n {o : Obj} : exQ n g (.n o) Q = Q (.n o) (g.take n) := rfl
def outQ (o : Obj) (Q : RZ → Prop) : Prop := match o with
  | .frz t => Q (.v (.t t))
  | .gone => False
  | o => Q (.n o)
theorem outQ_f {Q : RZ → Prop} : outQ (.frz t) Q = Q (.v (.t t)) := rfl
theorem outQ_l {ts : List T} {Q : RZ → Prop} : outQ (.lst ts) Q = Q (.n (.lst ts)) := rfl
theorem outQ_d {ts : List (Key × T)} {Q : RZ → Prop} : outQ (.dic ts) Q = Q (.n (.dic ts)) := rfl
theorem exQ_o : exQ n g (.v (.o i)) Q = if i < n then Q (.v (.o i)) (g.take n) else opt g[i]? fun o => outQ o fun z => Q z (g.take n) := by
  unfold exQ
  dsimp only
  by_cases q : i < n
  · rw [if_pos q, if_pos q]
  · rw [if_neg q, if_neg q]
    cases g[i]? with
    | none => rfl
    | some o => cases o <;> rfl
theorem setIxQ_i {k : Int} {Q : List Obj → Prop} : setIxQ (.t t) (.o n) (.t (.int k)) g Q = opt (lstAt g n) fun ts => opt (ixN ts.length k) fun j => Q (g.set n (.lst (ts.set j t))) := by
  unfold setIxQ opt
  dsimp only
  cases lstAt g n with
  | none => rfl
  | some ts =>
    dsimp only
    cases ixN ts.length k <;> rfl
theorem dPutQ_k {u : T} {Q : List Obj → Prop} : dPutQ (.t t) (.o n) (.t u) g Q = opt (dicAt g n) fun kvs => opt (key u) fun k => kvs.length < 100000 ∧ Q (g.set n (.dic (putT kvs k t))) := by
  unfold dPutQ opt
  dsimp only
  cases dicAt g n with
  | none => rfl
  | some ts =>
    dsimp only
    cases key u <;> rfl
theorem ixN_lt {n m : Nat} (h : m < n) : ixN n (m : Int) = some m := by
  unfold ixN
  rw [if_pos (by omega), if_pos (by omega)]
  simp
theorem ix_0 : ixN (n + 1) 0 = some 0 := ixN_lt (m := 0) (by omega)
theorem ix_1 : ixN (n + 2) 1 = some 1 := ixN_lt (m := 1) (by omega)
theorem ix_2 : ixN (n + 3) 2 = some 2 := ixN_lt (m := 2) (by omega)
theorem atI_lt {α : Type} {l : List α} {m : Nat} (h : m < l.length) : atI l (m : Int) = l[m]? := by
  unfold atI
  rw [ixN_lt h]
  rfl
variable {α : Type} {a b c d e f : α} {l : List α}
theorem at_0 : atI (a :: l) 0 = some a := atI_lt (m := 0) (by simp)
theorem at_1 : atI (a :: b :: l) 1 = some b := atI_lt (l := a :: b :: l) (m := 1) (by simp)
theorem at_2 : atI (a :: b :: c :: l) 2 = some c := atI_lt (l := a :: b :: c :: l) (m := 2) (by simp)
theorem at_3 : atI (a :: b :: c :: d :: l) 3 = some d := atI_lt (l := a :: b :: c :: d :: l) (m := 3) (by simp)
theorem at_4 : atI (a :: b :: c :: d :: e :: l) 4 = some e := atI_lt (l := a :: b :: c :: d :: e :: l) (m := 4) (by simp)
theorem at_5 : atI (a :: b :: c :: d :: e :: f :: l) 5 = some f := atI_lt (l := a :: b :: c :: d :: e :: f :: l) (m := 5) (by simp)
end
section
variable {i j : Int} {a b : Str} {c d : Bool} {ws vs : List Str} {ts : List T}
theorem pd_int : pd (.int i) = some (.int i) := by rw [pd]
theorem pd_str : pd (.str a) = some (.str a) := by rw [pd]
theorem pd_bl : pd (.bl c) = some (.bool c) := by rw [pd]
theorem pd_non : pd .non = some .none := by rw [pd]
theorem pd_lst : pd (.lst ts) = (pds ts).map .list := by rw [pd]
theorem pd_tup : pd (.tup ts) = (pds ts).map .tuple := by rw [pd]
theorem pds_nil : pds [] = some [] := by rw [pds]
theorem dp_int : (PyData.int i).depth ≤ 64 ↔ True := by simp [PyData.depth]
theorem dp_str : (PyData.str a).depth ≤ 64 ↔ True := by simp [PyData.depth]
theorem dp_bl : (PyData.bool c).depth ≤ 64 ↔ True := by simp [PyData.depth]
theorem dp_non : PyData.none.depth ≤ 64 ↔ True := by simp [PyData.depth]
theorem dp_nil : (PyData.list []).depth ≤ 64 ↔ True := by simp [PyData.depth, PyData.depthAll]
theorem dAll_str : PyData.depthAll (ws.map .str) = 0 := by
  induction ws with
  | nil => simp [PyData.depthAll]
  | cons a ws ih => simp [PyData.depthAll, PyData.depth, ih]
theorem dp_strs : (PyData.list (ws.map .str)).depth ≤ 64 ↔ True := by simp [PyData.depth, dAll_str]
theorem dp_strU : (PyData.tuple (ws.map .str)).depth ≤ 64 ↔ True := by simp [PyData.depth, dAll_str]
theorem eqv_int : PyData.eqv (.int i) (.int j) = decide (i = j) := by
  rw [PyData.eqv]
  by_cases q : i = j <;> simp [q]
theorem eqv_str : PyData.eqv (.str a) (.str b) = decide (a = b) := by
  rw [PyData.eqv]
  by_cases q : a = b <;> simp [q]
theorem eqvAll_str : PyData.eqvAll (ws.map .str) (vs.map .str) = decide (ws = vs) := by
  induction ws generalizing vs with
  | nil => cases vs <;> simp [PyData.eqvAll]
  | cons a ws ih => cases vs with
    | nil => simp [PyData.eqvAll]
    | cons b vs =>
      rw [List.map_cons, List.map_cons, PyData.eqvAll, ih, eqv_str]
      by_cases q : a = b <;> by_cases p : ws = vs <;> simp [q, p]
theorem eqv_strs : PyData.eqv (.list (ws.map .str)) (.list (vs.map .str)) = decide (ws = vs) := by rw [PyData.eqv, eqvAll_str]
theorem eqv_strU : PyData.eqv (.tuple (ws.map .str)) (.tuple (vs.map .str)) = decide (ws = vs) := by rw [PyData.eqv, eqvAll_str]
theorem eqv_strs0 : PyData.eqv (.list (ws.map .str)) (.list []) = decide (ws = []) := eqv_strs (vs := [])
end
section
variable {g : List Obj} {E : EP} {s : St} {i : Nat} {ts : List T} {kvs : List (Key × T)} {t : T} {Q : SV → List Obj → Prop}
theorem w_dnew {Q : RZ → List Obj → Prop} : WE (fun s => some (.ok (.n (.dic [])) s.g)) s Q E = Q (.n (.dic [])) s.g := rfl
def sealO (o : Obj) (i : Nat) (g : List Obj) (Q : SV → List Obj → Prop) : Prop := match o with
  | .dic xs => Q (.t (.dic xs)) (g.set i (.frz (.dic xs)))
  | _ => False
theorem sealO_d : sealO (.dic kvs) i g Q = Q (.t (.dic kvs)) (g.set i (.frz (.dic kvs))) := rfl
theorem sealQ_o : sealQ (.v (.o i)) g Q = opt g[i]? fun o => sealO o i g Q := by
  unfold sealQ
  dsimp only
  cases g[i]? with
  | none => rfl
  | some o => cases o <;> rfl
def trO (o : Obj) (i : Nat) (g : List Obj) (Q : SV → List Obj → Prop) : Prop := match o with
  | .lst xs => Q (.t (.lst xs)) (g.set i (.frz (.lst xs)))
  | .frz t => Q (.t t) g
  | _ => False
theorem trO_l : trO (.lst ts) i g Q = Q (.t (.lst ts)) (g.set i (.frz (.lst ts))) := rfl
theorem trO_f : trO (.frz t) i g Q = Q (.t t) g := rfl
theorem trQ_o : trQ (.v (.o i)) g Q = opt g[i]? fun o => trO o i g Q := by
  unfold trQ
  dsimp only
  cases g[i]? with
  | none => rfl
  | some o => cases o <;> rfl
end
local macro_rules | `(tactic| walk_at "wp") => `(tactic| simp only [w_bind, w_ret, w_var, slQ_t, slQ_o, get0, getS, set0, setS, w_T, trQ_t, trQ_n, w_O, objQ_v, objQ_n, w_V, valQ_v, w_Z, w_TD, sealQ_n, w_nil, w_cons, opQ_some, w_op, w_op2, blQ_b, w_B, w_and, w_or, w_not, w_If, w_andV, w_orV, w_notV,
  opt_some, w_tru, w_isN, w_isi, s_nx, s_seq, s_ret, s_retN, s_drop, s_if, s_set, s_par, args2Q_is, augQ_t, s_aug, treeQ_t, s_unp, s_raise, s_for, itLQ_l, w_itL, itUQ_u, w_itU, lstsQ_l, zipQ_l, enumQ_l, rngQ_i, w_rng1, w_keys, w_items, libQ_l, w_libF, w_mkLib, w_meth, w_meth0, w_sl, w_part, partQ_i,
  vL_t, vL_s, vL_0, vL_f, vL_S, vL_u, vM_t, vM_0, vM_f, vM_S, vU_t, lstAt_0, lstAt_S, dicAt_0, dicAt_S, vD_t, vD_0, vD_f, vD_S, frzD_t, frzD_f, frzD_S, kindV_t, kindV_d, kindV_l, kindV_f, kindV_S, vP_t, vP_l, vP_f, vP_S, isL_is, or_some, none_or,
  oq_add, oq_sub, oq_lt, oq_le, oq_gt, oq_ge, oq_mul, oq_mod, oq_div, oq_pow, oq_intB, oq_intI, oq_neg, oq_addS, oq_ixS, oq_ixL, oq_ixU, oq_lenL, oq_lenU, oq_lenN, oq_lenS, oq_lenO, oq_cat, oq_catU, oq_rep, oq_disp0, oq_disp1, oq_disp2, oq_disp3, oq_disp4, oq_disp5, oq_disp6, oq_disp7,
  oq_tup0, oq_tup1, oq_tup2, oq_tup3, oq_tup4, oq_tup5, oq_tup6, oq_tupOf, oq_revL, oq_append, oq_extend, oq_popAt, oq_pop, oq_remove, oq_index, oq_eq, oq_in, oq_dget, oq_din, oq_listD, oq_dictD, oq_sorted, oq_sortedD, oq_bools, oq_inSto, oq_isWord, oq_names, so_lL, so_uU,
  all_str, all_int, inF_str, strsOf_map, boolsOf_map, libsOf_map, pds_str, pds_int, List.length_map, List.length_cons, List.length_nil, List.length_append, Option.map_some, Option.isSome_some, Bool.true_and, true_and, and_true, Nat.reduceAdd, Nat.reduceSub, List.replicate, List.cons_append, List.nil_append, if_true, Bool.false_eq_true, if_false, reduceCtorEq, exQ_t, exQ_n, exQ_o, outQ_f, outQ_l, outQ_d, s_setIx, setIxQ_i, s_dPut, dPutQ_k, ix_0, ix_1, ix_2, at_0, at_1, at_2, at_3, at_4, at_5, decide_eq_true_eq, List.take_succ_cons, List.take_zero, Nat.reduceLT, Nat.lt_irrefl, Nat.zero_lt_succ, w_dnew, sealQ_o, sealO_d, trQ_o, trO_l, trO_f, pd_int, pd_str, pd_bl, pd_non, pd_lst, pds_nil, dp_int, dp_str, dp_bl, dp_non, dp_nil, dp_strs, eqv_int, eqv_str, eqv_strs, eqv_strs0, Bool.not_eq_true', decide_eq_false_iff_not])
/-! ### the well of draws -/
structure Wl (n : Nat) (o : List T) : Prop where
  is : ∃ a b c : Int, o = [.int a, .int b, .int c] ∧ 0 ≤ b ∧ b < 2147483647 ∧ 0 ≤ c ∧ c ≤ n
theorem Wl.mono {n m : Nat} {o : List T} (h : Wl n o) (le : n ≤ m) : Wl m o := by
  obtain ⟨a, b, c, e, h1, h2, h3, h4⟩ := h.is
  exact ⟨a, b, c, e, h1, h2, h3, by omega⟩
theorem atI3 {a b c : T} : atI [a, b, c] 0 = some a ∧ atI [a, b, c] 1 = some b ∧ atI [a, b, c] 2 = some c := ⟨rfl, rfl, rfl⟩
theorem fmodB {x m : Int} (h : 0 < m) : 0 ≤ x.fmod m ∧ x.fmod m < m := by
  rw [Int.fmod_eq_emod_of_nonneg _ (by omega)]
  exact ⟨Int.emod_nonneg _ (by omega), Int.emod_lt_of_pos _ h⟩
end Mf


set_option Elab.async false
set_option linter.all false
set_option maxRecDepth 100000
set_option maxHeartbeats 4000000
namespace Mf
open PySem PySem.Spec PyProof.Rows L2 Sb
section
variable {s : St} {E : EP} {sl : List SV} {g : List Obj} {Qn : List SV → List Obj → Prop} {Qr : RZ → List Obj → Prop}
def WCO (i : Nat) (xs : List T) (sl0 : List SV) (ft : Im → List SV → Option (List SV)) (fc : M Bool) (fe : M SV) (r acc : List T) (g : List Obj) (Q : RZ → List Obj → Prop) : Prop := match loopCO i xs sl0 ft fc fe r acc g with
  | some (.ok z g) => Q z g
  | _ => False
theorem w_compO {vs : List Nat} {f : M SV} {ft : Im → List SV → Option (List SV)} {fc : M Bool} {fe : M SV} {Q : RZ → List Obj → Prop} (h : WE f s (fun x g => ∃ i xs, x = .o i ∧ lstAt g i = some xs ∧ eqFls xs xs = true ∧ WCO i xs (wipeS s.sl vs) ft fc fe xs [] g Q) E) : WE (mCompO vs f ft fc fe) s Q E := by
  unfold mCompO
  rw [w_bind]
  refine h.mono (fun x g h => ?_) fun _ _ _ h => h
  obtain ⟨i, xs, rfl, h1, h2, h⟩ := h
  unfold WCO at h
  unfold WE
  dsimp only
  rw [h1]
  dsimp only
  rw [if_pos h2]
  cases e : loopCO i xs (wipeS s.sl vs) ft fc fe xs [] g with
  | none => rw [e] at h; exact h.elim
  | some o => cases o with
    | er c t g => rw [e] at h; exact h.elim
    | ok a g => rw [e] at h; exact h
theorem wco_loop {i : Nat} {xs : List T} {sl0 : List SV} {ft : Im → List SV → Option (List SV)} {fc : M Bool} {fe : M SV} {Q : RZ → List Obj → Prop} (I : List T → List T → List Obj → Prop) : ∀ {r acc : List T} {g : List Obj}, I r acc g →
    (∀ x r acc g, I (x :: r) acc g → ∃ sl1, ft (.one x) sl0 = some sl1 ∧ WE fc ⟨sl1, g⟩ (fun b g1 => if b = true then WE fe ⟨sl1, g1⟩ (fun y g2 => treeQ y fun t => (acc.length < 100000 ∧ keepL i xs g2 = true) ∧ I r (acc ++ [t]) g2) noE else keepL i xs g1 = true ∧ I r acc g1) noE) →
    (∀ acc g, I [] acc g → Q (.n (.lst acc)) g) → WCO i xs sl0 ft fc fe r acc g Q
  | [], acc, g, h0, hs, he => he _ _ h0
  | x :: r, acc, g, h0, hs, he => by
    obtain ⟨sl1, e1, h1⟩ := hs x r acc g h0
    unfold WCO loopCO
    rw [e1]
    dsimp only
    unfold WE at h1
    cases e : fc ⟨sl1, g⟩ with
    | none => rw [e] at h1; exact h1.elim
    | some o => cases o with
      | er c t g => rw [e] at h1; exact h1.elim
      | ok b g1 =>
        rw [e] at h1
        dsimp only at h1
        cases b with
        | false =>
          rw [if_neg (by simp)] at h1
          dsimp only
          rw [if_pos h1.1]
          exact wco_loop I h1.2 hs he
        | true =>
          dsimp only
          rw [if_pos rfl] at h1
          cases e2 : fe ⟨sl1, g1⟩ with
          | none => rw [e2] at h1; exact h1.elim
          | some o => cases o with
            | er c t g => rw [e2] at h1; exact h1.elim
            | ok y g2 =>
              rw [e2] at h1
              dsimp only at h1
              cases y with
              | un => exact h1.elim
              | o i => exact h1.elim
              | t t =>
                obtain ⟨h2, h3⟩ := h1
                dsimp only
                rw [if_pos h2]
                exact wco_loop I h3 hs he
/-- texts, where nothing changes -/
theorem wco_strs {i : Nat} {ws : List Str} {sl0 : List SV} {ft : Im → List SV → Option (List SV)} {fc : M Bool} {fe : M SV} {Q : RZ → List Obj → Prop} {g : List Obj} (p : Str → Bool) (e : Str → T) (hg : lstAt g i = some (ws.map T.str)) (hl : ws.length ≤ 100000)
    (hs : ∀ x ∈ ws, ∃ sl1, ft (.one (.str x)) sl0 = some sl1 ∧ WE fc ⟨sl1, g⟩ (fun b g1 => b = p x ∧ g1 = g) noE ∧ (p x = true → WE fe ⟨sl1, g⟩ (fun y g1 => y = .t (e x) ∧ g1 = g) noE))
    (hq : Q (.n (.lst ((ws.filter p).map e))) g) : WCO i (ws.map T.str) sl0 ft fc fe (ws.map T.str) [] g Q := by
  have hk : keepL i (ws.map T.str) g = true := by
    unfold keepL
    rw [hg]
    exact eqFls_str ws
  refine wco_loop (fun r acc g1 => g1 = g ∧ ∃ d q, ws = d ++ q ∧ r = q.map T.str ∧ acc = (d.filter p).map e) ⟨rfl, [], ws, rfl, rfl, rfl⟩ ?_ ?_
  · rintro x r acc g1 ⟨rfl, d, q, hd, hr, rfl⟩
    cases q with
    | nil => cases hr
    | cons y q =>
      cases hr
      obtain ⟨sl1, e1, h1, h2⟩ := hs y (by rw [hd]; simp)
      refine ⟨sl1, e1, h1.mono ?_ fun _ _ _ h => h⟩
      rintro b g2 ⟨rfl, rfl⟩
      cases z : p y with
      | false =>
        rw [if_neg (by simp)]
        exact ⟨hk, rfl, d ++ [y], q, by simp [hd], rfl, by rw [List.filter_append, List.filter_cons_of_neg (by simp [z])]; simp⟩
      | true =>
        rw [if_pos rfl]
        refine (h2 z).mono ?_ fun _ _ _ h => h
        rintro u g3 ⟨rfl, rfl⟩
        refine ⟨⟨?_, hk⟩, rfl, d ++ [y], q, by simp [hd], rfl, by rw [List.filter_append, List.filter_cons_of_pos z]; simp⟩
        rw [List.length_map]
        have l1 := List.length_filter_le p d
        have l2 : ws.length = d.length + (y :: q).length := by rw [hd, List.length_append]
        simp at l2
        omega
  · rintro acc g1 ⟨rfl, d, q, hd, hr, rfl⟩
    cases q with
    | cons y q => cases hr
    | nil =>
      rw [List.append_nil] at hd
      subst hd
      exact hq
/-- for over a list that may change, and does not -/
theorem s_forO {f : M SV} {ft : Im → List SV → Option (List SV)} {fb : M Fl} {ws : List Str} (I : List Str → List Str → List SV → List Obj → Prop)
    (h : WE f ⟨sl, g⟩ (fun x g => ∃ i, x = .o i ∧ lstAt g i = some (ws.map T.str) ∧ I [] ws sl g ∧
      (∀ d y r sl g, ws = d ++ y :: r → I d (y :: r) sl g → ∃ sl1, ft (.one (.str y)) sl = some sl1 ∧ WS fb sl1 g (fun sl2 g2 => lstAt g2 i = some (ws.map T.str) ∧ I (d ++ [y]) r sl2 g2) Qr E)) E) (he : ∀ sl g, I ws [] sl g → Qn sl g) : WS (sForO f ft fb) sl g Qn Qr E := by
  unfold WS sForO
  rw [w_bind]
  refine h.mono (fun x g h => ?_) fun _ _ _ h => h
  obtain ⟨i, rfl, hg, h0, hs⟩ := h
  have e0 : WE (fun s => match lstAt s.g i with
    | some xs => if eqFls xs xs = true then loopFO i xs ft fb xs s else none
    | none => none) ⟨sl, g⟩ (fun fl g => flQ fl g Qn Qr) E = WS (loopFO i (ws.map T.str) ft fb (ws.map T.str)) sl g Qn Qr E := by
    unfold WS WE
    dsimp only
    rw [hg]
    dsimp only
    rw [if_pos (eqFls_str ws)]
  show WE (fun s => match lstAt s.g i with
    | some xs => if eqFls xs xs = true then loopFO i xs ft fb xs s else none
    | none => none) ⟨sl, g⟩ (fun fl g => flQ fl g Qn Qr) E
  rw [e0]
  have go : ∀ (r d : List Str) (sl : List SV) (g : List Obj), ws = d ++ r → I d r sl g → WS (loopFO i (ws.map T.str) ft fb (r.map T.str)) sl g Qn Qr E := by
    intro r
    induction r with
    | nil =>
      intro d sl g hd hI
      rw [List.append_nil] at hd
      subst hd
      exact he _ _ hI
    | cons y r ih =>
      intro d sl g hd hI
      obtain ⟨sl1, e1, h1⟩ := hs d y r sl g hd hI
      unfold WS WE
      rw [List.map_cons]
      unfold loopFO
      dsimp only
      rw [e1]
      dsimp only
      unfold WS WE at h1
      cases e : fb ⟨sl1, g⟩ with
      | none => rw [e] at h1; exact h1.elim
      | some o => cases o with
        | er c t g => rw [e] at h1; exact h1
        | ok a g2 => cases a with
          | rt z => rw [e] at h1; exact h1
          | nx sl2 =>
            rw [e] at h1
            obtain ⟨h2, h3⟩ := h1
            have hk : keepL i (ws.map T.str) g2 = true := by
              unfold keepL
              rw [h2]
              exact eqFls_str ws
            dsimp only
            rw [if_pos hk]
            exact ih (d ++ [y]) sl2 g2 (by simp [hd]) h3
  exact go ws [] sl g rfl h0
end
end Mf


set_option Elab.async false
set_option linter.all false
set_option maxRecDepth 100000
set_option maxHeartbeats 4000000
namespace Mf
open PySem PySem.Spec PyProof.Rows L2 Sb
variable {K : PySem.W.Frag} {F F' F2 : Hp} {g g' : List Obj} {ad ad' : Nat → Addr} {L L' : Cells} {H H' : Hp} {σ : L2.St} {E : XK}
/-- sorted(set(a list of texts)) -/
def uniqS (ws : List Str) : List Str := sortS (gatS [] ws)
def oSortX : VO := fun g xs => match xs with
  | [x] => match vL g x with
    | some ts => match strsOf ts with
      | some ws => if ws.length < 4096 ∧ (gatS [] ws).length < 64 then some (.n (.lst ((uniqS ws).map T.str)), g) else none
      | none => none
    | none => none
  | _ => none
def rSetSort (w : World) (K : PySem.W.Frag) : List V → Hp → VK → Prop := fun vs H Q => rSetX w K vs H fun x H1 => rSortX w [x] H1 Q
theorem vo_sortX {w : World} : VOK K (rSetSort w K) oSortX := by
  intro g F ad L H xs vs Q z g' hg hv ho k
  unfold oSortX at ho
  split at ho
  · rename_i x
    obtain ⟨v1, _, rfl, h1, rfl⟩ := hv
    split at ho
    · rename_i ts e
      split at ho
      · rename_i ws e2
        by_cases q : ws.length < 4096 ∧ (gatS [] ws).length < 64
        · rw [if_pos q] at ho
          cases ho
          obtain ⟨p, us, rfl, h3, h4⟩ := vL_ok hg h1 e
          rw [strsOf_ok e2] at h4
          rw [RTs.strs h4] at h3
          refine ⟨p, ws, rfl, h3, q.1, fun a ha => ⟨a, _, rfl, upd_same, q.2, fun ys p2 pm hs hn => ?_⟩⟩
          rw [sorted_is pm hs]
          exact Mf.newL (hg.newX ha _) (RTs.ofStrs _) k p2 hn
        · rw [if_neg q] at ho; cases ho
      · cases ho
    · cases ho
  · cases ho
theorem ee_sortX {w : World} {t : TA} {f : M (List SV)} (h : AA K E t f) : EE K E (tCB (rSortX w) (L2.tCons (tCB (rSetX w K) t) tNil)) (mOp oSortX f) :=
  ee_op (r := rSetSort w K) vo_sortX h
/-- len(set(a list of texts)) is not needed yet; d.values() -/
def valsI (kvs : List (Key × T)) : List Im := kvs.map fun kv => Im.one kv.2
def mVals (f : M SV) : M (List Im) := f.bind fun x s => match frzD s.g x with
  | some kvs => some (.ok (valsI kvs) s.g)
  | none => none
theorem ii_vals {E : XK} {te : TE} {f : M SV} (h : EV K E te f) : II K E (iVals te) (mVals f) := by
  refine JJ.bind (u := fun x _ H1 (R : It → Hp → Prop) => ∃ d o kvs, x = V.ref d ∧ H1 d = some (.frz o (.dK kvs)) ∧ R (Itd d o kvs) H1) h fun a b sl g F ad L σ H Q r hs hr hk hp => ?_
  obtain ⟨h1, h2⟩ := hr
  dsimp only at hk
  split at hk
  · rename_i kvs ek
    obtain ⟨p, o, us, e1, e2, e3⟩ := frzD_ok h2 h1 ek
    cases hk
    refine ⟨p, o, us, e1, h2.gr _ _ e2, hp _ F ad H Nx.refl ⟨fun H => H p = some (.frz o (.dK us)), fun i H x H' => H' = H ∧ ∃ k, us[i]? = some (k, x), ?_, fun F' H' g1 g2 => g2 _ _ (g1 _ _ e2), ?_, h2⟩⟩
    · have e5 : (valsI kvs).length = us.length := by simp [valsI, e3.len]
      rw [e5]
      exact walk_values
    · rintro i H1 x H2 hi ⟨rfl, k, e5⟩
      obtain ⟨t, e6, e7⟩ := e3.get e5
      exact ⟨.one t, by simp [valsI, e6], rfl, e7⟩
  · cases hk
/-- len(a dict) -/
theorem call_lenDR {X : Cx} : CallR X (.builtin "len") (fun xs H Q => ∃ a kvs, xs = [V.ref a] ∧ Rd H a (.dK kvs) ∧ Q (.int (kvs.length : Nat)) H) := by
  intro pins s σ H xs us Q I r h
  obtain ⟨a, kvs, rfl, ha, q⟩ := h
  obtain ⟨u, rfl, ru⟩ := vals1 r
  cases ru
  exact d_len I ha fun t s' I' => ⟨.int kvs.length, H, I', ⟨t, rfl⟩, q⟩
def oLenD : VO := fun g xs => match xs with
  | [x] => match vD g x with
    | some ts => some (.v (.t (.int ts.length)), g)
    | none => none
  | _ => none
theorem vo_lenD : VOK K (fun xs H Q => ∃ (a : Addr) (kvs : List (Key × V)), xs = [.ref a] ∧ Rd H a (.dK kvs) ∧ Q (.int (kvs.length : Nat)) H) oLenD := by
  intro g F ad L H xs vs Q z g' hg hv ho k
  unfold oLenD at ho
  split at ho
  · rename_i x
    obtain ⟨v1, _, rfl, h1, rfl⟩ := hv
    split at ho
    · rename_i ts e
      cases ho
      obtain ⟨p, us, rfl, h3, h4⟩ := vD_ok hg h1 e
      refine ⟨p, us, rfl, h3, ?_⟩
      rw [h4.len]
      exact resT hg (t := .int _) rfl k
    · cases ho
  · cases ho
/-- in a list of things of any depth -/
def oInD (neg : Bool) : VO := fun g xs => match xs with
  | [x, y] => match vP g x, vP g y with
    | some d, some (.list ds) => if d.canLay0 = true ∧ PyData.canLayAll0 ds = true ∧ d.depth ≤ 60 then some (.v (.t (.bl (if neg then !(ds.any fun z => PyData.eqv z d) else ds.any fun z => PyData.eqv z d))), g) else none
    | _, _ => none
  | _ => none
def rInX (K : PySem.W.Frag) (neg : Bool) : R2 := fun x y H Q => ∃ d ds, Dp K H x d ∧ Dp K H y (.list ds) ∧ d.canLay0 = true ∧ PyData.canLayAll0 ds = true ∧ d.depth ≤ 60 ∧ Q (.bl (if neg then !(ds.any fun z => PyData.eqv z d) else ds.any fun z => PyData.eqv z d)) H
theorem vo_inD (neg : Bool) : VOK K (r2 (rInX K neg)) (oInD neg) := by
  intro g F ad L H xs vs Q z g' hg hv ho k
  unfold oInD at ho
  split at ho
  · rename_i x y
    obtain ⟨v1, _, rfl, h1, v2, _, rfl, h2, rfl⟩ := hv
    split at ho
    · rename_i d ds e1 e2
      by_cases q : d.canLay0 = true ∧ PyData.canLayAll0 ds = true ∧ d.depth ≤ 60
      · rw [if_pos q] at ho
        cases ho
        obtain ⟨a, b⟩ := vP_ok hg h1 e1
        obtain ⟨a', b'⟩ := vP_ok hg h2 e2
        exact ⟨d, ds, a, a', q.1, q.2.1, q.2.2, resT hg (t := .bl _) rfl k⟩
      · rw [if_neg q] at ho; cases ho
    · cases ho
  · cases ho
theorem op_inX {X : Cx} (hu : X.A.units + 64 < cLine) : OpR X (compareOp .In) (rInX X.K false) := by
  intro pins s σ H x y v u Q I rx ry h
  obtain ⟨d, ds, hd, he, sd, se, dp, q⟩ := h
  obtain ⟨as, r1⟩ := Dp.reads I d x v hd rx
  obtain ⟨bs, r2⟩ := Dp.reads I (.list ds) y u he ry
  have : min (PyData.depthAll ds) d.depth ≤ d.depth := Nat.min_le_right _ _
  exact SeqAt.in_list_reads r2 r1 se sd (by omega) ⟨.bl _, H, I, rfl, q⟩
theorem op_notInX {X : Cx} (hu : X.A.units + 64 < cLine) : OpR X (compareOp .NotIn) (rInX X.K true) := by
  intro pins s σ H x y v u Q I rx ry h
  obtain ⟨d, ds, hd, he, sd, se, dp, q⟩ := h
  obtain ⟨as, r1⟩ := Dp.reads I d x v hd rx
  obtain ⟨bs, r2⟩ := Dp.reads I (.list ds) y u he ry
  have : min (PyData.depthAll ds) d.depth ≤ d.depth := Nat.min_le_right _ _
  exact SeqAt.notIn_list_reads r2 r1 se sd (by omega) ⟨.bl _, H, I, rfl, q⟩
/-! ### weakest preconditions of these -/
section
variable {s : St} {EE : EP} {Q : RZ → List Obj → Prop}
theorem oq_sortX {x : SV} : opQ (oSortX g [x]) Q = opt (vL g x) fun ts => opt (strsOf ts) fun ws => (ws.length < 4096 ∧ (gatS [] ws).length < 64) ∧ Q (.n (.lst ((uniqS ws).map T.str))) g := by
  unfold oSortX
  dsimp only
  (cases vL g x; (focus rfl); try dsimp only)
  rename_i ts
  show _ = opt (strsOf ts) _
  (cases strsOf ts; (focus rfl); try dsimp only)
  exact ite_opQ
theorem oq_inD {neg : Bool} {x y : SV} : opQ (oInD neg g [x, y]) Q = opt (vP g x) fun d => match vP g y with
    | some (.list ds) => (d.canLay0 = true ∧ PyData.canLayAll0 ds = true ∧ d.depth ≤ 60) ∧ Q (.v (.t (.bl (if neg then !(ds.any fun z => PyData.eqv z d) else ds.any fun z => PyData.eqv z d)))) g
    | _ => False := by
  unfold oInD
  dsimp only
  cases e : vP g x with
  | none => rfl
  | some d =>
    rw [opt_some]
    split
    · rename_i d' ds e1 e2
      cases e1
      rw [e2]
      exact ite_opQ
    · rename_i h
      split
      · rename_i ds e2
        exact absurd e2 (h d ds rfl)
      · rfl
theorem oq_lenD {x : SV} : opQ (oLenD g [x]) Q = opt (vD g x) fun ts => Q (.v (.t (.int ts.length))) g := by
  unfold oLenD
  dsimp only
  (cases vD g x; (focus rfl); try dsimp only)
  rfl
theorem w_vals {f : M SV} {Q : List Im → List Obj → Prop} : WE (mVals f) s Q EE = WE f s (fun x g => opt (frzD g x) fun kvs => Q (valsI kvs) g) EE := by
  unfold mVals
  rw [w_bind]
  congr
  funext x g
  unfold WE opt
  dsimp only
  cases frzD g x <;> rfl
end
theorem cr_sortXK {X : Cx} {w : World} (h : X.w = w) (hc : X.calm = true) : CallR X (.builtin "sorted") (rSortX w) := h ▸ cr_sortX hc
theorem cr_setXK {X : Cx} {w : World} (h : X.w = w) (hK : X.K = K) (hc : X.calm = true) : CallR X (.type "set") (rSetX w K) := h ▸ hK ▸ cr_setX hc
end Mf


set_option Elab.async false
set_option linter.all false
set_option maxRecDepth 100000
set_option maxHeartbeats 8000000
namespace Mf
open PySem PySem.Spec PyProof.Rows L2 Sb
def m_definer : Mir := runD 4 ((sRet (mZ (mV (mOp2 oIxL (mT (mOp2 oCat (mT (mComp [3] (mItL (mVar 1)) (gN 3) (mB (mV (mOp2 (oIn false) (mVar 2) (mV (mOp2 oIxU (mV (mOp2 oDGet (mVar 0) (mVar 3))) (M.ret (.t (.int 1)))))))) (mVar 3))) (mT (mOp oDisp (mCons (M.ret (.t .non)) mNil))))) (M.ret (.t (.int 0))))))))
def m_global : Mir := runD 5 ((sSeq (sSet 3 (mT (mOp2 oCat (mT (mOp oDisp (mCons (mVar 1) mNil))) (mT (mOp oListOf (mCons (mVar 2) mNil))))))
      (sRet (mOp2 oCat (mVar 3) (mT (mComp [4] (mItL (mT (mCall 2 m_closed (mCons (mVar 0) (mCons (mVar 1) mNil))))) (gN 4) (mB (mV (mOp2 (oIn true) (mVar 4) (mVar 3)))) (mVar 4)))))))
def m_met : Mir := runD 5 ((sRet (mOp (oBools fun bs => bs.all id) (mCons (mT (mComp [3, 4] (mItems (mVar 2)) (gT (gsCons (gN 3) (gsCons (gN 4) gsNil))) (M.ret true) (mV (mOp2 (oEq false) (mV (mCall 3 m_definer (mCons (mVar 0) (mCons (mVar 1) (mCons (mVar 3) mNil))))) (mVar 4))))) mNil))))
def m_ahead : Mir := runD 7 ((sSeq (sSet 4 (mO (mOp oDisp mNil)))
      (sSeq (sFor (mItU (mV (mOp2 oIxU (mV (mOp2 oDGet (mVar 0) (mVar 3))) (M.ret (.t (.int 1)))))) (gN 5)
      (sSeq (sSet 6 (mV (mDGet1 (mVar 1) (mVar 5))))
      (sIf (mAnd (mB (mV (mIsN true (mVar 6)))) (mAnd (mB (mV (mOp2 (oEq true) (mVar 6) (mVar 3)))) (mB (mV (mOp2 (oIn false) (mVar 6) (mVar 2)))))) (sDrop (mMeth oAppend (mVar 4) (mCons (mVar 6) mNil))) sNx)))
      (sRet (mZ (mVar 4))))))
def m_lawreq : Mir := runD 10 ((sSeq (sSet 3 (mT (mCall 3 m_global (mCons (mVar 0) (mCons (mVar 1) (mCons (mT (mOp oDisp mNil)) mNil))))))
      (sSeq (sSet 5 (mT (mOp oSortX (mCons (mT (mComp [9, 4] (mItems (mVar 2)) (gT (gsCons (gN 9) (gsCons (gN 4) gsNil))) (mB (mV (mOp2 (oEq true) (mV (mCall 3 m_definer (mCons (mVar 0) (mCons (mVar 3) (mCons (mVar 9) mNil))))) (mVar 4)))) (mVar 4))) mNil))))
      (sSeq (sSet 6 (mT (mComp [4] (mVals (mVar 2)) (gN 4) (mB (mV (mOp2 (oEq true) (mVar 4) (mVar 1)))) (mVar 4))))
      (sSeq (sFor (mRng1 (mCons (mV (mOp oLenD (mCons (mVar 0) mNil))) mNil)) (gN 7)
      (sSeq (sSet 8 (mT (mOp oDisp mNil)))
      (sSeq (sFor (mItL (mVar 5)) (gN 4)
      (sSet 8 (mT (mOp2 oCat (mVar 8) (mT (mCall 4 m_ahead (mCons (mVar 0) (mCons (mVar 2) (mCons (mVar 6) (mCons (mVar 4) mNil))))))))))
      (sSet 5 (mT (mOp oSortX (mCons (mT (mOp2 oCat (mVar 5) (mVar 8))) mNil)))))))
      (sRet (mZ (mVar 5))))))))
def m_hoped75 : Mir := runD 9 ((sSeq (sIf (mB (mV (mOp2 (oEq false) (mV (mCall 2 m_draw (mCons (mVar 0) (mCons (M.ret (.t (.int 4))) mNil)))) (M.ret (.t (.int 0)))))) (sRet (mCall 3 m_wishes (mCons (mVar 0) (mCons (mVar 1) (mCons (mVar 3) mNil))))) sNx)
      (sSeq (sSet 4 (mT (mCall 3 m_part (mCons (mVar 0) (mCons (mT (mComp [8] (mKeys (mVar 1)) (gN 8) (mB (mV (mOp2 (oEq true) (mVar 8) (mVar 2)))) (mVar 8))) (mCons (mV (mCall 2 m_pick (mCons (mVar 0) (mCons (mT (mOp oDisp (mCons (M.ret (.t (.int 2))) (mCons (M.ret (.t (.int 3))) (mCons (M.ret (.t (.int 9))) mNil))))) mNil)))) mNil))))))
      (sSeq (sPar 5 6 (mCons (mT (mCall 3 m_global (mCons (mVar 1) (mCons (mVar 2) (mCons (mVar 4) mNil))))) (mCons (mO (fun s => some (.ok (.n (.dic [])) s.g))) mNil)))
      (sSeq (sFor (mItL (mT (mCall 3 m_part (mCons (mVar 0) (mCons (mVar 3) (mCons (mV (mCall 2 m_pick (mCons (mVar 0) (mCons (mT (mOp oDisp (mCons (M.ret (.t (.int 1))) (mCons (M.ret (.t (.int 1))) (mCons (M.ret (.t (.int 2))) mNil))))) mNil)))) mNil)))))) (gN 7)
      (sIf (mB (mV (mIsN true (mV (mCall 3 m_definer (mCons (mVar 1) (mCons (mVar 5) (mCons (mVar 7) mNil)))))))) (sDPut (mVar 6) (mVar 7) (mV (mCall 3 m_definer (mCons (mVar 1) (mCons (mVar 5) (mCons (mVar 7) mNil)))))) sNx))
      (sRet (mZ (mVar 6))))))))
def m_law75 : Mir := runD 10 ((sSeq (sFor (mEnum (mCons (mT (mOp2 oCat (mT (mOp oDisp (mCons (mV (mCall 2 m_cell_at (mCons (mVar 0) (mCons (M.ret (.t (.int 0))) mNil)))) mNil))) (mT (mSl oSlL (mVar 0) (mPart (M.ret (.t (.int 1)))) (mPart (M.ret (.t (.int 5)))))))) mNil)) (gT (gsCons (gN 1) (gsCons (gN 2) gsNil)))
      (sSeq (sSet 3 (mO (mCall 1 m_begin (mCons (mVar 2) mNil))))
      (sSeq (sSet 4 (mT (mCall 2 m_spelled (mCons (mVar 3) (mCons (mV (mOp2 oAdd (M.ret (.t (.int 1))) (mV (mCall 2 m_draw (mCons (mVar 3) (mCons (M.ret (.t (.int 15))) mNil)))))) mNil)))))
      (sSeq (sSet 5 (mV (mOp2 oIxU (mV (mCall 3 m_libraries (mCons (mVar 3) (mCons (mV (mOp2 oIxL (mT (mOp oDisp (mCons (M.ret (.t (.int 20))) (mCons (M.ret (.t (.int 40))) mNil)))) (mV (mOp oInt (mCons (mV (mOp2 (oEq false) (mVar 1) (M.ret (.t (.int 0))))) mNil))))) (mCons (mVar 4) mNil))))) (M.ret (.t (.int 0))))))
      (sSeq (sSet 6 (mV (mCall 2 m_pick (mCons (mVar 3) (mCons (mT (mCall 1 m_complete (mCons (mVar 5) mNil))) mNil)))))
      (sSeq (sFor (mRng1 (mCons (M.ret (.t (.int 3))) mNil)) (gN 7)
      (sSeq (sSet 8 (mTD (mCall 4 m_hoped75 (mCons (mVar 3) (mCons (mVar 5) (mCons (mVar 6) (mCons (mVar 4) mNil)))))))
      (sSeq (sSet 9 (mV (mCall 3 m_least_preloads (mCons (mV (mCall 1 m_stored (mCons (mVar 5) mNil))) (mCons (mVar 6) (mCons (mTD (mOp oDictD (mCons (mVar 8) mNil))) mNil))))))
      (sSeq (sIf (mAnd (mB (mV (mOp2 (oEq false) (mV (mOp2 oIxU (mVar 9) (M.ret (.t (.int 0))))) (M.ret (.t (.str "order")))))) (mB (mV (mOp2 (oEq true) (mT (mOp oSorted (mCons (mV (mOp2 oIxU (mVar 9) (M.ret (.t (.int 1))))) mNil))) (mT (mCall 3 m_lawreq (mCons (mVar 5) (mCons (mVar 6) (mCons (mVar 8) mNil))))))))) (sRet (mZ (M.ret (.t (.bl false))))) sNx)
      (sIf (mAnd (mB (mV (mCall 3 m_met (mCons (mVar 5) (mCons (mT (mCall 3 m_global (mCons (mVar 5) (mCons (mVar 6) (mCons (mT (mOp oDisp mNil)) mNil))))) (mCons (mVar 8) mNil)))))) (mB (mV (mOp2 (oEq true) (mVar 9) (mV (mOp oTup (mCons (M.ret (.t (.str "order"))) (mCons (mT (mOp oDisp mNil)) mNil)))))))) (sRet (mZ (M.ret (.t (.bl false))))) sNx)))))
      (sIf (mB (mV (mOp2 (oEq true) (mV (mCall 3 m_least_preloads (mCons (mV (mCall 1 m_stored (mCons (mVar 5) mNil))) (mCons (mVar 6) (mCons (mTD (fun s => some (.ok (.n (.dic [])) s.g))) mNil))))) (mV (mOp oTup (mCons (M.ret (.t (.str "order"))) (mCons (mT (mOp oDisp mNil)) mNil))))))) (sRet (mZ (M.ret (.t (.bl false))))) sNx)))))))
      (sRet (mZ (M.ret (.t (.bl true)))))))
end Mf


set_option Elab.async false
set_option linter.all false
set_option maxRecDepth 100000
set_option maxHeartbeats 8000000
namespace Mf
open PySem PySem.Spec PyProof.Rows L2 Sb
def m_orders : Mir := runD 7 ((sSeq (sPar 1 2 (mCons (mT (mOp oDisp (mCons (mV (mOp oTup mNil)) mNil))) (mCons (mT (mOp oDisp (mCons (mV (mOp oTup mNil)) mNil))) mNil)))
      (sSeq (sFor (mRng1 (mCons (mV (mOp oLen (mCons (mVar 0) mNil))) mNil)) (gN 3)
      (sSeq (sSet 4 (mO (mOp oDisp mNil)))
      (sSeq (sFor (mItL (mVar 2)) (gN 5)
      (sDrop (mMeth oExtend (mVar 4) (mCons (mT (mComp [6] (mItL (mVar 0)) (gN 6) (mB (mV (mOp2 (oIn true) (mVar 6) (mVar 5)))) (mV (mOp2 oCatU (mVar 5) (mV (mOp oTup (mCons (mVar 6) mNil))))))) mNil))))
      (sPar 1 2 (mCons (mT (mOp2 oCat (mVar 1) (mVar 4))) (mCons (mT (mZ (mVar 4))) mNil))))))
      (sRet (mZ (mVar 1))))))
def m_right71 : Mir := runD 9 ((sSeq (sUnp (mV (mOp oTup (mCons (mV (mCall 2 m_pick (mCons (mVar 0) (mCons (mT (mCall 1 m_complete (mCons (mVar 1) mNil))) mNil)))) (mCons (mTD (mCall 3 m_wishes (mCons (mVar 0) (mCons (mVar 1) (mCons (mVar 2) mNil))))) mNil)))) (gT (gsCons (gN 3) (gsCons (gN 4) gsNil))))
      (sSeq (sSet 5 (mO (mOp oDisp mNil)))
      (sSeq (sFor (mItL (mT (mCall 1 m_orders (mCons (mT (mComp [8] (mKeys (mVar 1)) (gN 8) (mB (mV (mOp2 (oEq true) (mVar 8) (mVar 3)))) (mVar 8))) mNil)))) (gN 6)
      (sIf (mB (mV (mCall 3 m_met (mCons (mVar 1) (mCons (mT (mCall 3 m_global (mCons (mVar 1) (mCons (mVar 3) (mCons (mVar 6) mNil))))) (mCons (mVar 4) mNil)))))) (sDrop (mMeth oAppend (mVar 5) (mCons (mVar 6) mNil))) sNx))
      (sSeq (sSet 7 (mV (mCall 3 m_least_preloads (mCons (mV (mCall 1 m_stored (mCons (mVar 1) mNil))) (mCons (mVar 3) (mCons (mTD (mOp oDictD (mCons (mVar 4) mNil))) mNil))))))
      (sSeq (sIf (mOr (mNot (mB (mV (mIsi "tuple" (mVar 7))))) (mB (mV (mOp2 (oEq true) (mV (mOp oLen (mCons (mVar 7) mNil))) (M.ret (.t (.int 2))))))) (sRet (mZ (M.ret (.t (.bl false))))) sNx)
      (sSeq (sIf (mB (mV (mOp2 (oEq true) (mV (mOp2 oIxU (mVar 7) (M.ret (.t (.int 0))))) (M.ret (.t (.str "order")))))) (sRet (mZ (mAndV (mV (mOp2 (oEq false) (mVar 5) (mT (mOp oDisp mNil)))) (mV (mOp2 (oIn false) (mV (mOp2 oIxU (mVar 7) (M.ret (.t (.int 0))))) (mV (mOp oTup (mCons (M.ret (.t (.str "undefined"))) (mCons (M.ret (.t (.str "main"))) (mCons (M.ret (.t (.str "ring"))) mNil)))))))))) sNx)
      (sSeq (sIf (mOr (mNot (mB (mV (mIsi "list" (mV (mOp2 oIxU (mVar 7) (M.ret (.t (.int 1))))))))) (mB (mV (mOp2 (oInD true) (mV (mOp oTupOf (mCons (mV (mOp2 oIxU (mVar 7) (M.ret (.t (.int 1))))) mNil))) (mVar 5))))) (sRet (mZ (M.ret (.t (.bl false))))) sNx)
      (sRet (mOp2 (oEq false) (mT (mComp [6] (mItL (mT (mZ (mVar 5)))) (gN 6) (mB (mV (mOp2 (oEq true) (mT (mComp [8] (mItL (mV (mOp2 oIxU (mVar 7) (M.ret (.t (.int 1)))))) (gN 8) (mB (mV (mOp2 (oIn true) (mVar 8) (mVar 6)))) (mVar 8))) (mT (mOp oDisp mNil))))) (mVar 6))) (mT (mOp oDisp mNil))))))))))))
def m_law71 : Mir := runD 6 ((sSeq (sFor (mItL (mT (mOp2 oCat (mT (mOp oDisp (mCons (mV (mCall 2 m_cell_at (mCons (mVar 0) (mCons (M.ret (.t (.int 0))) mNil)))) mNil))) (mT (mSl oSlL (mVar 0) (mPart (M.ret (.t (.int 1)))) (mPart (M.ret (.t (.int 4))))))))) (gN 1)
      (sSeq (sSet 2 (mO (mCall 1 m_begin (mCons (mVar 1) mNil))))
      (sSeq (sSet 3 (mT (mCall 2 m_spelled (mCons (mVar 2) (mCons (mV (mOp2 oAdd (M.ret (.t (.int 1))) (mV (mCall 2 m_draw (mCons (mVar 2) (mCons (M.ret (.t (.int 4))) mNil)))))) mNil)))))
      (sSeq (sSet 4 (mV (mOp2 oIxU (mV (mCall 3 m_libraries (mCons (mVar 2) (mCons (M.ret (.t (.int 5))) (mCons (mVar 3) mNil))))) (M.ret (.t (.int 0))))))
      (sFor (mRng1 (mCons (M.ret (.t (.int 3))) mNil)) (gN 5)
      (sIf (mNot (mB (mV (mCall 3 m_right71 (mCons (mVar 2) (mCons (mVar 4) (mCons (mVar 3) mNil))))))) (sRet (mZ (M.ret (.t (.bl false))))) sNx))))))
      (sRet (mZ (M.ret (.t (.bl true)))))))
end Mf


set_option Elab.async false
set_option linter.all false
set_option maxRecDepth 100000
set_option maxHeartbeats 4000000
namespace Mf
open PySem PySem.Spec PyProof.Rows L2 Sb
open PySem.W (AlikeAll minD min_list_data alike alikeAll alike_unique readsAll_atA reads_keeps dataLt dataLt_str dataLt_tuple dataLt_cons)
variable {K : PySem.W.Frag} {F F' F2 : Hp} {g g' : List Obj} {ad ad' : Nat → Addr} {L L' : Cells} {H H' : Hp} {σ : L2.St} {E : XK}
/-! ### min of a list of alike things -/
def rMinX (K : PySem.W.Frag) : List V → Hp → VK → Prop := fun vs H Q => ∃ (a : Addr) (xs : List V) (d : PyData) (ds : List PyData), vs = [V.ref a] ∧ SqL K H a xs ∧ DpAll K H xs (d :: ds) ∧ AlikeAll (d :: ds) ∧ PyData.depthAll (d :: ds) ≤ 60 ∧
  ∀ (i : Nat) (x : V), xs[i]? = some x → (d :: ds)[i]? = some (minD d ds) → Q x H
theorem minD_mem (d : PyData) (ds : List PyData) : minD d ds ∈ d :: ds := by
  unfold minD
  induction ds generalizing d with
  | nil => exact List.mem_cons_self
  | cons e ds ih =>
    rw [List.foldl_cons]
    split
    · exact List.mem_cons_of_mem _ (ih e)
    · rcases List.mem_cons.mp (ih d) with h | h
      · rw [h]
        exact List.mem_cons_self
      · exact List.mem_cons_of_mem _ (List.mem_cons_of_mem _ h)
theorem cr_minX {X : Cx} (hc : X.calm = true) (hu : X.A.units + 64 < cLine) : CallR X (.builtin "min") (rMinX X.K) := by
  intro pins s σ H vs us Q I r h
  obtain ⟨a, xs, d, ds, rfl, hs, hd, ha, hp, q⟩ := h
  obtain ⟨its, rv, pl, _⟩ := I.list hs
  rw [Vals.ref1 r]
  obtain ⟨as, ra⟩ := Dp.readsAll I (d :: ds) _ its hd rv
  have ra2 : ReadsAll s.heap its.toArray.toList (d :: ds) as := by simpa using ra
  refine min_list_data (I.ok.hd hc) pl.isList ra2 ha (by omega) fun i v h' tk bs hv r2 hk => ?_
  obtain ⟨bs', r3, hi, hm, _⟩ := readsAll_atA ra2 i v hv
  have hl := rv.length
  have hv2 : its[i]? = some v := by simpa using hv
  have hii : i < its.length := (List.getElem?_eq_some_iff.mp hv2).1
  obtain ⟨w, hw, rw_⟩ := rv.get (i := i) (x := xs[i]) (List.getElem?_eq_getElem (by omega))
  rw [hv2] at hw
  cases hw
  have e1 : (d :: ds).getD i .none = minD d ds := alike_unique _ _ v bs' bs (ha.1 _ hm _ (minD_mem d ds)) (reads_keeps hk r3) r2
  refine ⟨xs[i], H, I.kept hk, rw_, q i _ (List.getElem?_eq_getElem (by omega)) ?_⟩
  rw [List.getElem?_eq_getElem hi]
  rw [List.getD_eq_getElem?_getD, List.getElem?_eq_getElem hi] at e1
  rw [← e1]
  rfl
mutual
def tOf : PyData → T
  | .none => .non
  | .bool b => .bl b
  | .int i => .int i
  | .str x => .str x
  | .list xs => .lst (tOfs xs)
  | .tuple xs => .tup (tOfs xs)
  | .dict _ => .non
def tOfs : List PyData → List T
  | [] => []
  | x :: xs => tOf x :: tOfs xs
end
mutual
theorem tOf_pd : ∀ (t : T) (d : PyData), pd t = some d → tOf d = t
  | .non, d, e => by cases e; rw [tOf]
  | .bl b, d, e => by cases e; rw [tOf]
  | .int i, d, e => by cases e; rw [tOf]
  | .str x, d, e => by cases e; rw [tOf]
  | .lst xs, d, e => by
    rw [pd] at e
    obtain ⟨ds, e2, rfl⟩ := Option.map_eq_some_iff.mp e
    rw [tOf, tOf_pds xs ds e2]
  | .tup xs, d, e => by
    rw [pd] at e
    obtain ⟨ds, e2, rfl⟩ := Option.map_eq_some_iff.mp e
    rw [tOf, tOf_pds xs ds e2]
  | .scr _, _, e => by cases e
  | .dic _, _, e => by cases e
  | .dct _, _, e => by cases e
  | .lib _, _, e => by cases e
  | .sto _, _, e => by cases e
theorem tOf_pds : ∀ (xs : List T) (ds : List PyData), pds xs = some ds → tOfs ds = xs
  | [], ds, e => by cases e; rfl
  | x :: xs, ds, e => by
    rw [pds] at e
    cases e1 : pd x with
    | none => rw [e1] at e; cases e
    | some d =>
      cases e2 : pds xs with
      | none => rw [e1, e2] at e; cases e
      | some ds' =>
        rw [e1, e2] at e
        cases e
        rw [tOfs, tOf_pd x d e1, tOf_pds xs ds' e2]
end
def notNone : PyData → Bool
  | .none => false
  | _ => true
def alikeB (ds : List PyData) : Bool := (ds.all fun x => ds.all fun y => alike x y) && ds.all notNone
theorem alikeB_ok {ds : List PyData} (h : alikeB ds = true) : AlikeAll ds := by
  unfold alikeB at h
  rw [Bool.and_eq_true] at h
  refine ⟨fun x hx y hy => List.all_eq_true.mp (List.all_eq_true.mp h.1 x hx) y hy, fun x hx e => ?_⟩
  have := List.all_eq_true.mp h.2 x hx
  rw [e] at this
  cases this
/-- min(a list) -/
def oMinD : VO := fun g xs => match xs with
  | [x] => match vL g x with
    | some ts => match pds ts with
      | some (d :: ds) => if alikeB (d :: ds) = true ∧ PyData.depthAll (d :: ds) ≤ 60 then some (.v (.t (tOf (minD d ds))), g) else none
      | _ => none
    | none => none
  | _ => none
theorem pds_get : ∀ {ts : List T} {ds : List PyData} {i : Nat} {d : PyData}, pds ts = some ds → ds[i]? = some d → ∃ t, ts[i]? = some t ∧ pd t = some d
  | [], ds, i, d, e, h => by cases e; simp at h
  | x :: xs, ds, i, d, e, h => by
    rw [pds] at e
    cases e1 : pd x with
    | none => rw [e1] at e; cases e
    | some d' =>
      cases e2 : pds xs with
      | none => rw [e1, e2] at e; cases e
      | some ds' =>
        rw [e1, e2] at e
        cases e
        cases i with
        | zero =>
          cases h
          exact ⟨x, rfl, e1⟩
        | succ i => exact pds_get (ts := xs) (ds := ds') e2 (by simpa using h)
theorem vo_minD : VOK K (rMinX K) oMinD := by
  intro g F ad L H xs vs Q z g' hg hv ho k
  unfold oMinD at ho
  split at ho
  · rename_i x
    obtain ⟨v1, _, rfl, h1, rfl⟩ := hv
    split at ho
    · rename_i ts e
      split at ho
      · rename_i d ds e2
        by_cases q : alikeB (d :: ds) = true ∧ PyData.depthAll (d :: ds) ≤ 60
        · rw [if_pos q] at ho
          cases ho
          obtain ⟨p, us, rfl, h3, h4⟩ := vL_ok hg h1 e
          refine ⟨p, us, d, ds, rfl, h3, DpAll.upG hg.gr _ _ (pds_dp _ _ _ h4 e2).1, alikeB_ok q.1, q.2, fun i x hx hm => ?_⟩
          obtain ⟨t, ht, hpt⟩ := pds_get e2 hm
          rw [tOf_pd t _ hpt] at k
          obtain ⟨u, hu, ru⟩ := h4.get ht
          rw [hx] at hu
          cases hu
          exact resT hg ru k
        · rw [if_neg q] at ho; cases ho
      · cases ho
    · cases ho
  · cases ho
theorem oq_minD {Q : RZ → List Obj → Prop} {x : SV} : opQ (oMinD g [x]) Q = opt (vL g x) fun ts => match pds ts with
    | some (d :: ds) => (alikeB (d :: ds) = true ∧ PyData.depthAll (d :: ds) ≤ 60) ∧ Q (.v (.t (tOf (minD d ds)))) g
    | _ => False := by
  unfold oMinD
  dsimp only
  cases e : vL g x with
  | none => rfl
  | some ts =>
    dsimp only
    rw [opt_some]
    split
    · exact ite_opQ
    · rfl
/-! ### the least of texts, the least of rows of texts -/
def ltS (a b : Str) : Bool := decide (a.cps.toList < b.cps.toList)
theorem leS_lt (a b : Str) : leS a b = !ltS b a := by
  unfold leS ltS
  rw [ltCps_eq]
theorem ltS_irr (a : Str) : ltS a a = false := by
  unfold ltS
  simp
theorem ltS_asym {a b : Str} (h : ltS a b = true) : ltS b a = false := by
  unfold ltS at h ⊢
  have h := of_decide_eq_true h
  exact decide_eq_false (List.lt_asymm h)
theorem ltS_of {a b : Str} (h : leS a b = true) (n : a ≠ b) : ltS a b = true := by
  cases q : ltS a b with
  | true => rfl
  | false =>
    have h2 : leS b a = true := by rw [leS_lt, q]; rfl
    exact absurd (leS_anti a b h h2) n
def ltR : List Str → List Str → Bool
  | x :: xs, y :: ys => if x = y then ltR xs ys else ltS x y
  | _, _ => false
theorem ltR_irr : ∀ a : List Str, ltR a a = false
  | [] => rfl
  | x :: xs => by rw [ltR, if_pos rfl, ltR_irr xs]
theorem ltR_asym : ∀ {a b : List Str}, ltR a b = true → ltR b a = false
  | x :: xs, y :: ys, h => by
    rw [ltR] at h ⊢
    by_cases q : x = y
    · subst q
      rw [if_pos rfl] at h ⊢
      exact ltR_asym h
    · rw [if_neg q] at h
      rw [if_neg fun e => q e.symm]
      exact ltS_asym h
  | [], [], h => by cases h
  | [], _ :: _, h => by cases h
  | _ :: _, [], h => by cases h
theorem dlt_str (a b : Str) : dataLt (.str a) (.str b) = ltS a b := dataLt_str a b
theorem dlt_row : ∀ {a b : List Str}, a.length = b.length → dataLt (.tuple (a.map .str)) (.tuple (b.map .str)) = ltR a b
  | [], [], _ => by rw [dataLt_tuple]; rfl
  | x :: xs, y :: ys, h => by
    have ih := dlt_row (a := xs) (b := ys) (by simpa using h)
    rw [dataLt_tuple] at ih ⊢
    rw [List.map_cons, List.map_cons, dataLt_cons (show alike (.str x) (.str y) = true by rw [alike]), ih, eqv_str, dlt_str, ltR]
    by_cases q : x = y <;> simp [q]
  | [], _ :: _, h => by cases h
  | _ :: _, [], h => by cases h
/-- the one that is less than all others -/
theorem minD_is {r d : PyData} {ds : List PyData} (hm : r ∈ d :: ds) (h : ∀ y ∈ d :: ds, y ≠ r → dataLt r y = true ∧ dataLt y r = false) (irr : dataLt r r = false) : minD d ds = r := by
  have keep : ∀ l : List PyData, (∀ y ∈ l, y ≠ r → dataLt y r = false) → l.foldl (fun a y => if dataLt y a then y else a) r = r := by
    intro l
    induction l with
    | nil => intro _; rfl
    | cons y l ih =>
      intro hl
      rw [List.foldl_cons]
      have e : (if dataLt y r = true then y else r) = r := by
        by_cases q : y = r
        · rw [q]
          split <;> rfl
        · rw [hl y List.mem_cons_self q]
          rfl
      rw [e]
      exact ih fun y hy => hl y (List.mem_cons_of_mem _ hy)
  have go : ∀ (l : List PyData) (a : PyData), (a = r ∨ r ∈ l) → (a ≠ r → dataLt r a = true) → (∀ y ∈ l, y ≠ r → dataLt r y = true ∧ dataLt y r = false) → l.foldl (fun a y => if dataLt y a then y else a) a = r := by
    intro l
    induction l with
    | nil =>
      intro a h1 _ _
      rcases h1 with h1 | h1
      · exact h1
      · cases h1
    | cons y l ih =>
      intro a h1 h2 h3
      by_cases qa : a = r
      · subst qa
        exact keep _ fun y hy n => (h3 y hy n).2
      · rw [List.foldl_cons]
        by_cases qy : y = r
        · subst qy
          rw [if_pos (h2 qa)]
          exact keep _ fun z hz n => (h3 z (List.mem_cons_of_mem _ hz) n).2
        · refine ih _ (.inr ?_) ?_ fun z hz => h3 z (List.mem_cons_of_mem _ hz)
          · rcases h1 with h1 | h1
            · exact absurd h1 qa
            · rcases List.mem_cons.mp h1 with e | h1
              · exact absurd e.symm qy
              · exact h1
          · intro n
            split
            · exact (h3 y List.mem_cons_self qy).1
            · exact h2 qa
  unfold minD
  refine go ds d ?_ (fun n => (h d List.mem_cons_self n).1) fun y hy => h y (List.mem_cons_of_mem _ hy)
  rcases List.mem_cons.mp hm with e | e
  · exact .inl e.symm
  · exact .inr e
end Mf


set_option Elab.async false
set_option linter.all false
set_option maxRecDepth 100000
set_option maxHeartbeats 8000000
namespace Mf
open PySem PySem.Spec PyProof.Rows L2 Sb
def m_order_right : Mir := runD 9 ((sSeq (sFor (mRng1 (mCons (mV (mOp oLen (mCons (mVar 3) mNil))) mNil)) (gN 4)
      (sSeq (sSet 5 (mT (mComp [7] (mItL (mT (mSl oSlL (mVar 3) (mPart (mVar 4)) (M.ret none)))) (gN 7) (mB (mV (mOp2 (oEq false) (mT (mCall 4 m_ahead (mCons (mVar 0) (mCons (mVar 2) (mCons (mT (mSl oSlL (mVar 3) (mPart (mVar 4)) (M.ret none))) (mCons (mVar 7) mNil)))))) (mT (mOp oDisp mNil))))) (mVar 7))))
      (sIf (mOr (mB (mV (mOp2 (oEq false) (mVar 5) (mT (mOp oDisp mNil))))) (mB (mV (mOp2 (oEq true) (mV (mOp oMinD (mCons (mVar 5) mNil))) (mV (mOp2 oIxL (mVar 3) (mVar 4))))))) (sRet (mZ (M.ret (.t (.bl false))))) sNx)))
      (sSeq (sIf (mNot (mB (mV (mCall 3 m_met (mCons (mVar 0) (mCons (mT (mCall 3 m_global (mCons (mVar 0) (mCons (mVar 1) (mCons (mVar 3) mNil))))) (mCons (mVar 2) mNil))))))) (sRet (mZ (M.ret (.t (.bl false))))) sNx)
      (sSeq (sIf (mB (mV (mOp2 oGt (mV (mOp oLen (mCons (mVar 3) mNil))) (M.ret (.t (.int 4)))))) (sRet (mZ (M.ret (.t (.bl true))))) sNx)
      (sSeq (sSet 6 (mT (mComp [8] (mItL (mT (mCall 1 m_orders (mCons (mVar 3) mNil)))) (gN 8) (mB (mV (mOp2 (oEq false) (mV (mOp oLen (mCons (mVar 8) mNil))) (mV (mOp oLen (mCons (mVar 3) mNil)))))) (mVar 8))))
      (sRet (mOp2 (oEq false) (mT (mOp oListOf (mCons (mV (mOp oMinD (mCons (mT (mComp [8] (mItL (mVar 6)) (gN 8) (mB (mV (mCall 3 m_met (mCons (mVar 0) (mCons (mT (mCall 3 m_global (mCons (mVar 0) (mCons (mVar 1) (mCons (mVar 8) mNil))))) (mCons (mVar 2) mNil)))))) (mVar 8))) mNil))) mNil))) (mVar 3))))))))
def m_hoped72 : Mir := runD 9 ((sSeq (sIf (mB (mV (mOp2 (oEq false) (mV (mCall 2 m_draw (mCons (mVar 0) (mCons (M.ret (.t (.int 3))) mNil)))) (M.ret (.t (.int 0)))))) (sRet (mCall 3 m_wishes (mCons (mVar 0) (mCons (mVar 1) (mCons (mVar 3) mNil))))) sNx)
      (sSeq (sSet 4 (mT (mCall 3 m_part (mCons (mVar 0) (mCons (mT (mComp [8] (mKeys (mVar 1)) (gN 8) (mB (mV (mOp2 (oEq true) (mVar 8) (mVar 2)))) (mVar 8))) (mCons (M.ret (.t (.int 2))) mNil))))))
      (sSeq (sPar 5 6 (mCons (mT (mCall 3 m_global (mCons (mVar 1) (mCons (mVar 2) (mCons (mVar 4) mNil))))) (mCons (mO (fun s => some (.ok (.n (.dic [])) s.g))) mNil)))
      (sSeq (sFor (mItL (mT (mCall 3 m_part (mCons (mVar 0) (mCons (mVar 3) (mCons (mV (mCall 2 m_pick (mCons (mVar 0) (mCons (mT (mOp oDisp (mCons (M.ret (.t (.int 1))) (mCons (M.ret (.t (.int 1))) (mCons (M.ret (.t (.int 2))) mNil))))) mNil)))) mNil)))))) (gN 7)
      (sIf (mB (mV (mIsN true (mV (mCall 3 m_definer (mCons (mVar 1) (mCons (mVar 5) (mCons (mVar 7) mNil)))))))) (sDPut (mVar 6) (mVar 7) (mV (mCall 3 m_definer (mCons (mVar 1) (mCons (mVar 5) (mCons (mVar 7) mNil)))))) sNx))
      (sRet (mZ (mVar 6))))))))
def m_law72 : Mir := runD 9 ((sSeq (sFor (mItL (mT (mOp2 oCat (mT (mOp oDisp (mCons (mV (mCall 2 m_cell_at (mCons (mVar 0) (mCons (M.ret (.t (.int 0))) mNil)))) mNil))) (mT (mSl oSlL (mVar 0) (mPart (M.ret (.t (.int 1)))) (mPart (M.ret (.t (.int 4))))))))) (gN 1)
      (sSeq (sSet 2 (mO (mCall 1 m_begin (mCons (mVar 1) mNil))))
      (sSeq (sSet 3 (mT (mCall 2 m_spelled (mCons (mVar 2) (mCons (mV (mOp2 oAdd (M.ret (.t (.int 1))) (mV (mCall 2 m_draw (mCons (mVar 2) (mCons (M.ret (.t (.int 9))) mNil)))))) mNil)))))
      (sSeq (sSet 4 (mV (mOp2 oIxU (mV (mCall 3 m_libraries (mCons (mVar 2) (mCons (M.ret (.t (.int 14))) (mCons (mVar 3) mNil))))) (M.ret (.t (.int 0))))))
      (sSeq (sSet 5 (mV (mCall 2 m_pick (mCons (mVar 2) (mCons (mT (mCall 1 m_complete (mCons (mVar 4) mNil))) mNil)))))
      (sFor (mRng1 (mCons (M.ret (.t (.int 3))) mNil)) (gN 6)
      (sSeq (sSet 7 (mTD (mCall 4 m_hoped72 (mCons (mVar 2) (mCons (mVar 4) (mCons (mVar 5) (mCons (mVar 3) mNil)))))))
      (sSeq (sSet 8 (mV (mCall 3 m_least_preloads (mCons (mV (mCall 1 m_stored (mCons (mVar 4) mNil))) (mCons (mVar 5) (mCons (mTD (mOp oDictD (mCons (mVar 7) mNil))) mNil))))))
      (sIf (mAnd (mB (mV (mOp2 (oEq false) (mV (mOp2 oIxU (mVar 8) (M.ret (.t (.int 0))))) (M.ret (.t (.str "order")))))) (mNot (mB (mV (mCall 4 m_order_right (mCons (mVar 4) (mCons (mVar 5) (mCons (mVar 7) (mCons (mV (mOp2 oIxU (mVar 8) (M.ret (.t (.int 1))))) mNil))))))))) (sRet (mZ (M.ret (.t (.bl false))))) sNx)))))))))
      (sRet (mZ (M.ret (.t (.bl true)))))))
end Mf


set_option Elab.async false
set_option linter.all false
set_option maxRecDepth 100000
set_option maxHeartbeats 4000000
namespace Mf
open PySem PySem.Spec PyProof.Rows L2 Sb
local macro_rules | `(tactic| walk_at "wp") => `(tactic| simp only [w_bind, w_ret, w_var, slQ_t, slQ_o, get0, getS, set0, setS, w_T, trQ_t, trQ_n, w_O, objQ_v, objQ_n, w_V, valQ_v, w_Z, w_TD, sealQ_n, w_nil, w_cons, opQ_some, w_op, w_op2, blQ_b, w_B, w_and, w_or, w_not, w_If, w_andV, w_orV, w_notV,
  opt_some, w_tru, w_isN, w_isi, s_nx, s_seq, s_ret, s_retN, s_drop, s_if, s_set, s_par, args2Q_is, augQ_t, s_aug, treeQ_t, s_unp, s_raise, s_for, itLQ_l, w_itL, itUQ_u, w_itU, lstsQ_l, zipQ_l, enumQ_l, rngQ_i, w_rng1, w_keys, w_items, libQ_l, w_libF, w_mkLib, w_meth, w_meth0, w_sl, w_part, partQ_i,
  vL_t, vL_s, vL_0, vL_f, vL_S, vL_u, vM_t, vM_0, vM_f, vM_S, vU_t, lstAt_0, lstAt_S, dicAt_0, dicAt_S, vD_t, vD_0, vD_f, vD_S, frzD_t, frzD_f, frzD_S, kindV_t, kindV_d, kindV_l, kindV_f, kindV_S, vP_t, vP_l, vP_f, vP_S, isL_is, or_some, none_or,
  oq_add, oq_sub, oq_lt, oq_le, oq_gt, oq_ge, oq_mul, oq_mod, oq_div, oq_pow, oq_intB, oq_intI, oq_neg, oq_addS, oq_ixS, oq_ixL, oq_ixU, oq_lenL, oq_lenU, oq_lenN, oq_lenS, oq_lenO, oq_cat, oq_catU, oq_rep, oq_disp0, oq_disp1, oq_disp2, oq_disp3, oq_disp4, oq_disp5, oq_disp6, oq_disp7,
  oq_tup0, oq_tup1, oq_tup2, oq_tup3, oq_tup4, oq_tup5, oq_tup6, oq_tupOf, oq_revL, oq_append, oq_extend, oq_popAt, oq_pop, oq_remove, oq_index, oq_eq, oq_in, oq_dget, oq_din, oq_listD, oq_dictD, oq_sorted, oq_sortedD, oq_bools, oq_inSto, oq_isWord, oq_names, so_lL, so_uU,
  all_str, all_int, inF_str, strsOf_map, boolsOf_map, libsOf_map, pds_str, pds_int, List.length_map, List.length_cons, List.length_nil, List.length_append, Option.map_some, Option.isSome_some, Bool.true_and, true_and, and_true, Nat.reduceAdd, Nat.reduceSub, List.replicate, List.cons_append, List.nil_append, if_true, Bool.false_eq_true, if_false, reduceCtorEq, exQ_t, exQ_n, exQ_o, outQ_f, outQ_l, outQ_d, s_setIx, setIxQ_i, s_dPut, dPutQ_k, ix_0, ix_1, ix_2, at_0, at_1, at_2, at_3, at_4, at_5, decide_eq_true_eq, List.take_succ_cons, List.take_zero, Nat.reduceLT, Nat.lt_irrefl, Nat.zero_lt_succ, w_dnew, sealQ_o, sealO_d, trQ_o, trO_l, trO_f, pd_int, pd_str, pd_bl, pd_non, pd_lst, pds_nil, dp_int, dp_str, dp_bl, dp_non, dp_nil, dp_strs, eqv_int, eqv_str, eqv_strs, eqv_strs0, Bool.not_eq_true', decide_eq_false_iff_not])
theorem fdivB {x m : Int} (h0 : 0 ≤ x) (h : 0 < m) : 0 ≤ x.fdiv m ∧ x.fdiv m ≤ x := by
  rw [Int.fdiv_eq_ediv_of_nonneg _ (by omega)]
  exact ⟨Int.ediv_nonneg h0 (by omega), Int.ediv_le_self _ h0⟩
theorem r_draw {n : Nat} {m : Int} {w : List T} {Q : RZ → List Obj → Prop} {E : EP} (hw : Wl n w) (hn : n < 1000000) (m0 : 0 < m) (m1 : m < 1000000) (h : ∀ w' d, Wl (n + 1) w' → 0 ≤ d → d < m → Q (.v (.t (.int d))) [.lst w']) : MR m_draw [.o 0, .t (.int m)] [.lst w] Q E := by
  obtain ⟨a, b, c, rfl, b0, b1, c0, c1⟩ := hw.is
  refine m_run ?_
  walk_at "wp"
  split
  · have q := fmodB (x := a) m0
    exact ⟨by omega, ⟨by omega, by omega⟩, h _ _ ⟨_, b, c, rfl, b0, b1, c0, by omega⟩ q.1 q.2⟩
  · have e5 : (b + 30103 * (c + 1) + 11).natAbs < 2 ^ 64 := by omega
    generalize (b + 30103 * (c + 1) + 11) ^ Int.toNat 5 = z
    obtain ⟨z0, z1⟩ := fmodB (x := z) (m := 2147483647) (by decide)
    generalize z.fmod 2147483647 = y at z0 z1 ⊢
    obtain ⟨q0, q1⟩ := fdivB (m := 1013) z0 (by decide)
    generalize y.fdiv 1013 = u at q0 q1 ⊢
    obtain ⟨p0, p1⟩ := fmodB (x := (y + 7919 * (c + 1)) * (u + 69623)) (m := 2147483587) (by decide)
    have cm : ∀ a b : Int, -(2 ^ 64) < a → a < 2 ^ 64 → cMul a b = true := fun a b h h' => by
      unfold cMul
      rw [decide_eq_true h, decide_eq_true h']
      rfl
    refine ⟨cm _ _ (by decide) (by decide), ⟨by decide, by decide, e5⟩, by decide, cm _ _ (by decide) (by decide), by decide, cm _ _ (by omega) (by omega), by decide, by decide, cm _ _ (by omega) (by omega), by decide, by decide, by omega, ?_⟩
    have q := fun x => fmodB (x := x) (m := m) m0
    exact h _ _ ⟨a, b, c + 1, rfl, b0, b1, by omega, by omega⟩ (q _).1 (q _).2
theorem opt_at {ts : List T} {d : Int} (h0 : 0 ≤ d) (h1 : d < ts.length) : ∃ t, atI ts d = some t ∧ t ∈ ts := by
  obtain ⟨k, rfl⟩ := Int.eq_ofNat_of_zero_le h0
  have hk : k < ts.length := by omega
  exact ⟨ts[k], by rw [atI_lt hk, List.getElem?_eq_getElem hk], List.getElem_mem hk⟩
/-- a call whose only thing that may change is the first argument -/
theorem w_call1 {s : St} {E : EP} {n : Nat} {m : Mir} {f : M (List SV)} {Q : RZ → List Obj → Prop} (h : WE f s (fun xs g => ∃ i ts o, xs = .o i :: (ts : List T).map SV.t ∧ ts.length + 1 = n ∧ g[i]? = some o ∧
    MR m (.o 0 :: ts.map SV.t) [o] (fun z g' => ∃ o', g' = [o'] ∧ ((∃ t, z = .v (.t t)) ∨ ∃ o, z = .n o) ∧ Q z (g.set i o')) (fun c t g' => ∃ o', g' = [o'] ∧ E c t (g.set i o'))) E) : WE (mCall n m f) s Q E := by
  refine w_call (h.mono (fun xs g h => ?_) fun _ _ _ h => h)
  obtain ⟨i, ts, o, rfl, hl, hg, hm⟩ := h
  have e1 : ∀ ts : List T, hs (ts.map SV.t) = [] := by
    intro ts
    induction ts with
    | nil => rfl
    | cons t ts ih => exact ih
  have e2 : ∀ (ts : List T) k, ren k (ts.map SV.t) = ts.map SV.t := by
    intro ts
    induction ts with
    | nil => intro k; rfl
    | cons t ts ih => intro k; rw [List.map_cons, ren, ih]; intro i h; cases h
  have e3 : hs (.o i :: ts.map SV.t) = [i] := by rw [hs, e1]
  have e4 : ren 0 (.o i :: ts.map SV.t) = .o 0 :: ts.map SV.t := by rw [ren, e2]
  refine ⟨by simpa using hl, by rw [e3]; simp, [o], by rw [e3]; simp [pick, hg], ?_⟩
  rw [e4, e3]
  refine hm.mono (fun z g' hz => ?_) fun c t g' hz => ?_
  · obtain ⟨o', rfl, hz, hq⟩ := hz
    refine ⟨rfl, z, ?_, hq⟩
    rcases hz with ⟨t, rfl⟩ | ⟨o, rfl⟩ <;> rfl
  · obtain ⟨o', rfl, hq⟩ := hz
    exact ⟨rfl, hq⟩
/-- a call that may change nothing -/
theorem w_call0 {s : St} {E : EP} {n : Nat} {m : Mir} {f : M (List SV)} {Q : RZ → List Obj → Prop} (h : WE f s (fun xs g => ∃ ts, xs = (ts : List T).map SV.t ∧ ts.length = n ∧
    MR m (ts.map SV.t) [] (fun z g' => g' = [] ∧ ((∃ t, z = .v (.t t)) ∨ ∃ o, z = .n o) ∧ Q z g) (fun c t g' => g' = [] ∧ E c t g)) E) : WE (mCall n m f) s Q E := by
  refine w_call (h.mono (fun xs g h => ?_) fun _ _ _ h => h)
  obtain ⟨ts, rfl, hl, hm⟩ := h
  have e1 : ∀ ts : List T, hs (ts.map SV.t) = [] := by
    intro ts
    induction ts with
    | nil => rfl
    | cons t ts ih => exact ih
  have e2 : ∀ (ts : List T) k, ren k (ts.map SV.t) = ts.map SV.t := by
    intro ts
    induction ts with
    | nil => intro k; rfl
    | cons t ts ih => intro k; rw [List.map_cons, ren, ih]; intro i h; cases h
  refine ⟨by simpa using hl, by rw [e1]; exact List.nodup_nil, [], by rw [e1]; rfl, ?_⟩
  rw [e2, e1]
  refine hm.mono (fun z g' hz => ?_) fun c t g' hz => ?_
  · obtain ⟨rfl, hz, hq⟩ := hz
    refine ⟨rfl, z, ?_, hq⟩
    rcases hz with ⟨t, rfl⟩ | ⟨o, rfl⟩ <;> rfl
  · obtain ⟨rfl, hq⟩ := hz
    exact ⟨rfl, hq⟩
/-- draw, called: for the simp runs -/
theorem c_draw {s : St} {E : EP} {f : M (List SV)} {Q : RZ → List Obj → Prop} {n : Nat} (hn : n < 1000000) (h : WE f s (fun xs g => ∃ i m w, xs = [.o i, .t (.int m)] ∧ g[i]? = some (.lst w) ∧ Wl n w ∧ 0 < m ∧ m < 1000000 ∧ ∀ w' d, Wl (n + 1) w' → 0 ≤ d → d < m → Q (.v (.t (.int d))) (g.set i (.lst w'))) E) : WE (mCall 2 m_draw f) s Q E := by
  refine w_call1 (h.mono (fun xs g h => ?_) fun _ _ _ h => h)
  obtain ⟨i, m, w, rfl, hg, hw, m0, m1, k⟩ := h
  refine ⟨i, [.int m], _, rfl, rfl, hg, r_draw hw hn m0 m1 fun w' d h1 h2 h3 => ⟨_, rfl, .inl ⟨_, rfl⟩, k w' d h1 h2 h3⟩⟩
theorem r_pick {n : Nat} {ts : List T} {w : List T} {Q : RZ → List Obj → Prop} {E : EP} (hw : Wl n w) (hn : n < 1000000) (m0 : 0 < ts.length) (m1 : ts.length < 1000000) (h : ∀ w' t, Wl (n + 1) w' → t ∈ ts → Q (.v (.t t)) [.lst w']) : MR m_pick [.o 0, .t (.lst ts)] [.lst w] Q E := by
  refine m_run ?_
  walk_at "wp"
  refine c_draw hn ?_
  walk_at "wp"
  refine ⟨0, ts.length, w, rfl, rfl, hw, by omega, by omega, fun w' d hw' d0 d1 => ?_⟩
  obtain ⟨t, e, ht⟩ := opt_at d0 d1
  walk_at "wp"
  rw [e]
  exact h w' t hw' ht
end Mf


set_option Elab.async false
set_option linter.all false
set_option maxRecDepth 100000
set_option maxHeartbeats 4000000
namespace Mf
open PySem PySem.Spec PyProof.Rows L2 Sb
local macro_rules | `(tactic| walk_at "wp") => `(tactic| simp only [w_bind, w_ret, w_var, slQ_t, slQ_o, get0, getS, set0, setS, w_T, trQ_t, trQ_n, w_O, objQ_v, objQ_n, w_V, valQ_v, w_Z, w_TD, sealQ_n, w_nil, w_cons, opQ_some, w_op, w_op2, blQ_b, w_B, w_and, w_or, w_not, w_If, w_andV, w_orV, w_notV,
  opt_some, w_tru, w_isN, w_isi, s_nx, s_seq, s_ret, s_retN, s_drop, s_if, s_set, s_par, args2Q_is, augQ_t, s_aug, treeQ_t, s_unp, s_raise, s_for, itLQ_l, w_itL, itUQ_u, w_itU, lstsQ_l, zipQ_l, enumQ_l, rngQ_i, w_rng1, w_keys, w_items, libQ_l, w_libF, w_mkLib, w_meth, w_meth0, w_sl, w_part, partQ_i,
  vL_t, vL_s, vL_0, vL_f, vL_S, vL_u, vM_t, vM_0, vM_f, vM_S, vU_t, lstAt_0, lstAt_S, dicAt_0, dicAt_S, vD_t, vD_0, vD_f, vD_S, frzD_t, frzD_f, frzD_S, kindV_t, kindV_d, kindV_l, kindV_f, kindV_S, vP_t, vP_l, vP_f, vP_S, isL_is, or_some, none_or,
  oq_add, oq_sub, oq_lt, oq_le, oq_gt, oq_ge, oq_mul, oq_mod, oq_div, oq_pow, oq_intB, oq_intI, oq_neg, oq_addS, oq_ixS, oq_ixL, oq_ixU, oq_lenL, oq_lenU, oq_lenN, oq_lenS, oq_lenO, oq_cat, oq_catU, oq_rep, oq_disp0, oq_disp1, oq_disp2, oq_disp3, oq_disp4, oq_disp5, oq_disp6, oq_disp7,
  oq_tup0, oq_tup1, oq_tup2, oq_tup3, oq_tup4, oq_tup5, oq_tup6, oq_tupOf, oq_revL, oq_append, oq_extend, oq_popAt, oq_pop, oq_remove, oq_index, oq_eq, oq_in, oq_dget, oq_din, oq_listD, oq_dictD, oq_sorted, oq_sortedD, oq_bools, oq_inSto, oq_isWord, oq_names, so_lL, so_uU,
  all_str, all_int, inF_str, strsOf_map, boolsOf_map, libsOf_map, pds_str, pds_int, List.length_map, List.length_cons, List.length_nil, List.length_append, Option.map_some, Option.isSome_some, Bool.true_and, true_and, and_true, Nat.reduceAdd, Nat.reduceSub, List.replicate, List.cons_append, List.nil_append, if_true, Bool.false_eq_true, if_false, reduceCtorEq, exQ_t, exQ_n, exQ_o, outQ_f, outQ_l, outQ_d, s_setIx, setIxQ_i, s_dPut, dPutQ_k, ix_0, ix_1, ix_2, at_0, at_1, at_2, at_3, at_4, at_5, decide_eq_true_eq, List.take_succ_cons, List.take_zero, Nat.reduceLT, Nat.lt_irrefl, Nat.zero_lt_succ, w_dnew, sealQ_o, sealO_d, trQ_o, trO_l, trO_f, pd_int, pd_str, pd_bl, pd_non, pd_lst, pds_nil, dp_int, dp_str, dp_bl, dp_non, dp_nil, dp_strs, eqv_int, eqv_str, eqv_strs, eqv_strs0, Bool.not_eq_true', decide_eq_false_iff_not])
theorem gN_one {i : Nat} {t : T} {sl : List SV} : gN i (.one t) sl = some (sl.set i (.t t)) := rfl
theorem wipe0 {sl : List SV} : wipeS sl [] = sl := rfl
theorem wipe1 {sl : List SV} {i : Nat} : wipeS sl [i] = sl.set i .un := rfl
abbrev LS (ws : List Str) : T := .lst (ws.map T.str)
theorem seqIx {d : Int} {n : Nat} (h0 : 0 ≤ d) (h1 : d < n) : seqIndex? d n = some d.toNat := by
  unfold seqIndex?
  have e : (if d < 0 then d + (n : Int) else d) = d := if_neg (by omega)
  simp only [e]
  simp [h0, h1]
theorem map_erase {α β : Type} {f : α → β} : ∀ (l : List α) (k : Nat), (l.map f).eraseIdx k = (l.eraseIdx k).map f
  | [], _ => rfl
  | _ :: _, 0 => rfl
  | a :: l, k + 1 => by rw [List.map_cons, List.eraseIdx_cons_succ, List.eraseIdx_cons_succ, map_erase l k]; rfl
theorem perm_erase {α : Type} {a : α} : ∀ {l : List α} {k : Nat}, l[k]? = some a → l.Perm (a :: l.eraseIdx k)
  | [], k, h => by simp at h
  | b :: l, 0, h => by
    simp at h
    subst h
    exact List.Perm.refl _
  | b :: l, k + 1, h => by
    have ih := perm_erase (l := l) (k := k) (by simpa using h)
    rw [List.eraseIdx_cons_succ]
    exact (ih.cons b).trans (List.Perm.swap ..)
/-- some of them, shuffled -/
def Some_ (us ws : List Str) : Prop := ∃ vs : List Str, vs.Sublist ws ∧ us.Perm vs
theorem Some_.mem {us ws : List Str} (h : Some_ us ws) : ∀ x ∈ us, x ∈ ws := by
  obtain ⟨vs, h1, h2⟩ := h
  exact fun x hx => h1.subset (h2.mem_iff.mp hx)
theorem Some_.nodup {us ws : List Str} (h : Some_ us ws) (nd : ws.Nodup) : us.Nodup := by
  obtain ⟨vs, h1, h2⟩ := h
  exact h2.nodup_iff.mpr (nd.sublist h1)
theorem Some_.len {us ws : List Str} (h : Some_ us ws) : us.length ≤ ws.length := by
  obtain ⟨vs, h1, h2⟩ := h
  rw [h2.length_eq]
  exact h1.length_le
theorem r_part {n : Nat} {ws : List Str} {r : Int} {w : List T} {Q : RZ → List Obj → Prop} {E : EP} (hw : Wl n w) (hl : ws.length ≤ 1000) (hn : n + 2 * ws.length < 1000000) (r0 : 0 < r) (r1 : r < 1000000)
    (h : ∀ w' us, Wl (n + 2 * ws.length) w' → Some_ us ws → Q (.n (.lst (us.map T.str))) [.lst w']) : MR m_part [.o 0, .t (LS ws), .t (.int r)] [.lst w] Q E := by
  refine m_run ?_
  walk_at "wp"
  refine w_comp ?_
  walk_at "wp"
  refine wc_loop (fun im acc g => ∃ (rest acc' vs : List Str) (w' : List T), im = ones (rest.map T.str) ∧ acc = acc'.map T.str ∧ ws = vs ++ rest ∧ acc'.Sublist vs ∧ Wl (n + vs.length) w' ∧ g = [.lst w']) ⟨ws, [], [], w, rfl, rfl, rfl, List.Sublist.refl _, hw, rfl⟩ ?_ ?_
  · rintro im r acc g ⟨rest, acc', vs, w', hr, rfl, hws, hsub, hw', rfl⟩
    cases rest with
    | nil => cases hr
    | cons x rest =>
      cases hr
      have e1 := congrArg List.length hws
      simp at e1
      refine ⟨_, gN_one, ?_⟩
      simp only [wipe1]
      walk_at "wp"
      refine c_draw (n := n + vs.length) (by omega) ?_
      walk_at "wp"
      refine ⟨0, _, w', rfl, rfl, hw', r0, r1, fun w2 d hw2 d0 d1 => ?_⟩
      walk_at "wp"
      split
      · have el := hsub.length_le
        refine ⟨by omega, rest, acc' ++ [x], vs ++ [x], w2, rfl, by simp, by simp [hws], hsub.append (List.Sublist.refl _), by simpa [Nat.add_assoc] using hw2, rfl⟩
      · exact ⟨rest, acc', vs ++ [x], w2, rfl, rfl, by simp [hws], hsub.trans (List.sublist_append_left _ _), by simpa [Nat.add_assoc] using hw2, rfl⟩
  · rintro acc g ⟨rest, acc', vs, w', hr, rfl, hws, hsub, hw', rfl⟩
    cases rest with
    | cons x rest => cases hr
    | nil =>
      rw [List.append_nil] at hws
      subst hws
      walk_at "wp"
      refine s_while (fun k sl g => ∃ (left found : List Str) (w2 : List T), k = left.length ∧ (left ++ found).Perm acc' ∧ Wl (n + ws.length + found.length) w2 ∧ sl = [.o 0, .t (LS ws), .t (.int r), .o 1, .o 2, .un] ∧ g = [.lst w2, .lst (left.map T.str), .lst (found.map T.str)]) (n := acc'.length) (by have := hsub.length_le; unfold bigN; omega)
        ⟨acc', [], w', rfl, by simp, hw', rfl, rfl⟩ ?_
      rintro k sl g ⟨left, found, w2, rfl, hp, hw2, rfl, rfl⟩
      have el := hsub.length_le
      have ep := hp.length_eq
      rw [List.length_append] at ep
      walk_at "wp"
      split
      · rename_i hb
        refine c_draw (n := n + ws.length + found.length) (by cases left with | nil => simp at hb | cons x left => simp at ep; omega) ?_
        have hpos : 0 < left.length := by cases left with
          | nil => simp at hb
          | cons x left => simp
        walk_at "wp"
        refine ⟨0, left.length, w2, rfl, rfl, hw2, by omega, by omega, fun w3 d hw3 d0 d1 => ?_⟩
        walk_at "wp"
        refine ⟨by omega, ?_⟩
        rw [seqIx d0 d1]
        have hd : d.toNat < left.length := by omega
        have e2 : (left.map T.str)[d.toNat]? = some (.str left[d.toNat]) := by simp [hd]
        walk_at "wp"
        rw [e2]
        walk_at "wp"
        refine ⟨by omega, left.length - 1, by omega, left.eraseIdx d.toNat, found ++ [left[d.toNat]], w3, by rw [List.length_eraseIdx_of_lt hd], ?_, by simpa [Nat.add_assoc] using hw3, by simp [map_erase]⟩
        have e3 : left[d.toNat]? = some left[d.toNat] := List.getElem?_eq_getElem hd
        refine List.Perm.trans ?_ hp
        have e4 := (perm_erase e3).append_right found
        refine List.Perm.trans ?_ e4.symm
        rw [← List.append_assoc]
        exact List.perm_append_comm.trans (List.Perm.refl _)
      · rename_i hb
        have e0 : left = [] := by
          cases left with
          | nil => rfl
          | cons x left => simp at hb
        subst e0
        refine h w2 found (hw2.mono (by simp at ep; omega)) ⟨acc', hsub, by simpa using hp⟩
end Mf


set_option Elab.async false
set_option linter.all false
set_option maxRecDepth 100000
set_option maxHeartbeats 4000000
namespace Mf
open PySem PySem.Spec PyProof.Rows L2 Sb
local macro_rules | `(tactic| walk_at "wp") => `(tactic| simp only [w_bind, w_ret, w_var, slQ_t, slQ_o, get0, getS, set0, setS, w_T, trQ_t, trQ_n, w_O, objQ_v, objQ_n, w_V, valQ_v, w_Z, w_TD, sealQ_n, w_nil, w_cons, opQ_some, w_op, w_op2, blQ_b, w_B, w_and, w_or, w_not, w_If, w_andV, w_orV, w_notV,
  opt_some, w_tru, w_isN, w_isi, s_nx, s_seq, s_ret, s_retN, s_drop, s_if, s_set, s_par, args2Q_is, augQ_t, s_aug, treeQ_t, s_unp, s_raise, s_for, itLQ_l, w_itL, itUQ_u, w_itU, lstsQ_l, zipQ_l, enumQ_l, rngQ_i, w_rng1, w_keys, w_items, libQ_l, w_libF, w_mkLib, w_meth, w_meth0, w_sl, w_part, partQ_i,
  vL_t, vL_s, vL_0, vL_f, vL_S, vL_u, vM_t, vM_0, vM_f, vM_S, vU_t, lstAt_0, lstAt_S, dicAt_0, dicAt_S, vD_t, vD_0, vD_f, vD_S, frzD_t, frzD_f, frzD_S, kindV_t, kindV_d, kindV_l, kindV_f, kindV_S, vP_t, vP_l, vP_f, vP_S, isL_is, or_some, none_or,
  oq_add, oq_sub, oq_lt, oq_le, oq_gt, oq_ge, oq_mul, oq_mod, oq_div, oq_pow, oq_intB, oq_intI, oq_neg, oq_addS, oq_ixS, oq_ixL, oq_ixU, oq_lenL, oq_lenU, oq_lenN, oq_lenS, oq_lenO, oq_cat, oq_catU, oq_rep, oq_disp0, oq_disp1, oq_disp2, oq_disp3, oq_disp4, oq_disp5, oq_disp6, oq_disp7,
  oq_tup0, oq_tup1, oq_tup2, oq_tup3, oq_tup4, oq_tup5, oq_tup6, oq_tupOf, oq_revL, oq_append, oq_extend, oq_popAt, oq_pop, oq_remove, oq_index, oq_eq, oq_in, oq_dget, oq_din, oq_listD, oq_dictD, oq_sorted, oq_sortedD, oq_bools, oq_inSto, oq_isWord, oq_names, so_lL, so_uU,
  all_str, all_int, inF_str, strsOf_map, boolsOf_map, libsOf_map, pds_str, pds_int, List.length_map, List.length_cons, List.length_nil, List.length_append, Option.map_some, Option.isSome_some, Bool.true_and, true_and, and_true, Nat.reduceAdd, Nat.reduceSub, List.replicate, List.cons_append, List.nil_append, if_true, Bool.false_eq_true, if_false, reduceCtorEq, exQ_t, exQ_n, exQ_o, outQ_f, outQ_l, outQ_d, s_setIx, setIxQ_i, s_dPut, dPutQ_k, ix_0, ix_1, ix_2, at_0, at_1, at_2, at_3, at_4, at_5, decide_eq_true_eq, List.take_succ_cons, List.take_zero, Nat.reduceLT, Nat.lt_irrefl, Nat.zero_lt_succ, w_dnew, sealQ_o, sealO_d, trQ_o, trO_l, trO_f, pd_int, pd_str, pd_bl, pd_non, pd_lst, pds_nil, dp_int, dp_str, dp_bl, dp_non, dp_nil, dp_strs, eqv_int, eqv_str, eqv_strs, eqv_strs0, Bool.not_eq_true', decide_eq_false_iff_not])
/-! ### texts of small letters -/
def wd (l : List Nat) : Str := ⟨l.toArray⟩
theorem wd_app (l : List Nat) (c : Nat) : wd l ++ (⟨#[c]⟩ : Str) = wd (l ++ [c]) := by
  show Str.append _ _ = _
  unfold Str.append wd
  simp
theorem wd_len (l : List Nat) : (wd l).length = l.length := by simp [wd, Str.length]
theorem wd_one (c : Nat) : (⟨#[c]⟩ : Str).length = 1 := rfl
theorem wd_inj {l m : List Nat} (h : wd l = wd m) : l = m := by
  unfold wd at h
  simpa using h
theorem wd_nil : ("" : Str) = wd [] := by decide +kernel
abbrev small (l : List Nat) : Prop := ∀ c ∈ l, 97 ≤ c ∧ c ≤ 122
theorem letB_small : ∀ c : Nat, 97 ≤ c → c ≤ 122 → letB c = true := by
  have h : ∀ k : Nat, k < 26 → letB (97 + k) = true := by decide +kernel
  intro c h1 h2
  have := h (c - 97) (by omega)
  rwa [show 97 + (c - 97) = c by omega] at this
theorem wd_ok {l : List Nat} (h : small l) (h1 : 1 ≤ l.length) (h2 : l.length ≤ 12) : wordB (wd l) = true := by
  unfold wordB
  rw [wd_len, decide_eq_true h1, decide_eq_true h2]
  simp only [Bool.true_and, List.all_eq_true]
  intro c hc
  have hc : c ∈ l := by simpa [wd] using hc
  exact letB_small c (h c hc).1 (h c hc).2
abbrev abc : Str := "abcdefghijklmnopqrstuvwxyz"
theorem abc_get : ∀ k : Nat, k < 26 → abc.cps[k]? = some (97 + k) := by decide +kernel
theorem abc_len : abc.length = 26 := by decide +kernel
theorem abc_at {d : Int} (h0 : 0 ≤ d) (h1 : d < 26) : abc.cps[d.toNat]? = some (97 + d.toNat) := abc_get _ (by omega)
theorem c_pick {s : St} {E : EP} {f : M (List SV)} {Q : RZ → List Obj → Prop} {n : Nat} (hn : n < 1000000) (h : WE f s (fun xs g => ∃ i ts w, xs = [.o i, .t (.lst ts)] ∧ g[i]? = some (.lst w) ∧ Wl n w ∧ 0 < ts.length ∧ ts.length < 1000000 ∧ ∀ w' t, Wl (n + 1) w' → t ∈ ts → Q (.v (.t t)) (g.set i (.lst w'))) E) : WE (mCall 2 m_pick f) s Q E := by
  refine w_call1 (h.mono (fun xs g h => ?_) fun _ _ _ h => h)
  obtain ⟨i, ts, w, rfl, hg, hw, m0, m1, k⟩ := h
  refine ⟨i, [.lst ts], _, rfl, rfl, hg, r_pick hw hn m0 m1 fun w' d h1 h2 => ⟨_, rfl, .inl ⟨_, rfl⟩, k w' d h1 h2⟩⟩
theorem c_part {s : St} {E : EP} {f : M (List SV)} {Q : RZ → List Obj → Prop} {n : Nat} (h : WE f s (fun xs g => ∃ i ws r w, xs = [.o i, .t (LS ws), .t (.int r)] ∧ g[i]? = some (.lst w) ∧ Wl n w ∧ ws.length ≤ 1000 ∧ n + 2 * ws.length < 1000000 ∧ 0 < r ∧ r < 1000000 ∧
    ∀ w' us, Wl (n + 2 * ws.length) w' → Some_ us ws → Q (.n (.lst (us.map T.str))) (g.set i (.lst w'))) E) : WE (mCall 3 m_part f) s Q E := by
  refine w_call1 (h.mono (fun xs g h => ?_) fun _ _ _ h => h)
  obtain ⟨i, ws, r, w, rfl, hg, hw, hl, hn, r0, r1, k⟩ := h
  refine ⟨i, [LS ws, .int r], _, rfl, rfl, hg, r_part hw hl hn r0 r1 fun w' d h1 h2 => ⟨_, rfl, .inr ⟨_, rfl⟩, k w' d h1 h2⟩⟩
theorem rangeI_get {lo : Int} {n : Nat} : rangeI lo n = (List.range n).map fun (k : Nat) => Im.one (.int (lo + k)) := rfl
/-- a loop over range(m) -/
theorem s_range {ft : Im → List SV → Option (List SV)} {fb : M Fl} {E : EP} {Qn : List SV → List Obj → Prop} {Qr : RZ → List Obj → Prop} (I : Nat → List SV → List Obj → Prop) {m : Nat} {sl : List SV} {g : List Obj} (h0 : I 0 sl g)
    (hs : ∀ k sl g, k < m → I k sl g → ∃ sl1, ft (.one (.int k)) sl = some sl1 ∧ WS fb sl1 g (fun sl2 g2 => I (k + 1) sl2 g2) Qr E) (he : ∀ sl g, I m sl g → Qn sl g) : WS (loopF ft fb (rangeI 0 m)) sl g Qn Qr E := by
  refine s_loop (fun ims sl g => ∃ k, k ≤ m ∧ ims = (rangeI 0 m).drop k ∧ I k sl g) ⟨0, Nat.zero_le _, rfl, h0⟩ ?_ ?_
  · rintro im r sl g ⟨k, hk, e, hI⟩
    have hlt : k < m := by
      by_cases q : k < m
      · exact q
      · rw [List.drop_of_length_le (by simp [rangeI]; omega)] at e
        cases e
    have e2 : (rangeI 0 m).drop k = .one (.int k) :: (rangeI 0 m).drop (k + 1) := by
      rw [List.drop_eq_getElem_cons (by simp [rangeI]; omega)]
      congr 1
      simp [rangeI]
    rw [e2] at e
    cases e
    obtain ⟨sl1, h1, h2⟩ := hs k sl g hlt hI
    exact ⟨sl1, h1, h2.mono (fun sl2 g2 h => ⟨k + 1, by omega, rfl, h⟩) (fun _ _ h => h) fun _ _ _ h => h⟩
  · rintro sl g ⟨k, hk, e, hI⟩
    have e3 : k = m := by
      have := congrArg List.length e
      simp [rangeI] at this
      omega
    subst e3
    exact he sl g hI
/-- how many letters stand ahead of the last one -/
def spl (i n : Nat) : Prop := (i < 26 → n = 0 ∨ n = 1 ∨ n = 2 ∨ n = 11) ∧ (26 ≤ i → n = 3 ∨ n = 4 ∨ n = 5)
theorem spl_le {i n : Nat} (h : spl i n) : n ≤ 11 := by
  unfold spl at h
  omega
theorem r_spelled {n m : Nat} {w : List T} {Q : RZ → List Obj → Prop} {E : EP} (hw : Wl n w) (hm : m ≤ 52) (hn : n < 100000)
    (h : ∀ w' ws, Wl (n + 1 + 12 * m) w' → ws.length = m → ws.Nodup → (∀ x ∈ ws, wordB x = true) → Q (.n (.lst ((ws : List Str).map T.str))) [.lst w']) : MR m_spelled [.o 0, .t (.int m)] [.lst w] Q E := by
  refine m_run ?_
  walk_at "wp"
  refine c_draw (n := n) (by omega) ?_
  walk_at "wp"
  refine ⟨0, _, w, rfl, rfl, hw, by decide, by decide, fun w1 f hw1 f0 f1 => ?_⟩
  walk_at "wp"
  refine ⟨by omega, ?_⟩
  rw [show (m : Int).toNat = m by simp]
  refine s_range (fun k sl g => ∃ (ls : List (List Nat)) (w' : List T) (x5 x6 x7 : SV), ls.length = k ∧ Wl (n + 1 + 12 * k) w' ∧ (∀ (i : Nat) (l : List Nat), ls[i]? = some l → ∃ p, l = p ++ [97 + ((f + 7 * (i : Int)).fmod 26).toNat] ∧ small p ∧ spl i p.length) ∧
    sl = [.o 0, .t (.int m), .t (.str abc), .t (.int f), .o 1, x5, x6, x7] ∧ g = [.lst w', .lst ((ls.map wd).map T.str)]) ⟨[], w1, _, _, _, rfl, hw1, by simp, rfl, rfl⟩ ?_ ?_
  · rintro k sl g hk ⟨ls, w', x5, x6, x7, rfl, hw', hls, rfl, rfl⟩
    refine ⟨_, gN_one, ?_⟩
    walk_at "wp"
    refine c_pick (n := n + 1 + 12 * ls.length) (by omega) ?_
    walk_at "wp"
    split
    all_goals
      rename_i hc26
      refine ⟨0, _, w', rfl, rfl, hw', by simp, by simp, fun w2 t hw2 ht => ?_⟩
      obtain ⟨j, rfl, hsp⟩ : ∃ j : Nat, t = .int j ∧ spl ls.length j := by
        unfold spl
        simp at ht
        first
          | rcases ht with rfl | rfl | rfl | rfl
            · exact ⟨0, rfl, by omega⟩
            · exact ⟨1, rfl, by omega⟩
            · exact ⟨2, rfl, by omega⟩
            · exact ⟨11, rfl, by omega⟩
          | rcases ht with rfl | rfl | rfl
            · exact ⟨3, rfl, by omega⟩
            · exact ⟨4, rfl, by omega⟩
            · exact ⟨5, rfl, by omega⟩
      have hj := spl_le hsp
      walk_at "wp"
      refine ⟨by omega, ?_⟩
      rw [show (j : Int).toNat = j by simp]
      refine s_range (fun q sl g => ∃ (p : List Nat) (w' : List T) (x7 : SV), p.length = q ∧ small p ∧ Wl (n + 1 + 12 * ls.length + 1 + q) w' ∧ sl = [.o 0, .t (.int m), .t (.str abc), .t (.int f), .o 1, .t (.int ls.length), .t (.str (wd p)), x7] ∧ g = [.lst w', .lst ((ls.map wd).map T.str)])
        ⟨[], w2, _, rfl, fun c hc => (by cases hc), hw2, by rw [wd_nil], rfl⟩ ?_ ?_
      · rintro q sl g hq ⟨p, w3, x7, rfl, hp, hw3, rfl, rfl⟩
        refine ⟨_, gN_one, ?_⟩
        walk_at "wp"
        refine c_draw (n := n + 1 + 12 * ls.length + 1 + p.length) (by omega) ?_
        walk_at "wp"
        refine ⟨0, _, w3, rfl, rfl, hw3, by decide, by decide, fun w4 d hw4 d0 d1 => ?_⟩
        walk_at "wp"
        rw [abc_at d0 d1, abc_len]
        walk_at "wp"
        rw [wd_len, wd_one, wd_app]
        refine ⟨⟨d0, d1, by omega⟩, by omega, p ++ [97 + d.toNat], w4, _, by simp, ?_, hw4, rfl, rfl⟩
        intro c hc
        rcases List.mem_append.mp hc with hc | hc
        · exact hp c hc
        · simp at hc
          omega
      · rintro sl g ⟨p, w3, x7, rfl, hp, hw3, rfl, rfl⟩
        walk_at "wp"
        have q := fmodB (x := f + 7 * (ls.length : Int)) (m := 26) (by decide)
        rw [abc_at q.1 q.2, abc_len]
        walk_at "wp"
        rw [wd_len, wd_one, wd_app]
        have hsm : small (p ++ [97 + ((f + 7 * (ls.length : Int)).fmod 26).toNat]) := by
          intro c hc
          rcases List.mem_append.mp hc with hc | hc
          · exact hp c hc
          · simp at hc
            omega
        refine ⟨by unfold cMul; rw [decide_eq_true (by decide), decide_eq_true (by decide)]; rfl, by decide, ⟨q.1, q.2, by omega⟩, by omega, by omega, ls ++ [p ++ [97 + ((f + 7 * (ls.length : Int)).fmod 26).toNat]], w3, _, _, _, by simp, hw3.mono (by omega), ?_, rfl, by simp⟩
        intro i l hi
        by_cases e : i < ls.length
        · rw [List.getElem?_append_left e] at hi
          exact hls i l hi
        · rw [List.getElem?_append_right (by omega)] at hi
          have e2 : i = ls.length := by
            cases z : i - ls.length with
            | zero => omega
            | succ k => rw [z] at hi; simp at hi
          subst e2
          simp at hi
          exact ⟨p, hi.symm, hp, hsp⟩
  · rintro sl g ⟨ls, w', x5, x6, x7, hlen, hw', hls, rfl, rfl⟩
    walk_at "wp"
    refine h w' (ls.map wd) hw' (by simpa using hlen) ?_ ?_
    · refine List.pairwise_iff_getElem.mpr fun i j hi hj hij => ?_
      rw [List.length_map] at hi hj
      rw [List.getElem_map, List.getElem_map]
      intro e
      have e := wd_inj e
      obtain ⟨p, e1, _, k1⟩ := hls i ls[i] (List.getElem?_eq_getElem hi)
      obtain ⟨q, e2, _, k2⟩ := hls j ls[j] (List.getElem?_eq_getElem hj)
      rw [e1, e2] at e
      have e3 := congrArg List.getLast? e
      have e4 := congrArg List.length e
      simp at e3 e4
      unfold spl at k1 k2
      have m1 := fmodB (x := f + 7 * (i : Int)) (m := 26) (by decide)
      have m2 := fmodB (x := f + 7 * (j : Int)) (m := 26) (by decide)
      rw [Int.fmod_eq_emod_of_nonneg _ (by decide)] at e3 m1
      rw [Int.fmod_eq_emod_of_nonneg _ (by decide)] at e3 m2
      omega
    · intro x hx
      obtain ⟨l, hl, rfl⟩ := List.mem_map.mp hx
      obtain ⟨i, hi⟩ := List.getElem?_of_mem hl
      obtain ⟨p, rfl, hp, hsp⟩ := hls i l hi
      have hj := spl_le hsp
      have q := fmodB (x := f + 7 * (i : Int)) (m := 26) (by decide)
      refine wd_ok ?_ (by simp) (by simp; omega)
      intro c hc
      rcases List.mem_append.mp hc with hc | hc
      · exact hp c hc
      · simp at hc
        omega
end Mf


set_option Elab.async false
set_option linter.all false
set_option maxRecDepth 100000
set_option maxHeartbeats 4000000
namespace Mf
open PySem PySem.Spec PyProof.Rows L2 Sb
/-! ### comprehensions over texts -/
def unI : Im → Str
  | .one (.str x) => x
  | _ => ""
theorem wc_strs {sl0 : List SV} {ft : Im → List SV → Option (List SV)} {fc : M Bool} {fe : M SV} {Q : RZ → List Obj → Prop} {ws : List Str} {g : List Obj} (p : Str → Bool) (e : Str → T) (hl : ws.length ≤ 100000)
    (hs : ∀ x ∈ ws, ∃ sl1, ft (.one (.str x)) sl0 = some sl1 ∧ WE fc ⟨sl1, g⟩ (fun b g1 => b = p x ∧ g1 = g) noE ∧ (p x = true → WE fe ⟨sl1, g⟩ (fun y g1 => y = .t (e x) ∧ g1 = g) noE))
    (hq : Q (.n (.lst ((ws.filter p).map e))) g) : WC sl0 ft fc fe (ones (ws.map T.str)) [] g Q := by
  have key : ∀ us : List Str, ((ones (us.map T.str)).filter fun im => p (unI im)).map (fun im => e (unI im)) = (us.filter p).map e := fun us => by
    simp [ones, List.filter_map, Function.comp_def, unI]
  refine wc_pure (fun im => p (unI im)) (fun im => e (unI im)) (by simpa [ones] using hl) (fun im him => ?_) (by rw [key]; exact hq)
  unfold ones at him
  rw [List.map_map] at him
  obtain ⟨x, hx, rfl⟩ := List.mem_map.mp him
  exact hs x hx
/-! ### slices -/
section
variable {α : Type} {xs : List α} {k : Int}
theorem cut_take (h : 0 ≤ k) : cutT xs none (some k) = xs.take k.toNat := by
  unfold cutT
  have e1 : HT.sIx xs.length 0 none = 0 := rfl
  have e2 : HT.sIx xs.length xs.length (some k) = min k.toNat xs.length := by
    simp [HT.sIx]
    omega
  rw [e1, e2, List.drop_zero, Nat.sub_zero]
  by_cases q : k.toNat ≤ xs.length
  · rw [Nat.min_eq_left q]
  · rw [Nat.min_eq_right (by omega), List.take_length, List.take_of_length_le (by omega)]
theorem cut_drop (h : 0 ≤ k) : cutT xs (some k) none = xs.drop k.toNat := by
  unfold cutT
  have e1 : HT.sIx xs.length 0 (some k) = min k.toNat xs.length := by
    simp [HT.sIx]
    omega
  have e2 : HT.sIx xs.length xs.length none = xs.length := rfl
  rw [e1, e2]
  by_cases q : k.toNat ≤ xs.length
  · rw [Nat.min_eq_left q, List.take_of_length_le (by simp)]
  · rw [Nat.min_eq_right (by omega), List.drop_of_length_le (by omega), List.drop_of_length_le (by omega)]
    simp
theorem cut_init : cutT xs none (some (-1)) = xs.dropLast := by
  unfold cutT
  have e1 : HT.sIx xs.length 0 none = 0 := rfl
  have e2 : HT.sIx xs.length xs.length (some (-1)) = xs.length - 1 := by
    simp [HT.sIx]
    omega
  rw [e1, e2, List.drop_zero, Nat.sub_zero, List.dropLast_eq_take]
theorem at_last (h : xs ≠ []) : atI xs (-1) = some (xs.getLast h) := by
  unfold atI ixN
  have : 0 < xs.length := List.length_pos_iff.mpr h
  rw [if_neg (by decide), if_pos (by omega)]
  show xs[((-1 : Int) + (xs.length : Int)).toNat]? = _
  rw [show ((-1 : Int) + (xs.length : Int)).toNat = xs.length - 1 by omega, List.getLast_eq_getElem, List.getElem?_eq_getElem]
end
/-! ### rows -/
structure Row where
  needs : List Str
  defs : List Str
  uses : List Str
  weak : List Str
  eager : Bool
  own : Bool
def Row.t (r : Row) : T := .tup [.tup (r.needs.map T.str), .tup (r.defs.map T.str), .tup (r.uses.map T.str), .tup (r.weak.map T.str), .bl r.eager, .bl r.own]
def Row.lib (w : Str) (r : Row) : Lib := ⟨w, r.needs, r.defs, r.uses, r.weak, r.eager, r.own⟩
/-- a row as the law draws it -/
structure RowOk (words : List Str) (gone : Str) (signs : List Str) (w : Str) (r : Row) : Prop where
  needs : ∀ x ∈ r.needs, x ∈ words ∨ x = gone
  needsNd : r.needs.Nodup
  self : w ∉ r.needs
  few : r.needs.length ≤ 12
  first : words[0]? = some w → r.needs = []
  defs : ∀ x ∈ r.defs, x ∈ signs
  defsNd : r.defs.Nodup
  uses : ∀ x ∈ r.uses, x ∈ signs
  usesNd : r.uses.Nodup
  weak : ∀ x ∈ r.weak, x ∈ r.uses
  weakNd : r.weak.Nodup
theorem strs_two {ws vs : List Str} : (ws.map T.str) ++ (vs.map T.str) = (ws ++ vs).map T.str := by simp
theorem strs_drop {ws : List Str} {n : Nat} : (ws.map T.str).drop n = (ws.drop n).map T.str := by simp
theorem strs_take {ws : List Str} {n : Nat} : (ws.map T.str).take n = (ws.take n).map T.str := by simp
theorem at_some {ws : List Str} {k : Int} {x : Str} (h : atI (ws.map T.str) k = some (.str x)) : True := trivial
end Mf


set_option Elab.async false
set_option linter.all false
set_option maxRecDepth 100000
set_option maxHeartbeats 4000000
namespace Mf
open PySem PySem.Spec PyProof.Rows L2 Sb
local macro_rules | `(tactic| walk_at "wp") => `(tactic| simp only [w_bind, w_ret, w_var, slQ_t, slQ_o, get0, getS, set0, setS, w_T, trQ_t, trQ_n, w_O, objQ_v, objQ_n, w_V, valQ_v, w_Z, w_TD, sealQ_n, w_nil, w_cons, opQ_some, w_op, w_op2, blQ_b, w_B, w_and, w_or, w_not, w_If, w_andV, w_orV, w_notV,
  opt_some, w_tru, w_isN, w_isi, s_nx, s_seq, s_ret, s_retN, s_drop, s_if, s_set, s_par, args2Q_is, augQ_t, s_aug, treeQ_t, s_unp, s_raise, s_for, itLQ_l, w_itL, itUQ_u, w_itU, lstsQ_l, zipQ_l, enumQ_l, rngQ_i, w_rng1, w_keys, w_items, libQ_l, w_libF, w_mkLib, w_meth, w_meth0, w_sl, w_part, partQ_i,
  vL_t, vL_s, vL_0, vL_f, vL_S, vL_u, vM_t, vM_0, vM_f, vM_S, vU_t, lstAt_0, lstAt_S, dicAt_0, dicAt_S, vD_t, vD_0, vD_f, vD_S, frzD_t, frzD_f, frzD_S, kindV_t, kindV_d, kindV_l, kindV_f, kindV_S, vP_t, vP_l, vP_f, vP_S, isL_is, or_some, none_or,
  oq_add, oq_sub, oq_lt, oq_le, oq_gt, oq_ge, oq_mul, oq_mod, oq_div, oq_pow, oq_intB, oq_intI, oq_neg, oq_addS, oq_ixS, oq_ixL, oq_ixU, oq_lenL, oq_lenU, oq_lenN, oq_lenS, oq_lenO, oq_cat, oq_catU, oq_rep, oq_disp0, oq_disp1, oq_disp2, oq_disp3, oq_disp4, oq_disp5, oq_disp6, oq_disp7,
  oq_tup0, oq_tup1, oq_tup2, oq_tup3, oq_tup4, oq_tup5, oq_tup6, oq_tupOf, oq_revL, oq_append, oq_extend, oq_popAt, oq_pop, oq_remove, oq_index, oq_eq, oq_in, oq_dget, oq_din, oq_listD, oq_dictD, oq_sorted, oq_sortedD, oq_bools, oq_inSto, oq_isWord, oq_names, so_lL, so_uU,
  all_str, all_int, inF_str, strsOf_map, boolsOf_map, libsOf_map, pds_str, pds_int, List.length_map, List.length_cons, List.length_nil, List.length_append, Option.map_some, Option.isSome_some, Bool.true_and, true_and, and_true, Nat.reduceAdd, Nat.reduceSub, List.replicate, List.cons_append, List.nil_append, if_true, Bool.false_eq_true, if_false, reduceCtorEq, exQ_t, exQ_n, exQ_o, outQ_f, outQ_l, outQ_d, s_setIx, setIxQ_i, s_dPut, dPutQ_k, ix_0, ix_1, ix_2, at_0, at_1, at_2, at_3, at_4, at_5, decide_eq_true_eq, List.take_succ_cons, List.take_zero, Nat.reduceLT, Nat.lt_irrefl, Nat.zero_lt_succ, w_dnew, sealQ_o, sealO_d, trQ_o, trO_l, trO_f, pd_int, pd_str, pd_bl, pd_non, pd_lst, pds_nil, dp_int, dp_str, dp_bl, dp_non, dp_nil, dp_strs, eqv_int, eqv_str, eqv_strs, eqv_strs0, Bool.not_eq_true', decide_eq_false_iff_not])
theorem take11 {ws : List Str} : cutT (ws.map T.str) none (some 11) = (ws.take 11).map T.str := by
  rw [cut_take (by decide), strs_take]; rfl
theorem in_map_int {ks : List Int} {t : T} (h : t ∈ ks.map T.int) : ∃ k, k ∈ ks ∧ t = .int k := by
  obtain ⟨k, h1, rfl⟩ := List.mem_map.mp h
  exact ⟨k, h1, rfl⟩
theorem s_cut {f k : M Fl} {sl : List SV} {g : List Obj} {Qn : List SV → List Obj → Prop} {Qr : RZ → List Obj → Prop} {E : EP} (P : List SV → List Obj → Prop) (h1 : WS f sl g P Qr E) (h2 : ∀ sl g, P sl g → WS k sl g Qn Qr E) : WS (sSeq f k) sl g Qn Qr E := by
  rw [s_seq]
  exact h1.mono h2 (fun _ _ h => h) fun _ _ _ h => h
/-- the needs of a row, as they are drawn -/
structure NdOk (words : List Str) (gone word : Str) (bl : List Str) : Prop where
  mem : ∀ x ∈ bl, x ∈ words ∨ x = gone
  nd : bl.Nodup
  self : word ∉ bl
  few : bl.length ≤ 12
theorem r_library {n : Nat} {word gone : Str} {words signs : List Str} {w : List T} {Q : RZ → List Obj → Prop} {E : EP} (hw : Wl n w) (hW : words.length ≤ 100) (hW0 : words ≠ []) (hS : signs.length ≤ 100) (hn : n + 8 + 2 * words.length + 6 * signs.length < 1000000)
    (nd : words.Nodup) (ndS : signs.Nodup) (hg : gone ∉ words) (hgw : word ∈ words)
    (h : ∀ (w' : List T) (r : Row), Wl (n + 8 + 2 * words.length + 6 * signs.length) w' → RowOk words gone signs word r → Q (.v (.t r.t)) [.lst w']) : MR m_library [.o 0, .t (.str word), .t (LS words), .t (.str gone), .t (LS signs)] [.lst w] Q E := by
  refine m_run ?_
  refine s_cut (fun sl g => ∃ bl w', Wl (n + 1 + 2 * words.length) w' ∧ NdOk words gone word bl ∧ bl.length ≤ 11 ∧ (∀ x ∈ bl, x ∈ words) ∧ sl = [.o 0, .t (.str word), .t (LS words), .t (.str gone), .t (LS signs), .t (LS bl), .un, .un, .un, .un, .un, .un] ∧ g = [.lst w']) ?_ ?_
  · walk_at "wp"
    refine c_part (n := n + 1) ?_
    walk_at "wp"
    refine w_comp ?_
    walk_at "wp"
    refine wc_strs (fun x => decide (x ≠ word)) T.str (by omega) (fun x hx => ⟨_, gN_one, ?_, fun _ => ?_⟩) ?_
    · simp only [wipe1]
      walk_at "wp"
      simp [decide_not]
    · simp only [wipe1]
      walk_at "wp"
    walk_at "wp"
    refine c_pick (n := n) (by omega) ?_
    walk_at "wp"
    refine ⟨0, _, w, rfl, rfl, hw, by simp, by simp, fun w1 t hw1 ht => ?_⟩
    obtain ⟨k, hk, rfl⟩ := in_map_int (ks := [2, 3, 5]) ht
    walk_at "wp"
    have hk2 : 0 < k ∧ k < 1000000 := by
      simp at hk
      omega
    have hfl : (words.filter fun x => decide (x ≠ word)).length ≤ words.length := List.length_filter_le _ _
    refine ⟨0, _, k, w1, rfl, rfl, hw1, by omega, by omega, hk2.1, hk2.2, fun w2 us hw2 hus => ?_⟩
    walk_at "wp"
    refine ⟨us.take 11, w2, hw2.mono (by omega), ?_, by simp; omega, fun x hx => ?_, by rw [take11], rfl⟩
    · refine ⟨fun x hx => .inl ?_, (hus.nodup (nd.sublist List.filter_sublist)).sublist (List.take_sublist _ _), fun hx => ?_, by simp; omega⟩
      · exact (List.mem_filter.mp (hus.mem x (List.mem_of_mem_take hx))).1
      · simpa using (List.mem_filter.mp (hus.mem word (List.mem_of_mem_take hx))).2
    · exact (List.mem_filter.mp (hus.mem x (List.mem_of_mem_take hx))).1
  rintro sl g ⟨bl, w2, hw2, hbl, hb11, hbw, rfl, rfl⟩
  refine s_cut (fun sl g => ∃ bl w' x6, Wl (n + 3 + 2 * words.length) w' ∧ NdOk words gone word bl ∧ sl = [.o 0, .t (.str word), .t (LS words), .t (.str gone), .t (LS signs), .t (LS bl), x6, .un, .un, .un, .un, .un] ∧ g = [.lst w']) ?_ ?_
  · walk_at "wp"
    refine c_draw (n := n + 1 + 2 * words.length) (by omega) ?_
    walk_at "wp"
    refine ⟨0, 20, w2, rfl, rfl, hw2, by decide, by decide, fun w3 d hw3 d0 d1 => ?_⟩
    walk_at "wp"
    split
    · refine c_draw (n := n + 2 + 2 * words.length) (by omega) ?_
      walk_at "wp"
      refine ⟨0, _, w3, rfl, rfl, hw3.mono (by omega), by omega, by omega, fun w4 d4 hw4 e0 e1 => ?_⟩
      walk_at "wp"
      rw [cut_take e0, cut_drop e0, strs_take, strs_drop]
      refine ⟨by simp; omega, by simp; omega, bl.take d4.toNat ++ [gone] ++ bl.drop d4.toNat, w4, .t (.int d4), hw4.mono (by omega), ?_, by simp, rfl⟩
      have e3 : (bl.take d4.toNat ++ [gone] ++ bl.drop d4.toNat).Perm (gone :: bl) := by
        have : (bl.take d4.toNat ++ [gone] ++ bl.drop d4.toNat).Perm (gone :: (bl.take d4.toNat ++ bl.drop d4.toNat)) := by
          rw [List.append_assoc]
          exact List.perm_middle
        rwa [List.take_append_drop] at this
      have hgb : gone ∉ bl := fun e => hg (hbw gone e)
      refine ⟨fun x hx => ?_, e3.nodup_iff.mpr (List.nodup_cons.mpr ⟨hgb, hbl.nd⟩), fun hx => ?_, by rw [e3.length_eq]; simp; omega⟩
      · rcases List.mem_cons.mp (e3.mem_iff.mp hx) with e | e
        · exact .inr e
        · exact .inl (hbw x e)
      · rcases List.mem_cons.mp (e3.mem_iff.mp hx) with e | e
        · exact hg (e ▸ hgw)
        · exact hbl.self e
    · exact ⟨bl, w3, _, hw3.mono (by omega), hbl, rfl, rfl⟩
  rintro sl g ⟨bl, w3, x6, hw3, hbl, rfl, rfl⟩
  refine s_cut (fun sl g => ∃ bl, NdOk words gone word bl ∧ (words[0]? = some word → bl = []) ∧ sl = [.o 0, .t (.str word), .t (LS words), .t (.str gone), .t (LS signs), .t (LS bl), x6, .un, .un, .un, .un, .un] ∧ g = [.lst w3]) ?_ ?_
  · cases words with
    | nil => exact absurd rfl hW0
    | cons first words =>
      walk_at "wp"
      simp only [List.map_cons]
      walk_at "wp"
      split
      · rename_i e
        exact ⟨[], ⟨fun x hx => (by cases hx), List.nodup_nil, fun hx => (by cases hx), by simp⟩, fun _ => rfl, rfl⟩
      · rename_i e
        exact ⟨bl, hbl, fun e2 => absurd (by simpa using e2.symm) e, rfl⟩
  rintro sl g ⟨bl, hbl, hfirst, rfl, rfl⟩
  refine s_cut (fun sl g => ∃ mk w', Wl (n + 4 + 2 * words.length + 2 * signs.length) w' ∧ (∀ x ∈ mk, x ∈ signs) ∧ (mk : List Str).Nodup ∧ sl = [.o 0, .t (.str word), .t (LS words), .t (.str gone), .t (LS signs), .t (LS bl), x6, .t (LS mk), .un, .un, .un, .un] ∧ g = [.lst w']) ?_ ?_
  · walk_at "wp"
    refine c_part (n := n + 4 + 2 * words.length) ?_
    walk_at "wp"
    refine c_pick (n := n + 3 + 2 * words.length) (by omega) ?_
    walk_at "wp"
    refine ⟨0, _, w3, rfl, rfl, hw3, by simp, by simp, fun w4 t hw4 ht => ?_⟩
    obtain ⟨k, hk, rfl⟩ := in_map_int (ks := [1, 2, 3]) ht
    walk_at "wp"
    have hk2 : 0 < k ∧ k < 1000000 := by
      simp at hk
      omega
    refine ⟨0, signs, k, w4, rfl, rfl, hw4.mono (by omega), by omega, by omega, hk2.1, hk2.2, fun w5 us hw5 hus => ?_⟩
    walk_at "wp"
    exact ⟨us, w5, hw5.mono (by omega), hus.mem, hus.nodup ndS, rfl, rfl⟩
  rintro sl g ⟨mk, w4, hw4, hmk, hmkN, rfl, rfl⟩
  refine s_cut (fun sl g => ∃ us w', Wl (n + 4 + 2 * words.length + 4 * signs.length) w' ∧ (∀ x ∈ us, x ∈ signs) ∧ (us : List Str).Nodup ∧ us.length ≤ signs.length ∧ sl = [.o 0, .t (.str word), .t (LS words), .t (.str gone), .t (LS signs), .t (LS bl), x6, .t (LS mk), .t (LS us), .un, .un, .un] ∧ g = [.lst w']) ?_ ?_
  · walk_at "wp"
    refine c_part (n := n + 4 + 2 * words.length + 2 * signs.length) ?_
    walk_at "wp"
    refine ⟨0, signs, 2, w4, rfl, rfl, hw4, by omega, by omega, by decide, by decide, fun w5 us hw5 hus => ?_⟩
    walk_at "wp"
    exact ⟨us, w5, hw5.mono (by omega), hus.mem, hus.nodup ndS, hus.len, rfl, rfl⟩
  rintro sl g ⟨us, w5, hw5, hus, husN, husL, rfl, rfl⟩
  refine s_cut (fun sl g => ∃ so w', Wl (n + 4 + 2 * words.length + 6 * signs.length) w' ∧ (∀ x ∈ so, x ∈ us) ∧ (so : List Str).Nodup ∧ sl = [.o 0, .t (.str word), .t (LS words), .t (.str gone), .t (LS signs), .t (LS bl), x6, .t (LS mk), .t (LS us), .t (LS so), .un, .un] ∧ g = [.lst w']) ?_ ?_
  · walk_at "wp"
    refine c_part (n := n + 4 + 2 * words.length + 4 * signs.length) ?_
    walk_at "wp"
    refine ⟨0, us, 3, w5, rfl, rfl, hw5, by omega, by omega, by decide, by decide, fun w6 so hw6 hso => ?_⟩
    walk_at "wp"
    exact ⟨so, w6, hw6.mono (by omega), hso.mem, hso.nodup husN, rfl, rfl⟩
  rintro sl g ⟨so, w6, hw6, hso, hsoN, rfl, rfl⟩
  walk_at "wp"
  refine c_draw (n := n + 4 + 2 * words.length + 6 * signs.length) (by omega) ?_
  walk_at "wp"
  refine ⟨0, 4, w6, rfl, rfl, hw6, by decide, by decide, fun w7 d7 hw7 _ _ => ?_⟩
  walk_at "wp"
  refine c_draw (n := n + 5 + 2 * words.length + 6 * signs.length) (by omega) ?_
  walk_at "wp"
  refine ⟨0, 3, w7, rfl, rfl, hw7.mono (by omega), by decide, by decide, fun w8 d8 hw8 _ _ => ?_⟩
  walk_at "wp"
  refine ⟨by decide, ?_⟩
  exact h w8 ⟨bl, mk, us, so, _, _⟩ (hw8.mono (by omega)) ⟨hbl.mem, hbl.nd, hbl.self, hbl.few, hfirst, hmk, hmkN, hus, husN, hso, hsoN⟩
end Mf


set_option Elab.async false
set_option linter.all false
set_option maxRecDepth 100000
set_option maxHeartbeats 4000000
namespace Mf
open PySem PySem.Spec PyProof.Rows L2 Sb
local macro_rules | `(tactic| walk_at "wp") => `(tactic| simp only [w_bind, w_ret, w_var, slQ_t, slQ_o, get0, getS, set0, setS, w_T, trQ_t, trQ_n, w_O, objQ_v, objQ_n, w_V, valQ_v, w_Z, w_TD, sealQ_n, w_nil, w_cons, opQ_some, w_op, w_op2, blQ_b, w_B, w_and, w_or, w_not, w_If, w_andV, w_orV, w_notV,
  opt_some, w_tru, w_isN, w_isi, s_nx, s_seq, s_ret, s_retN, s_drop, s_if, s_set, s_par, args2Q_is, augQ_t, s_aug, treeQ_t, s_unp, s_raise, s_for, itLQ_l, w_itL, itUQ_u, w_itU, lstsQ_l, zipQ_l, enumQ_l, rngQ_i, w_rng1, w_keys, w_items, libQ_l, w_libF, w_mkLib, w_meth, w_meth0, w_sl, w_part, partQ_i,
  vL_t, vL_s, vL_0, vL_f, vL_S, vL_u, vM_t, vM_0, vM_f, vM_S, vU_t, lstAt_0, lstAt_S, dicAt_0, dicAt_S, vD_t, vD_0, vD_f, vD_S, frzD_t, frzD_f, frzD_S, kindV_t, kindV_d, kindV_l, kindV_f, kindV_S, vP_t, vP_l, vP_f, vP_S, isL_is, or_some, none_or,
  oq_add, oq_sub, oq_lt, oq_le, oq_gt, oq_ge, oq_mul, oq_mod, oq_div, oq_pow, oq_intB, oq_intI, oq_neg, oq_addS, oq_ixS, oq_ixL, oq_ixU, oq_lenL, oq_lenU, oq_lenN, oq_lenS, oq_lenO, oq_cat, oq_catU, oq_rep, oq_disp0, oq_disp1, oq_disp2, oq_disp3, oq_disp4, oq_disp5, oq_disp6, oq_disp7,
  oq_tup0, oq_tup1, oq_tup2, oq_tup3, oq_tup4, oq_tup5, oq_tup6, oq_tupOf, oq_revL, oq_append, oq_extend, oq_popAt, oq_pop, oq_remove, oq_index, oq_eq, oq_in, oq_dget, oq_din, oq_listD, oq_dictD, oq_sorted, oq_sortedD, oq_bools, oq_inSto, oq_isWord, oq_names, so_lL, so_uU,
  all_str, all_int, inF_str, strsOf_map, boolsOf_map, libsOf_map, pds_str, pds_int, List.length_map, List.length_cons, List.length_nil, List.length_append, Option.map_some, Option.isSome_some, Bool.true_and, true_and, and_true, Nat.reduceAdd, Nat.reduceSub, List.replicate, List.cons_append, List.nil_append, if_true, Bool.false_eq_true, if_false, reduceCtorEq, exQ_t, exQ_n, exQ_o, outQ_f, outQ_l, outQ_d, s_setIx, setIxQ_i, s_dPut, dPutQ_k, ix_0, ix_1, ix_2, at_0, at_1, at_2, at_3, at_4, at_5, decide_eq_true_eq, List.take_succ_cons, List.take_zero, Nat.reduceLT, Nat.lt_irrefl, Nat.zero_lt_succ, w_dnew, sealQ_o, sealO_d, trQ_o, trO_l, trO_f, pd_int, pd_str, pd_bl, pd_non, pd_lst, pds_nil, dp_int, dp_str, dp_bl, dp_non, dp_nil, dp_strs, eqv_int, eqv_str, eqv_strs, eqv_strs0, Bool.not_eq_true', decide_eq_false_iff_not])
/-! ### dicts by texts -/
def dk (l : List (Str × T)) : List (Key × T) := l.map fun p => (.inr p.1, p.2)
def putS (l : List (Str × T)) (x : Str) (t : T) : List (Str × T) := if x ∈ l.map (·.1) then l.map (fun p => if p.1 = x then (p.1, t) else p) else l ++ [(x, t)]
section
variable {l : List (Str × T)} {x : Str} {t : T}
theorem dk_len : (dk l).length = l.length := by simp [dk]
theorem valT_dk : valT (dk l) (.inr x) = l.lookup x := by
  unfold valT dk
  induction l with
  | nil => rfl
  | cons p l ih =>
    obtain ⟨y, u⟩ := p
    rw [List.map_cons, List.find?_cons]
    by_cases q : y = x
    · subst q
      simp [List.lookup]
    · have q' : (x == y) = false := by simpa using fun e => q e.symm
      have q2 : decide ((Sum.inr y : Key) = .inr x) = false := by simpa using q
      rw [List.lookup_cons, q']
      simp only [q2]
      exact ih
theorem putT_dk : putT (dk l) (.inr x) t = dk (putS l x t) := by
  unfold putT putS
  have e : ((dk l).any fun kv => decide (kv.1 = Sum.inr x)) = decide (x ∈ l.map (·.1)) := by
    unfold dk
    induction l with
    | nil => rfl
    | cons p l ih =>
      rw [List.map_cons, List.any_cons, ih, List.map_cons]
      by_cases q : p.1 = x
      · subst q; simp
      · have : x ≠ p.1 := fun e => q e.symm
        simp [q, this]
  rw [e]
  by_cases q : x ∈ l.map (·.1)
  · rw [if_pos (decide_eq_true q), if_pos q]
    unfold dk
    rw [List.map_map, List.map_map]
    refine List.map_congr_left fun p _ => ?_
    by_cases z : p.1 = x <;> simp [z]
  · rw [if_neg (by simpa using q), if_neg q]
    unfold dk
    simp
theorem putS_new (h : x ∉ l.map (·.1)) : putS l x t = l ++ [(x, t)] := if_neg h
theorem putS_keys : (putS l x t).map (·.1) = if x ∈ l.map (·.1) then l.map (·.1) else l.map (·.1) ++ [x] := by
  unfold putS
  split
  · rw [List.map_map]
    refine List.map_congr_left fun p _ => ?_
    by_cases z : p.1 = x <;> simp [z]
  · simp
theorem putS_nodup (h : (l.map (·.1)).Nodup) : ((putS l x t).map (·.1)).Nodup := by
  rw [putS_keys]
  split
  · exact h
  · rename_i q
    refine List.nodup_append.mpr ⟨h, by simp, fun a ha b hb => ?_⟩
    simp at hb
    subst hb
    exact fun e => q (e ▸ ha)
theorem putS_mem {p : Str × T} (h : p ∈ putS l x t) : p = (x, t) ∨ p ∈ l := by
  unfold putS at h
  split at h
  · obtain ⟨q, h1, h2⟩ := List.mem_map.mp h
    by_cases z : q.1 = x
    · simp [z] at h2
      exact .inl h2.symm
    · simp [z] at h2
      exact .inr (h2 ▸ h1)
  · rcases List.mem_append.mp h with h | h
    · exact .inr h
    · simp at h
      exact .inl h
theorem keyStrs_dk : keyStrs (dk l) = some (l.map (·.1)) := by
  unfold dk
  induction l with
  | nil => rfl
  | cons p l ih => rw [List.map_cons, keyStrs, ih]; rfl
theorem keysI_dk : keysI (dk l) = ones ((l.map (·.1)).map T.str) := by
  unfold keysI dk ones
  rw [List.map_map, List.map_map, List.map_map]
  rfl
theorem itemsI_dk : itemsI (dk l) = l.map fun p => .two (.str p.1) p.2 := by
  unfold itemsI dk
  rw [List.map_map]
  rfl
theorem keysT_dk : ((dk l).map fun kv => keyT kv.1) = (l.map (·.1)).map T.str := by
  unfold dk
  rw [List.map_map, List.map_map]
  rfl
theorem key_str : key (.str x) = some (.inr x) := rfl
theorem look_mem : ∀ {l : List (Str × T)}, l.lookup x = some t → (x, t) ∈ l
  | [], h => by simp at h
  | (y, u) :: l, h => by
    by_cases q : x = y
    · subst q
      rw [List.lookup_cons_self] at h
      cases h
      exact List.mem_cons_self
    · have q' : (x == y) = false := by simpa using q
      rw [List.lookup_cons, q'] at h
      exact List.mem_cons_of_mem _ (look_mem h)
end
theorem look_of {α : Type} : ∀ {l : List (Str × α)} {x : Str} {a : α}, (l.map (·.1)).Nodup → (x, a) ∈ l → l.lookup x = some a
  | [], _, _, _, h => by cases h
  | (y, b) :: l, x, a, nd, h => by
    obtain ⟨n1, n2⟩ := List.nodup_cons.mp (show (y :: l.map (·.1)).Nodup from nd)
    rcases List.mem_cons.mp h with e | h
    · cases e
      exact List.lookup_cons_self
    · have q : x ≠ y := fun e => n1 (e ▸ List.mem_map.mpr ⟨_, h, rfl⟩)
      rw [List.lookup_cons, show (x == y) = false by simpa using q]
      exact look_of n2 h
theorem look_none {α : Type} : ∀ {l : List (Str × α)} {x : Str}, x ∉ l.map (·.1) → l.lookup x = none
  | [], _, _ => rfl
  | (y, b) :: l, x, h => by
    have q : x ≠ y := fun e => h (by simp [e])
    rw [List.lookup_cons, show (x == y) = false by simpa using q]
    exact look_none fun e => h (by rw [List.map_cons]; exact List.mem_cons_of_mem _ e)
theorem look_some {α : Type} {l : List (Str × α)} {x : Str} (h : x ∈ l.map (·.1)) : ∃ a, l.lookup x = some a ∧ (x, a) ∈ l := by
  induction l with
  | nil => cases h
  | cons p l ih =>
    obtain ⟨y, b⟩ := p
    by_cases q : x = y
    · subst q
      exact ⟨b, List.lookup_cons_self, List.mem_cons_self⟩
    · obtain ⟨a, h1, h2⟩ := ih (by
        rcases List.mem_cons.mp h with e | e
        · exact absurd e q
        · exact e)
      exact ⟨a, by rw [List.lookup_cons, show (x == y) = false by simpa using q]; exact h1, List.mem_cons_of_mem _ h2⟩
/-! ### tables of rows -/
abbrev Tab := List (Str × Row)
def Tab.names (tab : Tab) : List Str := tab.map (·.1)
def Tab.d (tab : Tab) : List (Key × T) := dk (tab.map fun p => (p.1, p.2.t))
def Tab.libs (tab : Tab) : List Lib := tab.map fun p => p.2.lib p.1
theorem tab_keys {tab : Tab} : (tab.map fun p => (p.1, p.2.t)).map (·.1) = tab.names := by
  rw [List.map_map]; rfl
theorem tab_look {tab : Tab} {x : Str} : (tab.map fun p => (p.1, p.2.t)).lookup x = (tab.lookup x).map Row.t := by
  induction tab with
  | nil => rfl
  | cons p tab ih =>
    obtain ⟨y, r⟩ := p
    rw [List.map_cons, List.lookup_cons, List.lookup_cons, ih]
    by_cases q : x = y
    · subst q; simp
    · rw [show (x == y) = false by simpa using q]
theorem tab_val {tab : Tab} {x : Str} : valT tab.d (.inr x) = (tab.lookup x).map Row.t := by
  unfold Tab.d
  rw [valT_dk, tab_look]
structure TabOk (tab : Tab) (gone : Str) (signs : List Str) : Prop where
  nd : tab.names.Nodup
  big : 2 ≤ tab.length
  few : tab.length ≤ 40
  word : ∀ x ∈ tab.names, wordB x = true
  goneW : wordB gone = true
  goneN : gone ∉ tab.names
  rows : ∀ x r, (x, r) ∈ tab → RowOk tab.names gone signs x r
  signsNd : signs.Nodup
  signsW : ∀ x ∈ signs, wordB x = true
  signsF : signs.length ≤ 20
theorem putS_tab {tab : Tab} {x : Str} {r : Row} (h : x ∉ tab.names) : dk (putS (tab.map fun p => (p.1, p.2.t)) x r.t) = Tab.d (tab ++ [(x, r)]) := by
  rw [putS_new (by rw [tab_keys]; exact h)]
  unfold Tab.d
  simp
theorem c_spelled {s : St} {E : EP} {f : M (List SV)} {Q : RZ → List Obj → Prop} {n : Nat} (hn : n < 100000) (h : WE f s (fun xs g => ∃ i m w, xs = [.o i, .t (.int (m : Nat))] ∧ g[i]? = some (.lst w) ∧ Wl n w ∧ m ≤ 52 ∧
    ∀ w' ws, Wl (n + 1 + 12 * m) w' → ws.length = m → ws.Nodup → (∀ x ∈ ws, wordB x = true) → Q (.n (.lst ((ws : List Str).map T.str))) (g.set i (.lst w'))) E) : WE (mCall 2 m_spelled f) s Q E := by
  refine w_call1 (h.mono (fun xs g h => ?_) fun _ _ _ h => h)
  obtain ⟨i, m, w, rfl, hg, hw, hm, k⟩ := h
  exact ⟨i, [.int m], _, rfl, rfl, hg, r_spelled hw hm hn fun w' ws h1 h2 h3 h4 => ⟨_, rfl, .inr ⟨_, rfl⟩, k w' ws h1 h2 h3 h4⟩⟩
theorem c_library {s : St} {E : EP} {f : M (List SV)} {Q : RZ → List Obj → Prop} {n : Nat} (h : WE f s (fun xs g => ∃ i word gone words signs w, xs = [.o i, .t (.str word), .t (LS words), .t (.str gone), .t (LS signs)] ∧ g[i]? = some (.lst w) ∧ Wl n w ∧ words.length ≤ 100 ∧ words ≠ [] ∧ signs.length ≤ 100 ∧
    n + 8 + 2 * words.length + 6 * signs.length < 1000000 ∧ words.Nodup ∧ signs.Nodup ∧ gone ∉ words ∧ word ∈ words ∧
    ∀ (w' : List T) (r : Row), Wl (n + 8 + 2 * words.length + 6 * signs.length) w' → RowOk words gone signs word r → Q (.v (.t r.t)) (g.set i (.lst w'))) E) : WE (mCall 5 m_library f) s Q E := by
  refine w_call1 (h.mono (fun xs g h => ?_) fun _ _ _ h => h)
  obtain ⟨i, word, gone, words, signs, w, rfl, hg, hw, h1, h2, h3, h4, h5, h6, h7, h8, k⟩ := h
  exact ⟨i, [.str word, LS words, .str gone, LS signs], _, rfl, rfl, hg, r_library hw h1 h2 h3 h4 h5 h6 h7 h8 fun w' r a b => ⟨_, rfl, .inl ⟨_, rfl⟩, k w' r a b⟩⟩
theorem r_libraries {n m : Nat} {signs : List Str} {w : List T} {Q : RZ → List Obj → Prop} {E : EP} (hw : Wl n w) (hn : n < 50000) (m2 : 2 ≤ m) (m24 : m ≤ 40) (hS : signs.length ≤ 20) (ndS : signs.Nodup) (hSW : ∀ x ∈ signs, wordB x = true)
    (h : ∀ (w' : List T) (tab : Tab) (gone : Str), Wl (n + 10000) w' → TabOk tab gone signs → tab.length ≤ m → Q (.v (.t (.tup [.dic tab.d, .str gone]))) [.lst w']) : MR m_libraries [.o 0, .t (.int m), .t (LS signs)] [.lst w] Q E := by
  refine m_run ?_
  walk_at "wp"
  refine c_spelled (n := n + 1) (by omega) ?_
  walk_at "wp"
  refine c_draw (n := n) (by omega) ?_
  walk_at "wp"
  refine ⟨0, _, w, rfl, rfl, hw, by omega, by omega, fun w1 d hw1 d0 d1 => ?_⟩
  walk_at "wp"
  obtain ⟨d, rfl⟩ := Int.eq_ofNat_of_zero_le d0
  refine ⟨0, 3 + d, w1, by simp, rfl, hw1, by omega, fun w2 ws hw2 hl nd hW => ?_⟩
  walk_at "wp"
  have hne : ws ≠ [] := by
    intro e
    rw [e] at hl
    simp at hl
    omega
  have hinit : (ws.map T.str).dropLast = ws.dropLast.map T.str := by rw [List.map_dropLast]
  rw [cut_init, hinit]
  have hlast : atI (ws.map T.str) (-1) = some (.str (ws.getLast hne)) := by
    rw [at_last (by simpa using hne), List.getLast_map]
  have hsplit : ws.dropLast ++ [ws.getLast hne] = ws := List.dropLast_concat_getLast hne
  have hgone : ws.getLast hne ∉ ws.dropLast := by
    intro hmem
    rw [← hsplit] at nd
    exact (List.nodup_append.mp nd).2.2 _ hmem _ List.mem_cons_self rfl
  have ndI : ws.dropLast.Nodup := nd.sublist (List.dropLast_sublist _)
  have lI : ws.dropLast.length = 2 + d := by
    rw [List.length_dropLast, hl]
    omega
  generalize hx : ws.getLast hne = gone at hlast hsplit hgone
  generalize hy : ws.dropLast = words at hinit hsplit hgone ndI lI
  have hd : d + 3 ≤ 43 := by omega
  refine s_loop (fun ims sl g => ∃ (rest : List Str) (tab : Tab) (w' : List T) (x5 : SV), ims = ones (rest.map T.str) ∧ words = tab.names ++ rest ∧ Wl (n + 1 + 1 + 12 * (3 + d) + 220 * tab.length) w' ∧ (∀ x r, (x, r) ∈ tab → RowOk words gone signs x r) ∧
    sl = [.o 0, .t (.int m), .t (LS signs), .t (LS ws), .o 1, x5] ∧ g = [.lst w', .dic tab.d]) ⟨words, [], w2, _, rfl, rfl, hw2, fun x r h => (by cases h), rfl, rfl⟩ ?_ ?_
  · rintro im r sl g ⟨rest, tab, w3, x5, hr, hws, hw3, hrow, rfl, rfl⟩
    cases rest with
    | nil => cases hr
    | cons x rest =>
      cases hr
      have e1 := congrArg List.length hws
      simp [Tab.names] at e1
      refine ⟨_, gN_one, ?_⟩
      walk_at "wp"
      refine c_library (n := n + 1 + 1 + 12 * (3 + d) + 220 * tab.length) ?_
      walk_at "wp"
      rw [hlast, cut_init, hinit]
      walk_at "wp"
      refine ⟨0, x, gone, words, signs, w3, rfl, rfl, hw3, by omega, ?_, by omega, by omega, ndI, ndS, hgone, ?_, fun w4 r hw4 hr => ?_⟩
      · intro e
        rw [e] at lI
        simp at lI
        omega
      · rw [hws]
        simp
      · have hxn : x ∉ tab.names := by
          intro hmem
          rw [hws] at ndI
          exact (List.nodup_append.mp ndI).2.2 _ hmem _ List.mem_cons_self rfl
        walk_at "wp"
        rw [key_str]
        walk_at "wp"
        have ed : (Tab.d tab).length = tab.length := by simp [Tab.d, dk]
        rw [ed]
        refine ⟨by omega, rest, tab ++ [(x, r)], w4, _, rfl, by rw [hws]; simp [Tab.names], hw4.mono (by simp; omega), ?_, rfl, ?_⟩
        · intro y q hmem
          rcases List.mem_append.mp hmem with h1 | h1
          · exact hrow y q h1
          · simp at h1
            obtain ⟨rfl, rfl⟩ := h1
            exact hr
        · rw [← putS_tab hxn, ← putT_dk]
          rfl
  · rintro sl g ⟨rest, tab, w3, x5, hr, hws, hw3, hrow, rfl, rfl⟩
    cases rest with
    | cons x rest => cases hr
    | nil =>
      rw [List.append_nil] at hws
      walk_at "wp"
      rw [hlast]
      walk_at "wp"
      have el : tab.length = 2 + d := by
        rw [← lI, hws]
        simp [Tab.names]
      refine h w3 tab gone (hw3.mono (by omega)) ⟨?_, by omega, by omega, ?_, ?_, ?_, ?_, ndS, hSW, hS⟩ (by omega)
      · rw [← hws]; exact ndI
      · intro x hx
        rw [← hws] at hx
        exact hW x (by rw [← hsplit]; exact List.mem_append_left _ hx)
      · exact hW gone (by rw [← hsplit]; simp)
      · rw [← hws]; exact hgone
      · rw [← hws]; exact hrow
end Mf


set_option Elab.async false
set_option linter.all false
set_option maxRecDepth 100000
set_option maxHeartbeats 4000000
namespace Mf
open PySem PySem.Spec PyProof.Rows L2 Sb
local macro_rules | `(tactic| walk_at "wp") => `(tactic| simp only [w_bind, w_ret, w_var, slQ_t, slQ_o, get0, getS, set0, setS, w_T, trQ_t, trQ_n, w_O, objQ_v, objQ_n, w_V, valQ_v, w_Z, w_TD, sealQ_n, w_nil, w_cons, opQ_some, w_op, w_op2, blQ_b, w_B, w_and, w_or, w_not, w_If, w_andV, w_orV, w_notV,
  opt_some, w_tru, w_isN, w_isi, s_nx, s_seq, s_ret, s_retN, s_drop, s_if, s_set, s_par, args2Q_is, augQ_t, s_aug, treeQ_t, s_unp, s_raise, s_for, itLQ_l, w_itL, itUQ_u, w_itU, lstsQ_l, zipQ_l, enumQ_l, rngQ_i, w_rng1, w_keys, w_items, libQ_l, w_libF, w_mkLib, w_meth, w_meth0, w_sl, w_part, partQ_i,
  vL_t, vL_s, vL_0, vL_f, vL_S, vL_u, vM_t, vM_0, vM_f, vM_S, vU_t, lstAt_0, lstAt_S, dicAt_0, dicAt_S, vD_t, vD_0, vD_f, vD_S, frzD_t, frzD_f, frzD_S, kindV_t, kindV_d, kindV_l, kindV_f, kindV_S, vP_t, vP_l, vP_f, vP_S, isL_is, or_some, none_or,
  oq_add, oq_sub, oq_lt, oq_le, oq_gt, oq_ge, oq_mul, oq_mod, oq_div, oq_pow, oq_intB, oq_intI, oq_neg, oq_addS, oq_ixS, oq_ixL, oq_ixU, oq_lenL, oq_lenU, oq_lenN, oq_lenS, oq_lenO, oq_cat, oq_catU, oq_rep, oq_disp0, oq_disp1, oq_disp2, oq_disp3, oq_disp4, oq_disp5, oq_disp6, oq_disp7,
  oq_tup0, oq_tup1, oq_tup2, oq_tup3, oq_tup4, oq_tup5, oq_tup6, oq_tupOf, oq_revL, oq_append, oq_extend, oq_popAt, oq_pop, oq_remove, oq_index, oq_eq, oq_in, oq_dget, oq_din, oq_listD, oq_dictD, oq_sorted, oq_sortedD, oq_bools, oq_inSto, oq_isWord, oq_names, so_lL, so_uU,
  all_str, all_int, inF_str, strsOf_map, boolsOf_map, libsOf_map, pds_str, pds_int, List.length_map, List.length_cons, List.length_nil, List.length_append, Option.map_some, Option.isSome_some, Bool.true_and, true_and, and_true, Nat.reduceAdd, Nat.reduceSub, List.replicate, List.cons_append, List.nil_append, if_true, Bool.false_eq_true, if_false, reduceCtorEq, exQ_t, exQ_n, exQ_o, outQ_f, outQ_l, outQ_d, s_setIx, setIxQ_i, s_dPut, dPutQ_k, ix_0, ix_1, ix_2, at_0, at_1, at_2, at_3, at_4, at_5, decide_eq_true_eq, List.take_succ_cons, List.take_zero, Nat.reduceLT, Nat.lt_irrefl, Nat.zero_lt_succ, w_dnew, sealQ_o, sealO_d, trQ_o, trO_l, trO_f, pd_int, pd_str, pd_bl, pd_non, pd_lst, pds_nil, dp_int, dp_str, dp_bl, dp_non, dp_nil, dp_strs, eqv_int, eqv_str, eqv_strs, eqv_strs0, Bool.not_eq_true', decide_eq_false_iff_not])
/-! ### a store of a table -/
theorem areW_of {ws : List Str} {m : Int} (nd : ws.Nodup) (hw : ∀ x ∈ ws, wordB x = true) (hl : (ws.length : Int) ≤ m) : areW (sv ws) m = true := by
  unfold areW sv
  rw [List.length_map, decide_eq_true hl, Bool.true_and, Bool.and_eq_true]
  refine ⟨?_, ?_⟩
  · rw [List.all_eq_true]
    intro v hv
    obtain ⟨x, hx, rfl⟩ := List.mem_map.mp hv
    exact hw x hx
  · rw [List.all_eq_true]
    intro v hv
    have nd2 : (ws.map V.str).Nodup := List.pairwise_map.mpr (nd.imp fun h e => h (by cases e; rfl))
    exact decide_eq_true (nd2.count.trans (by rw [if_pos hv]))
theorem sub_len : ∀ {us ws : List Str}, us.Nodup → (∀ x ∈ us, x ∈ ws) → us.length ≤ ws.length
  | [], _, _, _ => Nat.zero_le _
  | a :: us, ws, nd, h => by
    obtain ⟨n1, n2⟩ := List.nodup_cons.mp nd
    have ha := h a List.mem_cons_self
    have ih := sub_len (ws := ws.erase a) n2 fun x hx => (List.mem_erase_of_ne fun e => n1 (by rw [← e]; exact hx)).mpr (h x (List.mem_cons_of_mem _ hx))
    rw [List.length_erase_of_mem ha] at ih
    have := List.length_pos_of_mem ha
    rw [List.length_cons]
    omega
theorem row_ok {tab : Tab} {gone : Str} {signs : List Str} (h : TabOk tab gone signs) {x : Str} {r : Row} (hm : (x, r) ∈ tab) : (r.lib x).ok = true := by
  have R := h.rows x r hm
  have hx : x ∈ tab.names := List.mem_map.mpr ⟨_, hm, rfl⟩
  have hW := h.word x hx
  have ds := sub_len R.defsNd R.defs
  have us := sub_len R.usesNd R.uses
  have wk := sub_len R.weakNd R.weak
  have hF := h.signsF
  have dW : ∀ y ∈ r.defs, wordB y = true := fun y hy => h.signsW y (R.defs y hy)
  have uW : ∀ y ∈ r.uses, wordB y = true := fun y hy => h.signsW y (R.uses y hy)
  have wW : ∀ y ∈ r.weak, wordB y = true := fun y hy => uW y (R.weak y hy)
  have nW : ∀ y ∈ r.needs, wordB y = true := fun y hy => by
    rcases R.needs y hy with h1 | rfl
    · exact h.word y h1
    · exact h.goneW
  have few := R.few
  unfold Lib.ok Row.lib
  dsimp only
  rw [hW, areW_of R.needsNd nW (by omega), areW_of R.defsNd dW (by omega), areW_of R.usesNd uW (by omega), areW_of R.weakNd wW (by omega), decide_eq_false R.self]
  simp only [Bool.not_false, Bool.true_and, List.all_eq_true, decide_eq_true_eq]
  exact R.weak
theorem cut4 {α : Type} {a b c d e f : α} : cutT [a, b, c, d, e, f] none (some 4) = [a, b, c, d] := by
  rw [cut_take (by decide)]; rfl
theorem libs_names {tab : Tab} : namesL tab.libs = tab.names := by
  unfold namesL Tab.libs Tab.names
  rw [List.map_map]
  rfl
theorem gT_two {k : List T → List SV → Option (List SV)} {a b : T} {sl : List SV} : gT k (.two a b) sl = k [a, b] sl := rfl
theorem gT_tup {k : List T → List SV → Option (List SV)} {ts : List T} {sl : List SV} : gT k (.one (.tup ts)) sl = k ts sl := rfl
theorem gsC {i : Nat} {k : List T → List SV → Option (List SV)} {t : T} {ts : List T} {sl : List SV} : gsCons (gN i) k (t :: ts) sl = k ts (sl.set i (.t t)) := rfl
theorem gsN {sl : List SV} : gsNil [] sl = some sl := rfl
theorem vU_row {g : List Obj} {r : Row} : vU g (.t r.t) = some [.tup (r.needs.map T.str), .tup (r.defs.map T.str), .tup (r.uses.map T.str), .tup (r.weak.map T.str), .bl r.eager, .bl r.own] := rfl
theorem mkL_row {x : Str} {r : Row} : mkL [.t (.str x)] [.t (.tup (r.needs.map T.str)), .t (.tup (r.defs.map T.str)), .t (.tup (r.uses.map T.str)), .t (.tup (r.weak.map T.str)), .t (.bl r.eager), .t (.bl r.own)] = some (r.lib x) := by
  unfold mkL
  simp only [strsOf_map]
  rfl
local macro_rules | `(tactic| walk_at "wg") => `(tactic| simp only [gT_two, gT_tup, gsC, gsN, gN_one, set0, setS, opt_some])
theorem r_stored {tab : Tab} {gone : Str} {signs : List Str} {Q : RZ → List Obj → Prop} {E : EP} (h : TabOk tab gone signs) (k : Q (.v (.t (.sto tab.libs))) []) : MR m_stored [.t (.dic tab.d)] [] Q E := by
  refine m_run ?_
  walk_at "wp"
  unfold Tab.d
  rw [itemsI_dk]
  refine s_loop (fun ims sl g => ∃ (d r : Tab) (x2 x3 x4 x5 x6 x7 : SV), tab = d ++ r ∧ ims = (r.map fun p => (p.1, p.2.t)).map (fun p => Im.two (.str p.1) p.2) ∧ sl = [.t (.dic (dk (tab.map fun p => (p.1, p.2.t)))), .o 0, x2, x3, x4, x5, x6, x7] ∧ g = [.lst (d.libs.map T.lib)])
    ⟨[], tab, _, _, _, _, _, _, rfl, rfl, rfl, rfl⟩ ?_ ?_
  · rintro im r sl g ⟨d, r, x2, x3, x4, x5, x6, x7, ht, e, rfl, rfl⟩
    cases r with
    | nil => cases e
    | cons p r =>
      obtain ⟨x, row⟩ := p
      cases e
      refine ⟨_, rfl, ?_⟩
      walk_at "wp"
      rw [vU_row]
      walk_at "wp"
      rw [cut4]
      walk_at "wg"
      walk_at "wp"
      rw [vU_row]
      walk_at "wp"
      rw [mkL_row]
      simp only [opt_some]
      have hm : (x, row) ∈ tab := by rw [ht]; simp
      have hok := row_ok h hm
      have el := congrArg List.length ht
      simp at el
      have := h.few
      refine ⟨hok, by simp [Tab.libs]; omega, d ++ [(x, row)], r, _, _, _, _, _, _, by simp [ht], rfl, rfl, by simp [Tab.libs]⟩
  · rintro sl g ⟨d, r, x2, x3, x4, x5, x6, x7, ht, e, rfl, rfl⟩
    cases r with
    | cons p r => cases e
    | nil =>
      rw [List.append_nil] at ht
      subst ht
      refine w_mkSto ?_
      walk_at "wp"
      refine ⟨by rw [libs_names]; exact h.nd, ?_, k⟩
      have := h.few
      simp [Tab.libs]
      omega
end Mf


set_option Elab.async false
set_option linter.all false
set_option maxRecDepth 100000
set_option maxHeartbeats 4000000
namespace Mf
open PySem PySem.Spec PyProof.Rows L2 Sb
local macro_rules | `(tactic| walk_at "wp") => `(tactic| simp only [w_bind, w_ret, w_var, slQ_t, slQ_o, get0, getS, set0, setS, w_T, trQ_t, trQ_n, w_O, objQ_v, objQ_n, w_V, valQ_v, w_Z, w_TD, sealQ_n, w_nil, w_cons, opQ_some, w_op, w_op2, blQ_b, w_B, w_and, w_or, w_not, w_If, w_andV, w_orV, w_notV,
  opt_some, w_tru, w_isN, w_isi, s_nx, s_seq, s_ret, s_retN, s_drop, s_if, s_set, s_par, args2Q_is, augQ_t, s_aug, treeQ_t, s_unp, s_raise, s_for, itLQ_l, w_itL, itUQ_u, w_itU, lstsQ_l, zipQ_l, enumQ_l, rngQ_i, w_rng1, w_keys, w_items, libQ_l, w_libF, w_mkLib, w_meth, w_meth0, w_sl, w_part, partQ_i,
  vL_t, vL_s, vL_0, vL_f, vL_S, vL_u, vM_t, vM_0, vM_f, vM_S, vU_t, lstAt_0, lstAt_S, dicAt_0, dicAt_S, vD_t, vD_0, vD_f, vD_S, frzD_t, frzD_f, frzD_S, kindV_t, kindV_d, kindV_l, kindV_f, kindV_S, vP_t, vP_l, vP_f, vP_S, isL_is, or_some, none_or,
  oq_add, oq_sub, oq_lt, oq_le, oq_gt, oq_ge, oq_mul, oq_mod, oq_div, oq_pow, oq_intB, oq_intI, oq_neg, oq_addS, oq_ixS, oq_ixL, oq_ixU, oq_lenL, oq_lenU, oq_lenN, oq_lenS, oq_lenO, oq_cat, oq_catU, oq_rep, oq_disp0, oq_disp1, oq_disp2, oq_disp3, oq_disp4, oq_disp5, oq_disp6, oq_disp7,
  oq_tup0, oq_tup1, oq_tup2, oq_tup3, oq_tup4, oq_tup5, oq_tup6, oq_tupOf, oq_revL, oq_append, oq_extend, oq_popAt, oq_pop, oq_remove, oq_index, oq_eq, oq_in, oq_dget, oq_din, oq_listD, oq_dictD, oq_sorted, oq_sortedD, oq_bools, oq_inSto, oq_isWord, oq_names, so_lL, so_uU,
  all_str, all_int, inF_str, strsOf_map, boolsOf_map, libsOf_map, pds_str, pds_int, List.length_map, List.length_cons, List.length_nil, List.length_append, Option.map_some, Option.isSome_some, Bool.true_and, true_and, and_true, Nat.reduceAdd, Nat.reduceSub, List.replicate, List.cons_append, List.nil_append, if_true, Bool.false_eq_true, if_false, reduceCtorEq, exQ_t, exQ_n, exQ_o, outQ_f, outQ_l, outQ_d, s_setIx, setIxQ_i, s_dPut, dPutQ_k, ix_0, ix_1, ix_2, at_0, at_1, at_2, at_3, at_4, at_5, decide_eq_true_eq, List.take_succ_cons, List.take_zero, Nat.reduceLT, Nat.lt_irrefl, Nat.zero_lt_succ, w_dnew, sealQ_o, sealO_d, trQ_o, trO_l, trO_f, pd_int, pd_str, pd_bl, pd_non, pd_lst, pds_nil, dp_int, dp_str, dp_bl, dp_non, dp_nil, dp_strs, eqv_int, eqv_str, eqv_strs, eqv_strs0, Bool.not_eq_true', decide_eq_false_iff_not])
local macro_rules | `(tactic| walk_at "wg") => `(tactic| simp only [gT_two, gT_tup, gsC, gsN, gN_one, set0, setS, opt_some])
/-! ### closures -/
def grow (found needs : List Str) : List Str := found ++ needs.filter fun y => decide (y ∉ found)
def cloN (tab : Tab) : Nat → List Str → Nat → Option (List Str)
  | 0, found, _ => some found
  | f + 1, found, k => match found[k]? with
    | none => some found
    | some y => match tab.lookup y with
      | none => none
      | some r => cloN tab f (grow found r.needs) (k + 1)
def clo (tab : Tab) (x : Str) : Option (List Str) := cloN tab (tab.length + 2) [x] 0
theorem grow_nd {found needs : List Str} (h : found.Nodup) (h2 : needs.Nodup) : (grow found needs).Nodup := by
  refine List.nodup_append.mpr ⟨h, h2.sublist List.filter_sublist, fun a ha b hb e => ?_⟩
  subst e
  exact absurd ha (by simpa using (List.mem_filter.mp hb).2)
theorem grow_mem {found needs : List Str} {y : Str} : y ∈ grow found needs ↔ y ∈ found ∨ y ∈ needs := by
  unfold grow
  rw [List.mem_append, List.mem_filter]
  by_cases q : y ∈ found <;> simp [q]
theorem grow_pre (found needs : List Str) : found <+: grow found needs := List.prefix_append ..
theorem cloN_pre {tab : Tab} : ∀ {f : Nat} {found : List Str} {k : Nat} {res : List Str}, cloN tab f found k = some res → found <+: res
  | 0, found, k, res, h => by cases h; exact List.prefix_rfl
  | f + 1, found, k, res, h => by
    unfold cloN at h
    cases e : found[k]? with
    | none => rw [e] at h; cases h; exact List.prefix_rfl
    | some y =>
      rw [e] at h
      dsimp only at h
      cases e2 : tab.lookup y with
      | none => rw [e2] at h; cases h
      | some r =>
        rw [e2] at h
        exact (grow_pre _ _).trans (cloN_pre h)
/-- what a table of the law's draws says of its names -/
theorem tab_lookup {tab : Tab} {gone : Str} {signs : List Str} (h : TabOk tab gone signs) {y : Str} (hy : y ∈ tab.names) : ∃ r, tab.lookup y = some r ∧ (y, r) ∈ tab := look_some hy
theorem tab_lookN {tab : Tab} {y : Str} (hy : y ∉ tab.names) : tab.lookup y = none := look_none hy
/-- found so far -/
structure Fnd (tab : Tab) (gone : Str) (found : List Str) : Prop where
  nd : found.Nodup
  sub : ∀ y ∈ found, y ∈ tab.names ∨ y = gone
theorem Fnd.len {tab : Tab} {gone : Str} {found : List Str} (h : Fnd tab gone found) : found.length ≤ tab.length + 1 := by
  have := sub_len (ws := tab.names ++ [gone]) h.nd fun x hx => by
    rcases h.sub x hx with h | h
    · exact List.mem_append_left _ h
    · exact List.mem_append_right _ (by simp [h])
  simpa [Tab.names] using this
theorem Fnd.grow {tab : Tab} {gone : Str} {signs : List Str} (W : TabOk tab gone signs) {found : List Str} (h : Fnd tab gone found) {y : Str} {r : Row} (hm : (y, r) ∈ tab) : Fnd tab gone (grow found r.needs) :=
  ⟨grow_nd h.nd (W.rows y r hm).needsNd, fun z hz => by
    rcases grow_mem.mp hz with h1 | h1
    · exact h.sub z h1
    · exact (W.rows y r hm).needs z h1⟩
theorem cloN_all {tab : Tab} {gone : Str} {signs : List Str} (W : TabOk tab gone signs) : ∀ {f : Nat} {found : List Str} {k : Nat} {res : List Str}, Fnd tab gone found → tab.length + 2 ≤ f + k → (∀ i y, i < k → found[i]? = some y → y ∈ tab.names) → cloN tab f found k = some res → ∀ y ∈ res, y ∈ tab.names
  | 0, found, k, res, hf, hk, hv, h, y, hy => by
    cases h
    obtain ⟨i, hi⟩ := List.getElem?_of_mem hy
    have hl := hf.len
    have : i < found.length := (List.getElem?_eq_some_iff.mp hi).1
    exact hv i y (by omega) hi
  | f + 1, found, k, res, hf, hk, hv, h, y, hy => by
    unfold cloN at h
    cases e : found[k]? with
    | none =>
      rw [e] at h
      cases h
      obtain ⟨i, hi⟩ := List.getElem?_of_mem hy
      have : i < found.length := (List.getElem?_eq_some_iff.mp hi).1
      have : found.length ≤ k := List.getElem?_eq_none_iff.mp e
      exact hv i y (by omega) hi
    | some z =>
      rw [e] at h
      dsimp only at h
      cases e2 : tab.lookup z with
      | none => rw [e2] at h; cases h
      | some r =>
        rw [e2] at h
        have hz : z ∈ tab.names := by
          by_cases q : z ∈ tab.names
          · exact q
          · rw [tab_lookN q] at e2
            cases e2
        obtain ⟨r', e3, hm⟩ := tab_lookup W hz
        rw [e2] at e3
        cases e3
        refine cloN_all W (hf.grow W hm) (by omega) (fun i u hi hu => ?_) h y hy
        have hlt : k < found.length := (List.getElem?_eq_some_iff.mp e).1
        have e4 : found[i]? = some u := by
          rw [← hu]
          unfold Mf.grow
          rw [List.getElem?_append_left (by omega)]
        by_cases q : i < k
        · exact hv i u q e4
        · have : i = k := by omega
          subst this
          rw [e] at e4
          cases e4
          exact hz
theorem clo_all {tab : Tab} {gone : Str} {signs : List Str} (W : TabOk tab gone signs) {x : Str} {res : List Str} (hx : x ∈ tab.names) (h : clo tab x = some res) : ∀ y ∈ res, y ∈ tab.names :=
  cloN_all W ⟨by simp, fun y hy => .inl (by simp at hy; exact hy ▸ hx)⟩ (by omega) (fun i y hi _ => by omega) h
theorem clo_mem {tab : Tab} {x : Str} {res : List Str} (h : clo tab x = some res) : x ∈ res := (cloN_pre h).subset (by simp)
def cloR : Option (List Str) → RZ
  | none => .v (.t .non)
  | some fs => .v (.t (LS fs))
theorem r_closed {tab : Tab} {gone : Str} {signs : List Str} (W : TabOk tab gone signs) {x : Str} (hx : x ∈ tab.names) {Q : RZ → List Obj → Prop} {E : EP} (h : Q (cloR (clo tab x)) []) : MR m_closed [.t (.dic tab.d), .t (.str x)] [] Q E := by
  refine m_run ?_
  walk_at "wp"
  walk_at "wg"
  refine s_while (fun f sl g => ∃ (found : List Str) (k : Nat) (x4 : SV), cloN tab f found k = clo tab x ∧ Fnd tab gone found ∧ tab.length + 2 ≤ f + k ∧ sl = [.t (.dic tab.d), .t (.str x), .t (LS found), .t (.int k), x4] ∧ g = []) (n := tab.length + 2) (by have := W.few; unfold bigN; omega)
    ⟨[x], 0, _, rfl, ⟨by simp, fun y hy => .inl (by simp at hy; exact hy ▸ hx)⟩, by omega, rfl, rfl⟩ ?_
  rintro f sl g ⟨found, k, x4, hc, hf, hk, rfl, rfl⟩
  have hl := hf.len
  have := W.few
  walk_at "wp"
  split
  · rename_i hlt
    have hlt : k < found.length := by omega
    rw [atI_lt (by simpa using hlt), List.getElem?_map, List.getElem?_eq_getElem hlt]
    cases f with
    | zero => omega
    | succ f =>
      unfold cloN at hc
      rw [List.getElem?_eq_getElem hlt] at hc
      simp only [Option.map_some]
      walk_at "wp"
      rw [key_str]
      walk_at "wp"
      rw [tab_val]
      dsimp only at hc
      cases e2 : tab.lookup found[k] with
      | none =>
        rw [e2] at hc
        simp only [Option.map_none]
        rw [← hc] at h
        simpa [cloR] using h
      | some r =>
        rw [e2] at hc
        dsimp only at hc
        have hm : (found[k], r) ∈ tab := by
          by_cases q : found[k] ∈ tab.names
          · obtain ⟨r', e3, hm⟩ := tab_lookup W q
            rw [e2] at e3
            cases e3
            exact hm
          · rw [tab_lookN q] at e2
            cases e2
        have R := W.rows _ _ hm
        simp only [Option.map_some]
        walk_at "wp"
        refine w_comp ?_
        walk_at "wp"
        rw [atI_lt (by simpa using hlt), List.getElem?_map, List.getElem?_eq_getElem hlt]
        simp only [Option.map_some]
        walk_at "wp"
        rw [key_str]
        walk_at "wp"
        rw [tab_val, e2]
        simp only [Option.map_some]
        walk_at "wp"
        rw [vU_row]
        walk_at "wp"
        refine wc_strs (fun y => decide (y ∉ found)) Mf.T.str (by have := R.few; omega) (fun y hy => ⟨_, gN_one, ?_, fun _ => ?_⟩) ?_
        · simp only [wipe1]
          walk_at "wp"
          exact ⟨rfl, by simp⟩
        · simp only [wipe1]
          walk_at "wp"
        · walk_at "wp"
          have l1 := List.length_filter_le (fun y => decide (y ∉ found)) r.needs
          have := R.few
          refine ⟨by omega, f, by omega, grow found r.needs, k + 1, x4, hc, hf.grow W hm, by omega, ?_⟩
          simp [grow]
  · rename_i hlt
    have hlt : ¬ k < found.length := by omega
    have e : clo tab x = some found := by
      rw [← hc]
      cases f with
      | zero => rfl
      | succ f =>
        unfold cloN
        rw [List.getElem?_eq_none (by omega)]
    rw [e] at h
    exact h
theorem libs_find {tab : Tab} {x : Str} : findL tab.libs x = (tab.lookup x).map fun r => r.lib x := by
  unfold findL Tab.libs
  induction tab with
  | nil => rfl
  | cons p tab ih =>
    obtain ⟨y, r⟩ := p
    rw [List.map_cons, List.find?_cons, List.lookup_cons]
    by_cases q : x = y
    · subst q
      simp [Row.lib]
    · have q' : ¬ y = x := fun e => q e.symm
      have e1 : decide (((r.lib y) : Lib).name = x) = false := decide_eq_false q'
      rw [show (x == y) = false by simpa using q]
      simp only [e1]
      exact ih
theorem in_libs {tab : Tab} {x : Str} : inSto tab.libs (.str x) = some (decide (x ∈ tab.names)) := by
  show some (decide (x ∈ namesL tab.libs)) = _
  rw [libs_names]
theorem fieldL_needs {l : Lib} : fieldL "needs" l = some (.tup (l.needs.map .str)) := by unfold fieldL; rw [if_neg (by decide +kernel), if_pos rfl]
theorem fieldL_defs {l : Lib} : fieldL "defines" l = some (.tup (l.defs.map .str)) := by unfold fieldL; rw [if_neg (by decide +kernel), if_neg (by decide +kernel), if_pos rfl]
theorem fieldL_uses {l : Lib} : fieldL "uses" l = some (.tup (l.uses.map .str)) := by unfold fieldL; rw [if_neg (by decide +kernel), if_neg (by decide +kernel), if_neg (by decide +kernel), if_pos rfl]
theorem fieldL_weak {l : Lib} : fieldL "weak" l = some (.tup (l.weak.map .str)) := by unfold fieldL; rw [if_neg (by decide +kernel), if_neg (by decide +kernel), if_neg (by decide +kernel), if_neg (by decide +kernel), if_pos rfl]
/-- the program's closure finds what the law's finds -/
theorem r_closure {tab : Tab} {gone : Str} {signs : List Str} (W : TabOk tab gone signs) {x : Str} {res : List Str} (hx : x ∈ tab.names) (hc : clo tab x = some res) {Q : RZ → List Obj → Prop} {E : EP} (h : Q (.n (.lst (res.map Mf.T.str))) []) : MR m_closure [.t (.sto tab.libs), .t (.str x)] [] Q E := by
  have hall := clo_all W hx hc
  refine m_run ?_
  walk_at "wp"
  rw [in_libs, decide_eq_true hx]
  walk_at "wp"
  refine s_while (fun f sl g => ∃ (found : List Str) (k : Nat) (x4 x5 : SV), cloN tab f found k = some res ∧ Fnd tab gone found ∧ tab.length + 2 ≤ f + k ∧ sl = [.t (.sto tab.libs), .t (.str x), .o 0, .t (.int k), x4, x5] ∧ g = [.lst (found.map Mf.T.str)]) (n := tab.length + 2) (by have := W.few; unfold bigN; omega)
    ⟨[x], 0, _, _, hc, ⟨by simp, fun y hy => .inl (by simp at hy; exact hy ▸ hx)⟩, by omega, rfl, rfl⟩ ?_
  rintro f sl g ⟨found, k, x4, x5, hc, hf, hk, rfl, rfl⟩
  have hl := hf.len
  have := W.few
  walk_at "wp"
  split
  · rename_i hlt
    have hlt : k < found.length := by omega
    cases f with
    | zero => omega
    | succ f =>
      unfold cloN at hc
      rw [List.getElem?_eq_getElem hlt] at hc
      dsimp only at hc
      cases e2 : tab.lookup found[k] with
      | none => rw [e2] at hc; cases hc
      | some r =>
        rw [e2] at hc
        dsimp only at hc
        have hm : (found[k], r) ∈ tab := by
          by_cases q : found[k] ∈ tab.names
          · obtain ⟨r', e3, hm⟩ := tab_lookup W q
            rw [e2] at e3
            cases e3
            exact hm
          · rw [tab_lookN q] at e2
            cases e2
        have hn : found[k] ∈ tab.names := List.mem_map.mpr ⟨_, hm, rfl⟩
        have R := W.rows _ _ hm
        refine w_getSto ?_
        walk_at "wp"
        rw [atI_lt (by simpa using hlt), List.getElem?_map, List.getElem?_eq_getElem hlt]
        simp only [Option.map_some]
        walk_at "wp"
        refine ⟨tab.libs, found[k], rfl, rfl, .inr ⟨r.lib found[k], by rw [libs_names]; exact hn, by rw [libs_find, e2]; rfl, ?_⟩⟩
        rw [fieldL_needs]
        walk_at "wp"
        have hpre := cloN_pre hc
        refine s_loop (fun ims sl g => ∃ (d q : List Str) (x5 : SV), (r.lib found[k]).needs = d ++ q ∧ ims = ones (q.map Mf.T.str) ∧ sl = [.t (.sto tab.libs), .t (.str x), .o 0, .t (.int k), .t (.lib (r.lib found[k])), x5] ∧ g = [.lst ((grow found d).map Mf.T.str)]) ⟨[], _, _, rfl, rfl, rfl, by simp [grow]⟩ ?_ ?_
        · rintro im qr sl g ⟨d, q, x5, hd, hq, rfl, rfl⟩
          cases q with
          | nil => cases hq
          | cons y q =>
            cases hq
            have hd : r.needs = d ++ y :: q := hd
            have hy : y ∈ tab.names := hall y (hpre.subset (grow_mem.mpr (.inr (by rw [hd]; simp))))
            refine ⟨_, gN_one, ?_⟩
            walk_at "wp"
            rw [in_libs, decide_eq_true hy]
            walk_at "wp"
            refine ⟨rfl, ?_⟩
            have hyd : y ∉ d := by
              intro e
              have nd := R.needsNd
              rw [hd] at nd
              exact (List.nodup_append.mp nd).2.2 y e y List.mem_cons_self rfl
            have hg : y ∈ grow found d ↔ y ∈ found := by
              rw [grow_mem]
              exact ⟨fun h => h.resolve_right hyd, .inl⟩
            by_cases z : y ∈ found
            · rw [if_neg fun e => e (hg.mpr z)]
              refine ⟨d ++ [y], q, _, by simp [Row.lib, hd], rfl, rfl, ?_⟩
              simp [grow, z]
            · rw [if_pos fun e => z (hg.mp e)]
              have l1 : (grow found d).length ≤ found.length + d.length := by
                unfold grow
                rw [List.length_append]
                have := List.length_filter_le (fun y => decide (y ∉ found)) d
                omega
              have l2 := congrArg List.length hd
              have := R.few
              simp at l2
              refine ⟨by omega, d ++ [y], q, _, by simp [Row.lib, hd], rfl, rfl, ?_⟩
              simp [grow, z]
        · rintro sl g ⟨d, q, x5, hd, hq, rfl, rfl⟩
          cases q with
          | cons y q => cases hq
          | nil =>
            have hd : r.needs = d := by rw [show r.needs = d ++ [] from hd, List.append_nil]
            subst hd
            walk_at "wp"
            exact ⟨f, by omega, grow found r.needs, k + 1, _, _, hc, hf.grow W hm, by omega, rfl, rfl⟩
  · rename_i hlt
    have hlt : ¬ k < found.length := by omega
    have e : found = res := by
      cases f with
      | zero => cases hc; rfl
      | succ f =>
        unfold cloN at hc
        rw [List.getElem?_eq_none (by omega)] at hc
        cases hc
        rfl
    subst e
    exact h
end Mf


set_option Elab.async false
set_option linter.all false
set_option maxRecDepth 100000
set_option maxHeartbeats 4000000
namespace Mf
open PySem PySem.Spec PyProof.Rows L2 Sb
local macro_rules | `(tactic| walk_at "wp") => `(tactic| simp only [w_bind, w_ret, w_var, slQ_t, slQ_o, get0, getS, set0, setS, w_T, trQ_t, trQ_n, w_O, objQ_v, objQ_n, w_V, valQ_v, w_Z, w_TD, sealQ_n, w_nil, w_cons, opQ_some, w_op, w_op2, blQ_b, w_B, w_and, w_or, w_not, w_If, w_andV, w_orV, w_notV,
  opt_some, w_tru, w_isN, w_isi, s_nx, s_seq, s_ret, s_retN, s_drop, s_if, s_set, s_par, args2Q_is, augQ_t, s_aug, treeQ_t, s_unp, s_raise, s_for, itLQ_l, w_itL, itUQ_u, w_itU, lstsQ_l, zipQ_l, enumQ_l, rngQ_i, w_rng1, w_keys, w_items, libQ_l, w_libF, w_mkLib, w_meth, w_meth0, w_sl, w_part, partQ_i,
  vL_t, vL_s, vL_0, vL_f, vL_S, vL_u, vM_t, vM_0, vM_f, vM_S, vU_t, lstAt_0, lstAt_S, dicAt_0, dicAt_S, vD_t, vD_0, vD_f, vD_S, frzD_t, frzD_f, frzD_S, kindV_t, kindV_d, kindV_l, kindV_f, kindV_S, vP_t, vP_l, vP_f, vP_S, isL_is, or_some, none_or,
  oq_add, oq_sub, oq_lt, oq_le, oq_gt, oq_ge, oq_mul, oq_mod, oq_div, oq_pow, oq_intB, oq_intI, oq_neg, oq_addS, oq_ixS, oq_ixL, oq_ixU, oq_lenL, oq_lenU, oq_lenN, oq_lenS, oq_lenO, oq_cat, oq_catU, oq_rep, oq_disp0, oq_disp1, oq_disp2, oq_disp3, oq_disp4, oq_disp5, oq_disp6, oq_disp7,
  oq_tup0, oq_tup1, oq_tup2, oq_tup3, oq_tup4, oq_tup5, oq_tup6, oq_tupOf, oq_revL, oq_append, oq_extend, oq_popAt, oq_pop, oq_remove, oq_index, oq_eq, oq_in, oq_dget, oq_din, oq_listD, oq_dictD, oq_sorted, oq_sortedD, oq_bools, oq_inSto, oq_isWord, oq_names, so_lL, so_uU,
  all_str, all_int, inF_str, strsOf_map, boolsOf_map, libsOf_map, pds_str, pds_int, List.length_map, List.length_cons, List.length_nil, List.length_append, Option.map_some, Option.isSome_some, Bool.true_and, true_and, and_true, Nat.reduceAdd, Nat.reduceSub, List.replicate, List.cons_append, List.nil_append, if_true, Bool.false_eq_true, if_false, reduceCtorEq, exQ_t, exQ_n, exQ_o, outQ_f, outQ_l, outQ_d, s_setIx, setIxQ_i, s_dPut, dPutQ_k, ix_0, ix_1, ix_2, at_0, at_1, at_2, at_3, at_4, at_5, decide_eq_true_eq, List.take_succ_cons, List.take_zero, Nat.reduceLT, Nat.lt_irrefl, Nat.zero_lt_succ, w_dnew, sealQ_o, sealO_d, trQ_o, trO_l, trO_f, pd_int, pd_str, pd_bl, pd_non, pd_lst, pds_nil, dp_int, dp_str, dp_bl, dp_non, dp_nil, dp_strs, eqv_int, eqv_str, eqv_strs, eqv_strs0, Bool.not_eq_true', decide_eq_false_iff_not])
/-! ### dicts by texts, of any values -/
section
variable {α : Type} {f : α → Mf.T} {l : List (Str × α)} {x : Str} {a : α}
def gd (f : α → Mf.T) (l : List (Str × α)) : List (Key × Mf.T) := l.map fun p => (.inr p.1, f p.2)
def setL (l : List (Str × α)) (x : Str) (a : α) : List (Str × α) := if x ∈ l.map (·.1) then l.map (fun p => if p.1 = x then (p.1, a) else p) else l ++ [(x, a)]
theorem gd_len : (gd f l).length = l.length := by simp [gd]
theorem gd_val : valT (gd f l) (.inr x) = (l.lookup x).map f := by
  unfold valT gd
  induction l with
  | nil => rfl
  | cons p l ih =>
    obtain ⟨y, u⟩ := p
    rw [List.map_cons, List.find?_cons]
    by_cases q : y = x
    · subst q
      simp [List.lookup]
    · have q' : (x == y) = false := by simpa using fun e => q e.symm
      have q2 : decide ((Sum.inr y : Key) = .inr x) = false := by simpa using q
      rw [List.lookup_cons, q']
      simp only [q2]
      exact ih
theorem gd_any : ((gd f l).any fun kv => decide (kv.1 = Sum.inr x)) = decide (x ∈ l.map (·.1)) := by
  unfold gd
  induction l with
  | nil => rfl
  | cons p l ih =>
    rw [List.map_cons, List.any_cons, ih, List.map_cons]
    by_cases q : p.1 = x
    · subst q; simp
    · have : x ≠ p.1 := fun e => q e.symm
      simp [q, this]
theorem gd_put : putT (gd f l) (.inr x) (f a) = gd f (setL l x a) := by
  unfold putT setL
  rw [gd_any]
  by_cases q : x ∈ l.map (·.1)
  · rw [if_pos (decide_eq_true q), if_pos q]
    unfold gd
    rw [List.map_map, List.map_map]
    refine List.map_congr_left fun p _ => ?_
    by_cases z : p.1 = x <;> simp [z]
  · rw [if_neg (by simpa using q), if_neg q]
    unfold gd
    simp
theorem setL_new (h : x ∉ l.map (·.1)) : setL l x a = l ++ [(x, a)] := if_neg h
theorem setL_keys : (setL l x a).map (·.1) = if x ∈ l.map (·.1) then l.map (·.1) else l.map (·.1) ++ [x] := by
  unfold setL
  split
  · rw [List.map_map]
    refine List.map_congr_left fun p _ => ?_
    by_cases z : p.1 = x <;> simp [z]
  · simp
theorem setL_nodup (h : (l.map (·.1)).Nodup) : ((setL l x a).map (·.1)).Nodup := by
  rw [setL_keys]
  split
  · exact h
  · rename_i q
    refine List.nodup_append.mpr ⟨h, by simp, fun b hb c hc => ?_⟩
    simp at hc
    subst hc
    exact fun e => q (e ▸ hb)
theorem setL_mem {p : Str × α} (h : p ∈ setL l x a) : p = (x, a) ∨ p ∈ l := by
  unfold setL at h
  split at h
  · obtain ⟨q, h1, h2⟩ := List.mem_map.mp h
    by_cases z : q.1 = x
    · simp [z] at h2
      exact .inl h2.symm
    · simp [z] at h2
      exact .inr (h2 ▸ h1)
  · rcases List.mem_append.mp h with h | h
    · exact .inr h
    · simp at h
      exact .inl h
theorem keyStrs_gd : keyStrs (gd f l) = some (l.map (·.1)) := by
  unfold gd
  induction l with
  | nil => rfl
  | cons p l ih => rw [List.map_cons, keyStrs, ih]; rfl
theorem keysI_gd : keysI (gd f l) = ones ((l.map (·.1)).map Mf.T.str) := by
  unfold keysI gd ones
  rw [List.map_map, List.map_map, List.map_map]
  rfl
theorem itemsI_gd : itemsI (gd f l) = l.map fun p => .two (.str p.1) (f p.2) := by
  unfold itemsI gd
  rw [List.map_map]
  rfl
theorem keysT_gd : ((gd f l).map fun kv => keyT kv.1) = (l.map (·.1)).map Mf.T.str := by
  unfold gd
  rw [List.map_map, List.map_map]
  rfl
end
theorem tabd_gd {tab : Tab} : tab.d = gd Row.t tab := by
  unfold Tab.d dk gd
  rw [List.map_map]
  rfl
abbrev Dss := List (Str × Str)
abbrev ssd (l : Dss) : List (Key × Mf.T) := gd Mf.T.str l
/-- what is asked for: symbols, each of a library -/
structure AskOk (tab : Tab) (asked : Dss) : Prop where
  nd : (asked.map (·.1)).Nodup
  val : ∀ s n, (s, n) ∈ asked → n ∈ tab.names
  word : ∀ s ∈ asked.map (·.1), wordB s = true
  few : asked.length < 64
theorem AskOk.look {tab : Tab} {asked : Dss} (h : AskOk tab asked) {s : Str} (hs : s ∈ asked.map (·.1)) : ∃ n, asked.lookup s = some n ∧ n ∈ tab.names := by
  obtain ⟨n, h1, h2⟩ := look_some hs
  exact ⟨n, h1, h.val s n h2⟩
def defsOf (tab : Tab) (n : Str) : List Str := match tab.lookup n with
  | some r => r.defs
  | none => []
theorem sortS_mem {ws : List Str} {x : Str} : x ∈ sortS ws ↔ x ∈ ws := (sortS_perm ws).mem_iff
theorem sortS_len {ws : List Str} : (sortS ws).length = ws.length := (sortS_perm ws).length_eq
/-- store[n].defines -/
theorem g_defs {tab : Tab} {s : St} {E : EP} {f k : M SV} {Q : Mf.T → List Obj → Prop} (h : WE f s (fun x g => WE k ⟨s.sl, g⟩ (fun y g => ∃ n, x = .t (.sto tab.libs) ∧ y = .t (.str n) ∧ n ∈ tab.names ∧ Q (.tup ((defsOf tab n).map Mf.T.str)) g) E) E) : WE (mGetSto f k) s (fun z g => valQ z g fun x g => libQ x fun l => opt (fieldL "defines" l) fun t => Q t g) E := by
  refine w_getSto (h.mono (fun x g h => h.mono (fun y g h => ?_) fun _ _ _ h => h) fun _ _ _ h => h)
  obtain ⟨n, rfl, rfl, hn, hq⟩ := h
  obtain ⟨r, h1, _⟩ := look_some hn
  refine ⟨tab.libs, n, rfl, rfl, .inr ⟨r.lib n, by rw [libs_names]; exact hn, by rw [libs_find, h1]; rfl, ?_⟩⟩
  rw [valQ_v, libQ_l, fieldL_defs, opt_some]
  unfold defsOf at hq
  rw [h1] at hq
  exact hq
/-! ### first_definer -/
def firstD (tab : Tab) (scope : List Str) (s : Str) : Option Str := scope.find? fun n => decide (s ∈ defsOf tab n)
def strO : Option Str → Mf.T
  | none => .non
  | some n => .str n
theorem r_first_definer {tab : Tab} {scope : List Str} {y : Str} {Q : RZ → List Obj → Prop} {E : EP} (hs : ∀ n ∈ scope, n ∈ tab.names) (h : Q (.v (.t (strO (firstD tab scope y)))) []) : MR m_first_definer [.t (.sto tab.libs), .t (LS scope), .t (.str y)] [] Q E := by
  refine m_run ?_
  walk_at "wp"
  refine s_loop (fun ims sl g => ∃ (r : List Str) (x3 : SV), ims = ones (r.map Mf.T.str) ∧ firstD tab r y = firstD tab scope y ∧ (∀ n ∈ r, n ∈ tab.names) ∧ sl = [.t (.sto tab.libs), .t (LS scope), .t (.str y), x3] ∧ g = []) ⟨scope, _, rfl, rfl, hs, rfl, rfl⟩ ?_ ?_
  · rintro im q sl g ⟨r, x3, hr, hf, hn, rfl, rfl⟩
    cases r with
    | nil => cases hr
    | cons n r =>
      cases hr
      refine ⟨_, gN_one, ?_⟩
      walk_at "wp"
      refine g_defs (tab := tab) ?_
      walk_at "wp"
      refine ⟨n, rfl, hn n List.mem_cons_self, rfl, ?_⟩
      unfold firstD at hf
      rw [List.find?_cons] at hf
      by_cases z : y ∈ defsOf tab n
      · rw [if_pos z]
        rw [decide_eq_true z] at hf
        dsimp only at hf
        unfold firstD at h
        rw [← hf] at h
        exact h
      · rw [if_neg z]
        rw [decide_eq_false z] at hf
        exact ⟨r, _, rfl, hf, fun m hm => hn m (List.mem_cons_of_mem _ hm), rfl⟩
  · rintro sl g ⟨r, x3, hr, hf, hn, rfl, rfl⟩
    cases r with
    | cons n r => cases hr
    | nil =>
      rw [← hf] at h
      exact h
end Mf


set_option Elab.async false
set_option linter.all false
set_option maxRecDepth 100000
set_option maxHeartbeats 4000000
namespace Mf
open PySem PySem.Spec PyProof.Rows L2 Sb
local macro_rules | `(tactic| walk_at "wp") => `(tactic| simp only [w_bind, w_ret, w_var, slQ_t, slQ_o, get0, getS, set0, setS, w_T, trQ_t, trQ_n, w_O, objQ_v, objQ_n, w_V, valQ_v, w_Z, w_TD, sealQ_n, w_nil, w_cons, opQ_some, w_op, w_op2, blQ_b, w_B, w_and, w_or, w_not, w_If, w_andV, w_orV, w_notV,
  opt_some, w_tru, w_isN, w_isi, s_nx, s_seq, s_ret, s_retN, s_drop, s_if, s_set, s_par, args2Q_is, augQ_t, s_aug, treeQ_t, s_unp, s_raise, s_for, itLQ_l, w_itL, itUQ_u, w_itU, lstsQ_l, zipQ_l, enumQ_l, rngQ_i, w_rng1, w_keys, w_items, libQ_l, w_libF, w_mkLib, w_meth, w_meth0, w_sl, w_part, partQ_i,
  vL_t, vL_s, vL_0, vL_f, vL_S, vL_u, vM_t, vM_0, vM_f, vM_S, vU_t, lstAt_0, lstAt_S, dicAt_0, dicAt_S, vD_t, vD_0, vD_f, vD_S, frzD_t, frzD_f, frzD_S, kindV_t, kindV_d, kindV_l, kindV_f, kindV_S, vP_t, vP_l, vP_f, vP_S, isL_is, or_some, none_or,
  oq_add, oq_sub, oq_lt, oq_le, oq_gt, oq_ge, oq_mul, oq_mod, oq_div, oq_pow, oq_intB, oq_intI, oq_neg, oq_addS, oq_ixS, oq_ixL, oq_ixU, oq_lenL, oq_lenU, oq_lenN, oq_lenS, oq_lenO, oq_cat, oq_catU, oq_rep, oq_disp0, oq_disp1, oq_disp2, oq_disp3, oq_disp4, oq_disp5, oq_disp6, oq_disp7,
  oq_tup0, oq_tup1, oq_tup2, oq_tup3, oq_tup4, oq_tup5, oq_tup6, oq_tupOf, oq_revL, oq_append, oq_extend, oq_popAt, oq_pop, oq_remove, oq_index, oq_eq, oq_in, oq_dget, oq_din, oq_listD, oq_dictD, oq_sorted, oq_sortedD, oq_bools, oq_inSto, oq_isWord, oq_names, so_lL, so_uU,
  all_str, all_int, inF_str, strsOf_map, boolsOf_map, libsOf_map, pds_str, pds_int, List.length_map, List.length_cons, List.length_nil, List.length_append, Option.map_some, Option.isSome_some, Bool.true_and, true_and, and_true, Nat.reduceAdd, Nat.reduceSub, List.replicate, List.cons_append, List.nil_append, if_true, Bool.false_eq_true, if_false, reduceCtorEq, exQ_t, exQ_n, exQ_o, outQ_f, outQ_l, outQ_d, s_setIx, setIxQ_i, s_dPut, dPutQ_k, ix_0, ix_1, ix_2, at_0, at_1, at_2, at_3, at_4, at_5, decide_eq_true_eq, List.take_succ_cons, List.take_zero, Nat.reduceLT, Nat.lt_irrefl, Nat.zero_lt_succ, w_dnew, sealQ_o, sealO_d, trQ_o, trO_l, trO_f, pd_int, pd_str, pd_bl, pd_non, pd_lst, pds_nil, dp_int, dp_str, dp_bl, dp_non, dp_nil, dp_strs, eqv_int, eqv_str, eqv_strs, eqv_strs0, Bool.not_eq_true', decide_eq_false_iff_not])
/-! ### check_wishes, elders_of -/
theorem opt_strK {x : Str} : kindT (.str x) = some "str" := rfl
theorem kit_dict : kitB "dict" "dict" = some true := by decide +kernel
theorem kit_str : kitB "str" "str" = some true := by decide +kernel
theorem kindT_d {kvs : List (Key × Mf.T)} : kindT (.dic kvs) = some "dict" := rfl
theorem tab_keysI {tab : Tab} : keysI tab.d = ones (tab.names.map Mf.T.str) := by rw [tabd_gd, keysI_gd]; rfl
theorem tab_keysT {tab : Tab} : (tab.d.map fun kv => keyT kv.1) = tab.names.map Mf.T.str := by rw [tabd_gd, keysT_gd]; rfl
theorem tab_len {tab : Tab} : tab.d.length = tab.length := by rw [tabd_gd, gd_len]
local macro_rules | `(tactic| walk_at "wq") => `(tactic| simp only [w_bind, w_ret, w_var, slQ_t, slQ_o, get0, getS, set0, setS, w_T, trQ_t, trQ_n, w_O, objQ_v, objQ_n, w_V, valQ_v, w_Z, w_TD, sealQ_n, w_nil, w_cons, opQ_some, w_op, w_op2, blQ_b, w_B, w_and, w_or, w_not, w_If, w_andV, w_orV, w_notV,
  opt_some, w_tru, w_isN, w_isi, s_nx, s_seq, s_ret, s_retN, s_drop, s_if, s_set, s_par, args2Q_is, augQ_t, s_aug, treeQ_t, s_unp, s_raise, s_for, itLQ_l, w_itL, itUQ_u, w_itU, lstsQ_l, zipQ_l, enumQ_l, rngQ_i, w_rng1, w_keys, w_items, libQ_l, w_libF, w_mkLib, w_meth, w_meth0, w_sl, w_part, partQ_i,
  vL_t, vL_s, vL_0, vL_f, vL_S, vL_u, vM_t, vM_0, vM_f, vM_S, vU_t, lstAt_0, lstAt_S, dicAt_0, dicAt_S, vD_t, vD_0, vD_f, vD_S, frzD_t, frzD_f, frzD_S, kindV_t, kindV_d, kindV_l, kindV_f, kindV_S, vP_t, vP_l, vP_f, vP_S, isL_is, or_some, none_or,
  oq_add, oq_sub, oq_lt, oq_le, oq_gt, oq_ge, oq_mul, oq_mod, oq_div, oq_pow, oq_intB, oq_intI, oq_neg, oq_addS, oq_ixS, oq_ixL, oq_ixU, oq_lenL, oq_lenU, oq_lenN, oq_lenS, oq_lenO, oq_cat, oq_catU, oq_rep, oq_disp0, oq_disp1, oq_disp2, oq_disp3, oq_disp4, oq_disp5, oq_disp6, oq_disp7,
  oq_tup0, oq_tup1, oq_tup2, oq_tup3, oq_tup4, oq_tup5, oq_tup6, oq_tupOf, oq_revL, oq_append, oq_extend, oq_popAt, oq_pop, oq_remove, oq_index, oq_eq, oq_in, oq_dget, oq_din, oq_listD, oq_dictD, oq_sorted, oq_sortedD, oq_bools, oq_inSto, oq_isWord, oq_names, so_lL, so_uU,
  all_str, all_int, inF_str, strsOf_map, boolsOf_map, libsOf_map, pds_str, pds_int, List.length_map, List.length_cons, List.length_nil, List.length_append, Option.map_some, Option.isSome_some, Bool.true_and, true_and, and_true, Nat.reduceAdd, Nat.reduceSub, List.replicate, List.cons_append, List.nil_append, if_true, Bool.false_eq_true, if_false, reduceCtorEq, exQ_t, exQ_n, exQ_o, outQ_f, outQ_l, outQ_d, s_setIx, setIxQ_i, s_dPut, dPutQ_k, ix_0, ix_1, ix_2, at_0, at_1, at_2, at_3, at_4, at_5, decide_eq_true_eq, List.take_succ_cons, List.take_zero, Nat.reduceLT, Nat.lt_irrefl, Nat.zero_lt_succ, w_dnew, sealQ_o, sealO_d, trQ_o, trO_l, trO_f, pd_int, pd_str, pd_bl, pd_non, pd_lst, pds_nil, dp_int, dp_str, dp_bl, dp_non, dp_nil, dp_strs, eqv_int, eqv_str, eqv_strs, eqv_strs0, Bool.not_eq_true', decide_eq_false_iff_not, key_str, gd_val, gd_len, keysI_gd, keysT_gd, keyStrs_gd, itemsI_gd, in_libs, fieldL_defs, fieldL_needs, fieldL_uses, fieldL_weak, kindT_d, opt_strK, kit_dict, kit_str, wipe1, wipe0, gN_one, vU_row, gT_two, gT_tup, gsC, gsN, tab_keysI, tab_keysT, tab_len, tab_val])
theorem bl_map {ws : List Str} {b : Bool} : ws.map (fun _ => Mf.T.bl b) = (ws.map fun _ => b).map Mf.T.bl := by simp
/-- a loop over texts -/
theorem s_strs {ft : Im → List SV → Option (List SV)} {fb : M Fl} {sl : List SV} {g : List Obj} {Qn : List SV → List Obj → Prop} {Qr : RZ → List Obj → Prop} {E : EP} {ws : List Str} (I : List Str → List Str → List SV → List Obj → Prop) (h0 : I [] ws sl g)
    (hs : ∀ d x r sl g, ws = d ++ x :: r → I d (x :: r) sl g → ∃ sl1, ft (.one (.str x)) sl = some sl1 ∧ WS fb sl1 g (fun sl2 g2 => I (d ++ [x]) r sl2 g2) Qr E) (he : ∀ sl g, I ws [] sl g → Qn sl g) : WS (loopF ft fb (ones (ws.map Mf.T.str))) sl g Qn Qr E := by
  refine s_loop (fun ims sl g => ∃ d r, ws = d ++ r ∧ ims = ones (r.map Mf.T.str) ∧ I d r sl g) ⟨[], ws, rfl, rfl, h0⟩ ?_ ?_
  · rintro im q sl g ⟨d, r, hd, hr, hI⟩
    cases r with
    | nil => cases hr
    | cons x r =>
      cases hr
      obtain ⟨sl1, h1, h2⟩ := hs d x r sl g hd hI
      exact ⟨sl1, h1, h2.mono (fun sl2 g2 h => ⟨d ++ [x], r, by simp [hd], rfl, h⟩) (fun _ _ h => h) fun _ _ _ h => h⟩
  · rintro sl g ⟨d, r, hd, hr, hI⟩
    cases r with
    | cons x r => cases hr
    | nil =>
      rw [List.append_nil] at hd
      subst hd
      exact he sl g hI
theorem r_check_wishes {tab : Tab} {asked : Dss} (A : AskOk tab asked) {Q : RZ → List Obj → Prop} {E : EP} (h : Q (.v (.t .non)) []) : MR m_check_wishes [.t (.sto tab.libs), .t (.dic (ssd asked))] [] Q E := by
  refine m_run ?_
  walk_at "wp"
  rw [kindT_d]
  walk_at "wp"
  rw [kit_dict]
  walk_at "wp"
  refine w_comp ?_
  walk_at "wp"
  rw [keysI_gd]
  refine wc_strs (fun _ => true) (fun _ => .bl true) (by have := A.few; simp; omega) (fun x hx => ⟨_, gN_one, ?_, fun _ => ?_⟩) ?_
  · walk_at "wp"
  · simp only [wipe1]
    walk_at "wp"
    rw [opt_strK]
    walk_at "wp"
    rw [kit_str]
    walk_at "wp"
  · walk_at "wp"
    rw [bl_map]
    walk_at "wp"
    simp
    rw [keysT_gd, strsOf_map]
    simp only [opt_some]
    refine ⟨by simpa using A.few, ?_⟩
    refine s_strs (fun d r sl g => ∃ x2, sl = [.t (.sto tab.libs), .t (.dic (ssd asked)), x2] ∧ g = []) ⟨_, rfl, rfl⟩ ?_ fun _ _ _ => h
    rintro d x r sl g hd ⟨x2, rfl, rfl⟩
    have hx : x ∈ asked.map (·.1) := sortS_mem.mp (by rw [hd]; simp)
    obtain ⟨n, hl, hn⟩ := A.look hx
    have hw := A.word x hx
    refine ⟨_, gN_one, ?_⟩
    walk_at "wp"
    rw [hw]
    have hlen : x.length ≤ 12 := by
      unfold wordB at hw
      simp only [Bool.and_eq_true, decide_eq_true_eq] at hw
      exact hw.1.2
    refine ⟨by omega, ?_⟩
    walk_at "wp"
    rw [key_str]
    walk_at "wp"
    rw [gd_val, hl]
    walk_at "wp"
    rw [in_libs, decide_eq_true hn]
    walk_at "wp"
    exact ⟨_, rfl⟩
end Mf


set_option Elab.async false
set_option linter.all false
set_option maxRecDepth 100000
set_option maxHeartbeats 4000000
namespace Mf
open PySem PySem.Spec PyProof.Rows L2 Sb
local macro_rules | `(tactic| walk_at "wq") => `(tactic| simp only [w_bind, w_ret, w_var, slQ_t, slQ_o, get0, getS, set0, setS, w_T, trQ_t, trQ_n, w_O, objQ_v, objQ_n, w_V, valQ_v, w_Z, w_TD, sealQ_n, w_nil, w_cons, opQ_some, w_op, w_op2, blQ_b, w_B, w_and, w_or, w_not, w_If, w_andV, w_orV, w_notV,
  opt_some, w_tru, w_isN, w_isi, s_nx, s_seq, s_ret, s_retN, s_drop, s_if, s_set, s_par, args2Q_is, augQ_t, s_aug, treeQ_t, s_unp, s_raise, s_for, itLQ_l, w_itL, itUQ_u, w_itU, lstsQ_l, zipQ_l, enumQ_l, rngQ_i, w_rng1, w_keys, w_items, libQ_l, w_libF, w_mkLib, w_meth, w_meth0, w_sl, w_part, partQ_i,
  vL_t, vL_s, vL_0, vL_f, vL_S, vL_u, vM_t, vM_0, vM_f, vM_S, vU_t, lstAt_0, lstAt_S, dicAt_0, dicAt_S, vD_t, vD_0, vD_f, vD_S, frzD_t, frzD_f, frzD_S, kindV_t, kindV_d, kindV_l, kindV_f, kindV_S, vP_t, vP_l, vP_f, vP_S, isL_is, or_some, none_or,
  oq_add, oq_sub, oq_lt, oq_le, oq_gt, oq_ge, oq_mul, oq_mod, oq_div, oq_pow, oq_intB, oq_intI, oq_neg, oq_addS, oq_ixS, oq_ixL, oq_ixU, oq_lenL, oq_lenU, oq_lenN, oq_lenS, oq_lenO, oq_cat, oq_catU, oq_rep, oq_disp0, oq_disp1, oq_disp2, oq_disp3, oq_disp4, oq_disp5, oq_disp6, oq_disp7,
  oq_tup0, oq_tup1, oq_tup2, oq_tup3, oq_tup4, oq_tup5, oq_tup6, oq_tupOf, oq_revL, oq_append, oq_extend, oq_popAt, oq_pop, oq_remove, oq_index, oq_eq, oq_in, oq_dget, oq_din, oq_listD, oq_dictD, oq_sorted, oq_sortedD, oq_bools, oq_inSto, oq_isWord, oq_names, so_lL, so_uU,
  all_str, all_int, inF_str, strsOf_map, boolsOf_map, libsOf_map, pds_str, pds_int, List.length_map, List.length_cons, List.length_nil, List.length_append, Option.map_some, Option.isSome_some, Bool.true_and, true_and, and_true, Nat.reduceAdd, Nat.reduceSub, List.replicate, List.cons_append, List.nil_append, if_true, Bool.false_eq_true, if_false, reduceCtorEq, exQ_t, exQ_n, exQ_o, outQ_f, outQ_l, outQ_d, s_setIx, setIxQ_i, s_dPut, dPutQ_k, ix_0, ix_1, ix_2, at_0, at_1, at_2, at_3, at_4, at_5, decide_eq_true_eq, List.take_succ_cons, List.take_zero, Nat.reduceLT, Nat.lt_irrefl, Nat.zero_lt_succ, w_dnew, sealQ_o, sealO_d, trQ_o, trO_l, trO_f, pd_int, pd_str, pd_bl, pd_non, pd_lst, pds_nil, dp_int, dp_str, dp_bl, dp_non, dp_nil, dp_strs, eqv_int, eqv_str, eqv_strs, eqv_strs0, Bool.not_eq_true', decide_eq_false_iff_not, key_str, gd_val, gd_len, keysI_gd, keysT_gd, keyStrs_gd, itemsI_gd, in_libs, fieldL_defs, fieldL_needs, fieldL_uses, fieldL_weak, kindT_d, opt_strK, kit_dict, kit_str, wipe1, wipe0, gN_one, vU_row, gT_two, gT_tup, gsC, gsN, tab_keysI, tab_keysT, tab_len, tab_val])
/-! ### elders_of, required -/
def setd (l : Dss) (k v : Str) : Dss := if k ∈ l.map (·.1) then l else l ++ [(k, v)]
def eldS (tab : Tab) (main : Str) (asked : Dss) (name : Str) (acc : Dss) (s : Str) : Dss := match asked.lookup s with
  | some e => if s ∈ defsOf tab name ∧ (e ≠ name ∧ e ≠ main) then setd acc e s else acc
  | none => acc
def eldF (tab : Tab) (main : Str) (asked : Dss) (name : Str) : Dss := (sortS (asked.map (·.1))).foldl (eldS tab main asked name) []
/-- what an elder's list is made of -/
structure EldOk (tab : Tab) (main : Str) (asked : Dss) (name : Str) (l : Dss) : Prop where
  nd : (l.map (·.1)).Nodup
  is : ∀ e s, (e, s) ∈ l → asked.lookup s = some e ∧ s ∈ defsOf tab name ∧ e ≠ name ∧ e ≠ main ∧ e ∈ tab.names
theorem setd_ok {tab : Tab} {main : Str} {asked : Dss} {name : Str} {l : Dss} {e s : Str} (h : EldOk tab main asked name l) (h2 : asked.lookup s = some e ∧ s ∈ defsOf tab name ∧ e ≠ name ∧ e ≠ main ∧ e ∈ tab.names) : EldOk tab main asked name (setd l e s) := by
  unfold setd
  split
  · exact h
  · rename_i q
    refine ⟨?_, fun e' s' hm => ?_⟩
    · rw [List.map_append]
      refine List.nodup_append.mpr ⟨h.nd, by simp, fun b hb c hc => ?_⟩
      simp at hc
      subst hc
      exact fun e => q (e ▸ hb)
    · rcases List.mem_append.mp hm with h1 | h1
      · exact h.is e' s' h1
      · simp at h1
        obtain ⟨rfl, rfl⟩ := h1
        exact h2
theorem eldS_ok {tab : Tab} {main : Str} {asked : Dss} {name : Str} {l : Dss} {s : Str} (A : AskOk tab asked) (h : EldOk tab main asked name l) : EldOk tab main asked name (eldS tab main asked name l s) := by
  unfold eldS
  split
  · rename_i e he
    split
    · rename_i q
      exact setd_ok h ⟨he, q.1, q.2.1, q.2.2, A.val s e (look_mem' he)⟩
    · exact h
  · exact h
where look_mem' : ∀ {l : Dss} {s e : Str}, l.lookup s = some e → (s, e) ∈ l
  | [], _, _, h => by simp at h
  | (y, u) :: l, x, e, h => by
    by_cases q : x = y
    · subst q
      rw [List.lookup_cons_self] at h
      cases h
      exact List.mem_cons_self
    · rw [List.lookup_cons, show (x == y) = false by simpa using q] at h
      exact List.mem_cons_of_mem _ (look_mem' h)
theorem eldN_ok {tab : Tab} {main : Str} {asked : Dss} {name : Str} (A : AskOk tab asked) : ∀ (ss : List Str) (l : Dss), EldOk tab main asked name l → EldOk tab main asked name (ss.foldl (eldS tab main asked name) l)
  | [], l, h => h
  | s :: ss, l, h => eldN_ok A ss _ (eldS_ok A h)
theorem eldF_ok {tab : Tab} {main : Str} {asked : Dss} {name : Str} (A : AskOk tab asked) : EldOk tab main asked name (eldF tab main asked name) := eldN_ok A _ _ ⟨List.nodup_nil, fun _ _ h => by cases h⟩
theorem eld_few {tab : Tab} {gone : Str} {signs : List Str} (W : TabOk tab gone signs) {main name : Str} {asked l : Dss} (h : EldOk tab main asked name l) : l.length ≤ 40 := by
  have := sub_len (us := l.map (·.1)) (ws := tab.names) h.nd fun x hx => by
    obtain ⟨⟨e, s⟩, hm, rfl⟩ := List.mem_map.mp hx
    exact (h.is e s hm).2.2.2.2
  have h2 := W.few
  simp [Tab.names] at this
  omega
/-- store[n] -/
theorem g_lib {tab : Tab} {s : St} {E : EP} {f k : M SV} {Q : RZ → List Obj → Prop} (h : WE f s (fun x g => WE k ⟨s.sl, g⟩ (fun y g => ∃ n r, x = .t (.sto tab.libs) ∧ y = .t (.str n) ∧ tab.lookup n = some r ∧ Q (.v (.t (.lib (r.lib n)))) g) E) E) : WE (mGetSto f k) s Q E := by
  refine w_getSto (h.mono (fun x g h => h.mono (fun y g h => ?_) fun _ _ _ h => h) fun _ _ _ h => h)
  obtain ⟨n, r, rfl, rfl, hn, hq⟩ := h
  have hm : n ∈ tab.names := by
    by_cases q : n ∈ tab.names
    · exact q
    · rw [tab_lookN q] at hn
      cases hn
  exact ⟨tab.libs, n, rfl, rfl, .inr ⟨r.lib n, by rw [libs_names]; exact hm, by rw [libs_find, hn]; rfl, hq⟩⟩
theorem defs_of {tab : Tab} {n : Str} {r : Row} (h : tab.lookup n = some r) : defsOf tab n = r.defs := by
  unfold defsOf
  rw [h]
theorem lib_defs {r : Row} {n : Str} : (r.lib n).defs = r.defs := rfl
theorem lib_needs {r : Row} {n : Str} : (r.lib n).needs = r.needs := rfl
theorem lib_uses {r : Row} {n : Str} : (r.lib n).uses = r.uses := rfl
theorem lib_weak {r : Row} {n : Str} : (r.lib n).weak = r.weak := rfl
theorem all2 {a b : Str} : ([Mf.T.str a, Mf.T.str b].all flT) = true := rfl
theorem inF2 {x a b : Str} : inF (.str x) [Mf.T.str a, Mf.T.str b] = decide (x = a ∨ x = b) := by
  have := inF_str x [a, b]
  simpa using this
theorem r_elders {tab : Tab} {gone : Str} {signs : List Str} (W : TabOk tab gone signs) {main name : Str} {asked : Dss} (A : AskOk tab asked) (hn : name ∈ tab.names) {Q : RZ → List Obj → Prop} {E : EP} (h : Q (.n (.dic (ssd (eldF tab main asked name)))) []) :
    MR m_elders_of [.t (.sto tab.libs), .t (.str main), .t (.dic (ssd asked)), .t (.str name)] [] Q E := by
  refine m_run ?_
  walk_at "wq"
  refine ⟨by simpa using A.few, ?_⟩
  refine s_strs (fun d r sl g => ∃ (acc : Dss) (x5 x6 : SV), EldOk tab main asked name acc ∧ r.foldl (eldS tab main asked name) acc = eldF tab main asked name ∧ sl = [.t (.sto tab.libs), .t (.str main), .t (.dic (ssd asked)), .t (.str name), .o 0, x5, x6] ∧ g = [.dic (ssd acc)])
    ⟨[], _, _, ⟨List.nodup_nil, fun _ _ h => by cases h⟩, rfl, rfl, rfl⟩ ?_ ?_
  · rintro d x r sl g hd ⟨acc, x5, x6, hacc, hf, rfl, rfl⟩
    have hx : x ∈ asked.map (·.1) := sortS_mem.mp (by rw [hd]; simp)
    obtain ⟨e, hl, he⟩ := A.look hx
    have hstep : eldS tab main asked name acc x = if x ∈ defsOf tab name ∧ (e ≠ name ∧ e ≠ main) then setd acc e x else acc := by
      unfold eldS
      rw [hl]
    have hacc2 := eldS_ok (s := x) A hacc
    rw [List.foldl_cons] at hf
    refine ⟨_, gN_one, ?_⟩
    walk_at "wq"
    rw [hl]
    walk_at "wq"
    obtain ⟨row, hrow, _⟩ := look_some hn
    rw [defs_of hrow] at hstep
    refine g_lib (tab := tab) ?_
    walk_at "wq"
    refine ⟨name, row, rfl, hrow, ?_⟩
    rw [lib_defs]
    refine ⟨rfl, ?_⟩
    by_cases z : x ∈ row.defs
    · rw [if_pos z]
      refine ⟨rfl, ?_⟩
      rw [inF2]
      by_cases z2 : e = name ∨ e = main
      · rw [decide_eq_true z2]
        rw [if_neg fun q => z2.elim q.2.1 q.2.2] at hstep
        rw [hstep] at hf
        simp only [Bool.true_eq_false, if_false]
        exact ⟨acc, _, _, hacc, hf, rfl, rfl⟩
      · rw [decide_eq_false z2]
        have z3 : e ≠ name ∧ e ≠ main := ⟨fun q => z2 (.inl q), fun q => z2 (.inr q)⟩
        rw [if_pos ⟨z, z3⟩] at hstep
        rw [hstep] at hf hacc2
        simp only [if_true]
        refine w_dSetd ?_
        walk_at "wq"
        have hfew := eld_few W hacc
        refine ⟨0, .str e, .str x, ssd acc, .inr e, rfl, rfl, rfl, rfl, rfl, by rw [gd_len]; omega, fun w hw => ?_, fun hw => ?_⟩
        · have hin : e ∈ acc.map (·.1) := by
            by_cases q : e ∈ acc.map (·.1)
            · exact q
            · rw [gd_val, look_none q] at hw
              cases hw
          have e1 : setd acc e x = acc := if_pos hin
          rw [e1] at hf
          exact ⟨acc, _, _, hacc, hf, rfl, rfl⟩
        · have hout : e ∉ acc.map (·.1) := by
            intro q
            obtain ⟨u, hu, _⟩ := look_some q
            rw [gd_val, hu] at hw
            cases hw
          have e1 : setd acc e x = acc ++ [(e, x)] := if_neg hout
          refine ⟨setd acc e x, _, _, hacc2, hf, rfl, ?_⟩
          rw [e1, gd_put, setL_new hout]
          rfl
    · rw [if_neg z]
      rw [if_neg fun q => z q.1] at hstep
      rw [hstep] at hf
      exact ⟨acc, _, _, hacc, hf, rfl, rfl⟩
  · rintro sl g ⟨acc, x5, x6, hacc, hf, rfl, rfl⟩
    have hf : acc = eldF tab main asked name := hf
    rw [← hf] at h
    exact h
end Mf


set_option Elab.async false
set_option linter.all false
set_option maxRecDepth 100000
set_option maxHeartbeats 4000000
namespace Mf
open PySem PySem.Spec PyProof.Rows L2 Sb
local macro_rules | `(tactic| walk_at "wq") => `(tactic| simp only [w_bind, w_ret, w_var, slQ_t, slQ_o, get0, getS, set0, setS, w_T, trQ_t, trQ_n, w_O, objQ_v, objQ_n, w_V, valQ_v, w_Z, w_TD, sealQ_n, w_nil, w_cons, opQ_some, w_op, w_op2, blQ_b, w_B, w_and, w_or, w_not, w_If, w_andV, w_orV, w_notV,
  opt_some, w_tru, w_isN, w_isi, s_nx, s_seq, s_ret, s_retN, s_drop, s_if, s_set, s_par, args2Q_is, augQ_t, s_aug, treeQ_t, s_unp, s_raise, s_for, itLQ_l, w_itL, itUQ_u, w_itU, lstsQ_l, zipQ_l, enumQ_l, rngQ_i, w_rng1, w_keys, w_items, libQ_l, w_libF, w_mkLib, w_meth, w_meth0, w_sl, w_part, partQ_i,
  vL_t, vL_s, vL_0, vL_f, vL_S, vL_u, vM_t, vM_0, vM_f, vM_S, vU_t, lstAt_0, lstAt_S, dicAt_0, dicAt_S, vD_t, vD_0, vD_f, vD_S, frzD_t, frzD_f, frzD_S, kindV_t, kindV_d, kindV_l, kindV_f, kindV_S, vP_t, vP_l, vP_f, vP_S, isL_is, or_some, none_or,
  oq_add, oq_sub, oq_lt, oq_le, oq_gt, oq_ge, oq_mul, oq_mod, oq_div, oq_pow, oq_intB, oq_intI, oq_neg, oq_addS, oq_ixS, oq_ixL, oq_ixU, oq_lenL, oq_lenU, oq_lenN, oq_lenS, oq_lenO, oq_cat, oq_catU, oq_rep, oq_disp0, oq_disp1, oq_disp2, oq_disp3, oq_disp4, oq_disp5, oq_disp6, oq_disp7,
  oq_tup0, oq_tup1, oq_tup2, oq_tup3, oq_tup4, oq_tup5, oq_tup6, oq_tupOf, oq_revL, oq_append, oq_extend, oq_popAt, oq_pop, oq_remove, oq_index, oq_eq, oq_in, oq_dget, oq_din, oq_listD, oq_dictD, oq_sorted, oq_sortedD, oq_bools, oq_inSto, oq_isWord, oq_names, so_lL, so_uU,
  all_str, all_int, inF_str, strsOf_map, boolsOf_map, libsOf_map, pds_str, pds_int, List.length_map, List.length_cons, List.length_nil, List.length_append, Option.map_some, Option.isSome_some, Bool.true_and, true_and, and_true, Nat.reduceAdd, Nat.reduceSub, List.replicate, List.cons_append, List.nil_append, if_true, Bool.false_eq_true, if_false, reduceCtorEq, exQ_t, exQ_n, exQ_o, outQ_f, outQ_l, outQ_d, s_setIx, setIxQ_i, s_dPut, dPutQ_k, ix_0, ix_1, ix_2, at_0, at_1, at_2, at_3, at_4, at_5, decide_eq_true_eq, List.take_succ_cons, List.take_zero, Nat.reduceLT, Nat.lt_irrefl, Nat.zero_lt_succ, w_dnew, sealQ_o, sealO_d, trQ_o, trO_l, trO_f, pd_int, pd_str, pd_bl, pd_non, pd_lst, pds_nil, dp_int, dp_str, dp_bl, dp_non, dp_nil, dp_strs, eqv_int, eqv_str, eqv_strs, eqv_strs0, Bool.not_eq_true', decide_eq_false_iff_not, key_str, gd_val, gd_len, keysI_gd, keysT_gd, keyStrs_gd, itemsI_gd, in_libs, fieldL_defs, fieldL_needs, fieldL_uses, fieldL_weak, kindT_d, opt_strK, kit_dict, kit_str, wipe1, wipe0, gN_one, vU_row, gT_two, gT_tup, gsC, gsN, tab_keysI, tab_keysT, tab_len, tab_val])
/-! ### required -/
def reqS (tab : Tab) (scope : List Str) (asked : Dss) (acc : List Str) (s : Str) : List Str := match asked.lookup s with
  | some n => if firstD tab scope s ≠ some n ∧ n ∉ acc then acc ++ [n] else acc
  | none => acc
def reqB (tab : Tab) (scope : List Str) (asked : Dss) : List Str := (asked.map (·.1)).foldl (reqS tab scope asked) []
def reqN (nx : Str → List Str) : Nat → List Str → Nat → List Str
  | 0, found, _ => found
  | f + 1, found, k => match found[k]? with
    | none => found
    | some y => reqN nx f (grow found (nx y)) (k + 1)
def reqF (tab : Tab) (main : Str) (scope : List Str) (asked : Dss) : List Str := reqN (fun n => (eldF tab main asked n).map (·.1)) (tab.length + 1) (reqB tab scope asked) 0
structure InT (tab : Tab) (found : List Str) : Prop where
  nd : found.Nodup
  sub : ∀ y ∈ found, y ∈ tab.names
theorem InT.len {tab : Tab} {found : List Str} (h : InT tab found) : found.length ≤ tab.length := by
  have := sub_len h.nd h.sub
  simpa [Tab.names] using this
theorem app_nd {l : List Str} {x : Str} (h : l.Nodup) (hx : x ∉ l) : (l ++ [x]).Nodup := by
  refine List.nodup_append.mpr ⟨h, by simp, fun a ha b hb e => ?_⟩
  simp at hb
  subst hb
  exact hx (e ▸ ha)
theorem reqS_ok {tab : Tab} {scope : List Str} {asked : Dss} (A : AskOk tab asked) {acc : List Str} {s : Str} (h : InT tab acc) : InT tab (reqS tab scope asked acc s) := by
  unfold reqS
  split
  · rename_i n hn
    split
    · rename_i q
      refine ⟨app_nd h.nd q.2, fun y hy => ?_⟩
      rcases List.mem_append.mp hy with h1 | h1
      · exact h.sub y h1
      · simp at h1
        subst h1
        exact A.val s _ (eldS_ok.look_mem' hn)
    · exact h
  · exact h
theorem reqFold_ok {tab : Tab} {scope : List Str} {asked : Dss} (A : AskOk tab asked) : ∀ (ss : List Str) (acc : List Str), InT tab acc → InT tab (ss.foldl (reqS tab scope asked) acc)
  | [], acc, h => h
  | s :: ss, acc, h => reqFold_ok A ss _ (reqS_ok A h)
theorem reqB_ok {tab : Tab} {scope : List Str} {asked : Dss} (A : AskOk tab asked) : InT tab (reqB tab scope asked) := reqFold_ok A _ _ ⟨List.nodup_nil, fun _ h => by cases h⟩
theorem eld_names {tab : Tab} {main name : Str} {asked l : Dss} (h : EldOk tab main asked name l) : ∀ y ∈ l.map (·.1), y ∈ tab.names := fun y hy => by
  obtain ⟨⟨e, s⟩, hm, rfl⟩ := List.mem_map.mp hy
  exact (h.is e s hm).2.2.2.2
theorem InT.grow {tab : Tab} {main name : Str} {asked : Dss} (A : AskOk tab asked) {found : List Str} (h : InT tab found) : InT tab (grow found ((eldF tab main asked name).map (·.1))) :=
  ⟨grow_nd h.nd (eldF_ok A).nd, fun z hz => (grow_mem.mp hz).elim (h.sub z) (eld_names (eldF_ok A) z)⟩
theorem reqN_ok {tab : Tab} {main : Str} {asked : Dss} (A : AskOk tab asked) : ∀ (f : Nat) (found : List Str) (k : Nat), InT tab found → InT tab (reqN (fun n => (eldF tab main asked n).map (·.1)) f found k)
  | 0, found, k, h => h
  | f + 1, found, k, h => by
    unfold reqN
    split
    · exact h
    · exact reqN_ok A f _ _ (h.grow A)
theorem reqF_ok {tab : Tab} {main : Str} {scope : List Str} {asked : Dss} (A : AskOk tab asked) : InT tab (reqF tab main scope asked) := reqN_ok A _ _ _ (reqB_ok A)
/-- grown, one after another -/
theorem grow_step {found d : List Str} {y : Str} (hd : y ∉ d) : (if y ∈ grow found d then grow found d else grow found d ++ [y]) = grow found (d ++ [y]) := by
  have hg : y ∈ grow found d ↔ y ∈ found := by
    rw [grow_mem]
    exact ⟨fun h => h.resolve_right hd, .inl⟩
  by_cases z : y ∈ found
  · rw [if_pos (hg.mpr z)]
    simp [grow, z]
  · rw [if_neg fun e => z (hg.mp e)]
    simp [grow, z]
theorem grow_len (found d : List Str) : (grow found d).length ≤ found.length + d.length := by
  unfold grow
  rw [List.length_append]
  have := List.length_filter_le (fun y => decide (y ∉ found)) d
  omega
theorem strO_n : strO none = .non := rfl
theorem strO_s {n : Str} : strO (some n) = .str n := rfl
theorem eqv_ns {n : Str} : PyData.eqv .none (.str n) = false := by rw [PyData.eqv]
theorem c_first {tab : Tab} {s : St} {E : EP} {f : M (List SV)} {Q : RZ → List Obj → Prop} (h : WE f s (fun xs g => ∃ scope y, xs = [.t (.sto tab.libs), .t (LS scope), .t (.str y)] ∧ (∀ n ∈ scope, n ∈ tab.names) ∧ Q (.v (.t (strO (firstD tab scope y)))) g) E) : WE (mCall 3 m_first_definer f) s Q E := by
  refine w_call0 (h.mono (fun xs g h => ?_) fun _ _ _ h => h)
  obtain ⟨scope, y, rfl, hs, hq⟩ := h
  exact ⟨[.sto tab.libs, LS scope, .str y], rfl, rfl, r_first_definer hs ⟨rfl, .inl ⟨_, rfl⟩, hq⟩⟩
theorem c_elders {tab : Tab} {gone : Str} {signs : List Str} (W : TabOk tab gone signs) {asked : Dss} (A : AskOk tab asked) {s : St} {E : EP} {f : M (List SV)} {Q : RZ → List Obj → Prop} (h : WE f s (fun xs g => ∃ main name, xs = [.t (.sto tab.libs), .t (.str main), .t (.dic (ssd asked)), .t (.str name)] ∧ name ∈ tab.names ∧ Q (.n (.dic (ssd (eldF tab main asked name)))) g) E) : WE (mCall 4 m_elders_of f) s Q E := by
  refine w_call0 (h.mono (fun xs g h => ?_) fun _ _ _ h => h)
  obtain ⟨main, name, rfl, hn, hq⟩ := h
  exact ⟨[.sto tab.libs, .str main, .dic (ssd asked), .str name], rfl, rfl, r_elders W A hn ⟨rfl, .inr ⟨_, rfl⟩, hq⟩⟩
theorem r_required {tab : Tab} {gone : Str} {signs : List Str} (W : TabOk tab gone signs) {main : Str} {scope : List Str} {asked : Dss} (A : AskOk tab asked) (hs : ∀ n ∈ scope, n ∈ tab.names) {Q : RZ → List Obj → Prop} {E : EP} (h : Q (.n (.lst ((reqF tab main scope asked).map Mf.T.str))) []) :
    MR m_required [.t (.sto tab.libs), .t (.str main), .t (LS scope), .t (.dic (ssd asked))] [] Q E := by
  refine m_run ?_
  have hW := W.few
  refine s_cut (fun sl g => sl = [.t (.sto tab.libs), .t (.str main), .t (LS scope), .t (.dic (ssd asked)), .o 0, .un, .un, .un, .un] ∧ g = [.lst []]) ?_ ?_
  · walk_at "wq"
  rintro sl g ⟨rfl, rfl⟩
  refine s_cut (fun sl g => ∃ x5, sl = [.t (.sto tab.libs), .t (.str main), .t (LS scope), .t (.dic (ssd asked)), .o 0, x5, .un, .un, .un] ∧ g = [.lst ((reqB tab scope asked).map Mf.T.str)]) ?_ ?_
  · walk_at "wq"
    refine s_strs (fun d r sl g => ∃ (acc : List Str) (x5 : SV), InT tab acc ∧ r.foldl (reqS tab scope asked) acc = reqB tab scope asked ∧ sl = [.t (.sto tab.libs), .t (.str main), .t (LS scope), .t (.dic (ssd asked)), .o 0, x5, .un, .un, .un] ∧ g = [.lst (acc.map Mf.T.str)])
      ⟨[], _, ⟨List.nodup_nil, fun _ h => by cases h⟩, rfl, rfl, rfl⟩ ?_ ?_
    · rintro d x r sl g hd ⟨acc, x5, hacc, hf, rfl, rfl⟩
      have hx : x ∈ asked.map (·.1) := by rw [hd]; simp
      obtain ⟨n, hl, hn⟩ := A.look hx
      have hacc2 := reqS_ok (scope := scope) (s := x) A hacc
      have hlen := hacc.len
      rw [List.foldl_cons] at hf
      have hstep : reqS tab scope asked acc x = if firstD tab scope x ≠ some n ∧ n ∉ acc then acc ++ [n] else acc := by
        unfold reqS
        rw [hl]
      refine ⟨_, gN_one, ?_⟩
      walk_at "wq"
      refine c_first (tab := tab) ?_
      walk_at "wq"
      refine ⟨scope, x, rfl, hs, ?_⟩
      rw [hl]
      simp only [Option.map_some, opt_some]
      have fin : ∀ acc2, InT tab acc2 → acc2 = reqS tab scope asked acc x → ∃ acc_1 x5,
                        InT tab acc_1 ∧
                          List.foldl (reqS tab scope asked) acc_1 r = reqB tab scope asked ∧
                            [SV.t (T.sto tab.libs), SV.t (T.str main), SV.t (LS scope), SV.t (T.dic (ssd asked)),
                                  SV.o 0, SV.t (T.str x), SV.un, SV.un, SV.un] =
                                [SV.t (T.sto tab.libs), SV.t (T.str main), SV.t (LS scope), SV.t (T.dic (ssd asked)),
                                  SV.o 0, x5, SV.un, SV.un, SV.un] ∧
                              [Obj.lst (List.map T.str acc2)] = [Obj.lst (List.map T.str acc_1)] := fun acc2 h1 h2 =>
        ⟨acc2, _, h1, by rw [h2]; exact hf, rfl, rfl⟩
      by_cases z : firstD tab scope x = some n
      · rw [z, strO_s]
        walk_at "wq"
        simp only [not_true_eq_false, reduceIte]
        exact fin acc hacc (by rw [hstep, if_neg fun q => q.1 z])
      · by_cases z2 : n ∈ acc
        · have e2 := fin acc hacc (by rw [hstep, if_neg fun q => q.2 z2])
          cases hfd : firstD tab scope x with
          | none =>
            rw [strO_n]
            walk_at "wq"
            simp only [eqv_ns, z2, not_true_eq_false, not_false_eq_true, reduceIte]
            exact ⟨rfl, e2⟩
          | some m =>
            rw [strO_s]
            walk_at "wq"
            have q : ¬ m = n := fun e => z (by rw [hfd, e])
            simp only [q, z2, not_true_eq_false, not_false_eq_true, reduceIte]
            exact ⟨rfl, e2⟩
        · have e2 := fin (acc ++ [n]) ⟨app_nd hacc.nd z2, fun y hy => by
            rcases List.mem_append.mp hy with h1 | h1
            · exact hacc.sub y h1
            · simp at h1
              exact h1 ▸ hn⟩ (by rw [hstep, if_pos ⟨z, z2⟩])
          rw [List.map_append] at e2
          cases hfd : firstD tab scope x with
          | none =>
            rw [strO_n]
            walk_at "wq"
            simp only [eqv_ns, z2, not_true_eq_false, not_false_eq_true, reduceIte]
            exact ⟨rfl, by omega, e2⟩
          | some m =>
            rw [strO_s]
            walk_at "wq"
            have q : ¬ m = n := fun e => z (by rw [hfd, e])
            simp only [q, z2, not_true_eq_false, not_false_eq_true, reduceIte]
            exact ⟨rfl, by omega, e2⟩
    · rintro sl g ⟨acc, x5, hacc, hf, rfl, rfl⟩
      have hf : acc = reqB tab scope asked := hf
      subst hf
      exact ⟨x5, rfl, rfl⟩
  rintro sl g ⟨x5, rfl, rfl⟩
  walk_at "wq"
  refine s_while (fun f sl g => ∃ (found : List Str) (k : Nat) (x5 x7 x8 : SV), reqN (fun n => (eldF tab main asked n).map (·.1)) f found k = reqF tab main scope asked ∧ InT tab found ∧ tab.length + 1 ≤ f + k ∧ sl = [.t (.sto tab.libs), .t (.str main), .t (LS scope), .t (.dic (ssd asked)), .o 0, x5, .t (.int k), x7, x8] ∧ g = [.lst (found.map Mf.T.str)]) (n := tab.length + 1) (by unfold bigN; omega)
    ⟨_, 0, _, _, _, rfl, reqB_ok A, by omega, rfl, rfl⟩ ?_
  rintro f sl g ⟨found, k, x5, x7, x8, hc, hf, hk, rfl, rfl⟩
  have hl := hf.len
  walk_at "wq"
  split
  · rename_i hlt
    have hlt : k < found.length := by omega
    cases f with
    | zero => omega
    | succ f =>
      unfold reqN at hc
      rw [List.getElem?_eq_getElem hlt] at hc
      dsimp only at hc
      rw [atI_lt (by simpa using hlt), List.getElem?_map, List.getElem?_eq_getElem hlt]
      simp only [Option.map_some, opt_some]
      refine c_elders W A ?_
      walk_at "wq"
      refine ⟨main, found[k], rfl, hf.sub _ (List.getElem_mem hlt), ?_⟩
      have hE := eldF_ok (main := main) (name := found[k]) A
      have hEl := eld_few W hE
      have nd := hE.nd
      generalize he : (eldF tab main asked found[k]).map (·.1) = es at hc nd ⊢
      have hes : es.length ≤ 40 := by rw [← he]; simpa using hEl
      refine s_strs (fun d r sl g => ∃ (x8 : SV), sl = [.t (.sto tab.libs), .t (.str main), .t (LS scope), .t (.dic (ssd asked)), .o 0, x5, .t (.int k), .t (.str found[k]), x8] ∧ g = [.lst ((grow found d).map Mf.T.str)]) ⟨_, rfl, by simp [grow]⟩ ?_ ?_
      · rintro d y r sl g hd ⟨x8, rfl, rfl⟩
        refine ⟨_, gN_one, ?_⟩
        walk_at "wq"
        refine ⟨rfl, ?_⟩
        have hyd : y ∉ d := by
          intro e
          rw [hd] at nd
          exact (List.nodup_append.mp nd).2.2 y e y List.mem_cons_self rfl
        have hst := grow_step (found := found) hyd
        have l1 := grow_len found d
        have l2 := congrArg List.length hd
        simp at l2
        by_cases z : y ∈ grow found d
        · rw [if_pos z] at hst
          rw [if_neg fun e => e z]
          exact ⟨_, rfl, by rw [hst]⟩
        · rw [if_neg z] at hst
          rw [if_pos z]
          exact ⟨by omega, _, rfl, by rw [← hst, List.map_append]; rfl⟩
      · rintro sl g ⟨x8, rfl, rfl⟩
        walk_at "wq"
        exact ⟨f, by omega, grow found es, k + 1, _, _, _, hc, by rw [← he]; exact hf.grow A, by omega, rfl, rfl⟩
  · rename_i hlt
    have hlt : ¬ k < found.length := by omega
    have e : found = reqF tab main scope asked := by
      rw [← hc]
      cases f with
      | zero => rfl
      | succ f =>
        unfold reqN
        rw [List.getElem?_eq_none (by omega)]
    rw [e]
    exact h
end Mf


set_option Elab.async false
set_option linter.all false
set_option maxRecDepth 100000
set_option maxHeartbeats 4000000
namespace Mf
open PySem PySem.Spec PyProof.Rows L2 Sb
/-! ### first_elder, ring_of -/
abbrev Eld := List (Str × Dss)
abbrev eldd (e : Eld) : List (Key × Mf.T) := gd (fun l => .dic (ssd l)) e
theorem lib_all {r : Row} {n : Str} : (r.lib n).defs = r.defs ∧ (r.lib n).needs = r.needs ∧ (r.lib n).uses = r.uses ∧ (r.lib n).weak = r.weak := ⟨rfl, rfl, rfl, rfl⟩
theorem flT_str {x : Str} : flT (.str x) = true := rfl
theorem flT_int {x : Int} : flT (.int x) = true := rfl
local macro_rules | `(tactic| walk_at "wr") => `(tactic| simp only [w_bind, w_ret, w_var, slQ_t, slQ_o, get0, getS, set0, setS, w_T, trQ_t, trQ_n, w_O, objQ_v, objQ_n, w_V, valQ_v, w_Z, w_TD, sealQ_n, w_nil, w_cons, opQ_some, w_op, w_op2, blQ_b, w_B, w_and, w_or, w_not, w_If, w_andV, w_orV, w_notV,
  opt_some, w_tru, w_isN, w_isi, s_nx, s_seq, s_ret, s_retN, s_drop, s_if, s_set, s_par, args2Q_is, augQ_t, s_aug, treeQ_t, s_unp, s_raise, s_for, itLQ_l, w_itL, itUQ_u, w_itU, lstsQ_l, zipQ_l, enumQ_l, rngQ_i, w_rng1, w_keys, w_items, libQ_l, w_libF, w_mkLib, w_meth, w_meth0, w_sl, w_part, partQ_i,
  vL_t, vL_s, vL_0, vL_f, vL_S, vL_u, vM_t, vM_0, vM_f, vM_S, vU_t, lstAt_0, lstAt_S, dicAt_0, dicAt_S, vD_t, vD_0, vD_f, vD_S, frzD_t, frzD_f, frzD_S, kindV_t, kindV_d, kindV_l, kindV_f, kindV_S, vP_t, vP_l, vP_f, vP_S, isL_is, or_some, none_or,
  oq_add, oq_sub, oq_lt, oq_le, oq_gt, oq_ge, oq_mul, oq_mod, oq_div, oq_pow, oq_intB, oq_intI, oq_neg, oq_addS, oq_ixS, oq_ixL, oq_ixU, oq_lenL, oq_lenU, oq_lenN, oq_lenS, oq_lenO, oq_cat, oq_catU, oq_rep, oq_disp0, oq_disp1, oq_disp2, oq_disp3, oq_disp4, oq_disp5, oq_disp6, oq_disp7,
  oq_tup0, oq_tup1, oq_tup2, oq_tup3, oq_tup4, oq_tup5, oq_tup6, oq_tupOf, oq_revL, oq_append, oq_extend, oq_popAt, oq_pop, oq_remove, oq_index, oq_eq, oq_in, oq_dget, oq_din, oq_listD, oq_dictD, oq_sorted, oq_sortedD, oq_bools, oq_inSto, oq_isWord, oq_names, so_lL, so_uU,
  all_str, all_int, inF_str, strsOf_map, boolsOf_map, libsOf_map, pds_str, pds_int, List.length_map, List.length_cons, List.length_nil, List.length_append, Option.map_some, Option.isSome_some, Bool.true_and, true_and, and_true, Nat.reduceAdd, Nat.reduceSub, List.replicate, List.cons_append, List.nil_append, if_true, Bool.false_eq_true, if_false, reduceCtorEq, exQ_t, exQ_n, exQ_o, outQ_f, outQ_l, outQ_d, s_setIx, setIxQ_i, s_dPut, dPutQ_k, ix_0, ix_1, ix_2, at_0, at_1, at_2, at_3, at_4, at_5, decide_eq_true_eq, List.take_succ_cons, List.take_zero, Nat.reduceLT, Nat.lt_irrefl, Nat.zero_lt_succ, w_dnew, sealQ_o, sealO_d, trQ_o, trO_l, trO_f, pd_int, pd_str, pd_bl, pd_non, pd_lst, pds_nil, dp_int, dp_str, dp_bl, dp_non, dp_nil, dp_strs, eqv_int, eqv_str, eqv_strs, eqv_strs0, Bool.not_eq_true', decide_eq_false_iff_not, key_str, gd_val, gd_len, keysI_gd, keysT_gd, keyStrs_gd, itemsI_gd, in_libs, fieldL_defs, fieldL_needs, fieldL_uses, fieldL_weak, kindT_d, opt_strK, kit_dict, kit_str, wipe1, wipe0, gN_one, vU_row, gT_two, gT_tup, gsC, gsN, tab_keysI, tab_keysT, tab_len, tab_val, lib_defs, lib_needs, lib_uses, lib_weak, eqv_ns, strO_n, strO_s, flT_str, flT_int])
theorem findF_str {x : Str} : ∀ {ws : List Str}, x ∈ ws → findF (.str x) (ws.map Mf.T.str) = some (ws.idxOf x)
  | [], h => by cases h
  | w :: ws, h => by
    rw [List.map_cons, findF, List.idxOf_cons]
    by_cases q : w = x
    · subst q
      simp [eqF]
    · have q' : eqF (.str w) (.str x) = false := by simpa [eqF] using q
      rw [q', findF_str (by
        rcases List.mem_cons.mp h with e | e
        · exact absurd e.symm q
        · exact e)]
      have q2 : (w == x) = false := by simpa using q
      rw [q2]
      rfl
def cand (e : Eld) (left : List Str) (n : Str) : List Str := (((e.lookup n).getD []).map (·.1)).filter fun y => decide (y ∈ left)
def feF (e : Eld) (left : List Str) (n : Str) : Str := (cand e left n).head?.getD ""
theorem r_first_elder {e : Eld} {left : List Str} {n : Str} {l : Dss} {y : Str} {r : List Str} (hl : e.lookup n = some l) (hf : l.length ≤ 100) (hc : cand e left n = y :: r) {Q : RZ → List Obj → Prop} {E : EP} (h : Q (.v (.t (.str y))) [.dic (eldd e)]) :
    MR m_first_elder [.o 0, .t (LS left), .t (.str n)] [.dic (eldd e)] Q E := by
  refine m_run ?_
  walk_at "wr"
  refine w_comp ?_
  walk_at "wr"
  rw [hl]
  walk_at "wr"
  refine wc_strs (fun y => decide (y ∈ left)) Mf.T.str (by simpa using by omega) (fun x hx => ⟨_, gN_one, ?_, fun _ => ?_⟩) ?_
  · walk_at "wr"
  · walk_at "wr"
  · have hc : (l.map (·.1)).filter (fun y => decide (y ∈ left)) = y :: r := by
      unfold cand at hc
      rw [hl] at hc
      exact hc
    rw [hc]
    walk_at "wr"
    simp only [List.map_cons]
    walk_at "wr"
    exact h
theorem c_first_elder {e : Eld} {s : St} {E : EP} {f : M (List SV)} {Q : RZ → List Obj → Prop} (h : WE f s (fun xs g => ∃ i left n l y r, xs = [.o i, .t (LS left), .t (.str n)] ∧ g[i]? = some (.dic (eldd e)) ∧ e.lookup n = some l ∧ l.length ≤ 100 ∧ cand e left n = y :: r ∧ Q (.v (.t (.str y))) (g.set i (.dic (eldd e)))) E) : WE (mCall 3 m_first_elder f) s Q E := by
  refine w_call1 (h.mono (fun xs g h => ?_) fun _ _ _ h => h)
  obtain ⟨i, left, n, l, y, r, rfl, hg, h1, h2, h3, hq⟩ := h
  exact ⟨i, [LS left, .str n], _, rfl, rfl, hg, r_first_elder h1 h2 h3 ⟨_, rfl, .inl ⟨_, rfl⟩, hq⟩⟩
/-- the walk from elder to elder -/
def walkF (fe : Str → Str) : Nat → List Str → Str → List Str × Str
  | 0, row, el => (row, el)
  | f + 1, row, el => if el ∈ row then (row, el) else walkF fe f (row ++ [el]) (fe el)
/-- a row that follows fe -/
structure Chain (fe : Str → Str) (left row : List Str) (el : Str) : Prop where
  nd : row.Nodup
  sub : ∀ x ∈ row, x ∈ left
  inL : el ∈ left
  ne : row ≠ []
  next : ∀ i (h : i + 1 < row.length), fe row[i] = row[i + 1]
  last : fe (row.getLast ne) = el
theorem Chain.app {fe : Str → Str} {left row : List Str} {el : Str} (h : Chain fe left row el) (hl : ∀ x ∈ left, fe x ∈ left) (hn : el ∉ row) : Chain fe left (row ++ [el]) (fe el) := by
  refine ⟨app_nd h.nd hn, fun x hx => ?_, hl el h.inL, by simp, fun i hi => ?_, by simp⟩
  · rcases List.mem_append.mp hx with h1 | h1
    · exact h.sub x h1
    · simp at h1
      exact h1 ▸ h.inL
  · rw [List.length_append] at hi
    simp at hi
    have hi' : i < row.length := by omega
    rw [List.getElem_append_left hi']
    by_cases q : i + 1 < row.length
    · rw [List.getElem_append_left q]
      exact h.next i q
    · rw [List.getElem_append_right (by omega)]
      have e : i = row.length - 1 := by omega
      have e2 : row[i] = row.getLast h.ne := by rw [List.getLast_eq_getElem]; congr
      rw [e2, h.last]
      simp
theorem Chain.len {fe : Str → Str} {left row : List Str} {el : Str} (h : Chain fe left row el) : row.length ≤ left.length := sub_len h.nd h.sub
/-- where the walk ends -/
theorem walk_end {fe : Str → Str} {left : List Str} (hl : ∀ x ∈ left, fe x ∈ left) : ∀ (f : Nat) (row : List Str) (el : Str), Chain fe left row el → left.length + 1 ≤ f + row.length → Chain fe left (walkF fe f row el).1 (walkF fe f row el).2 ∧ (walkF fe f row el).2 ∈ (walkF fe f row el).1
  | 0, row, el, h, hf => by have := h.len; omega
  | f + 1, row, el, h, hf => by
    unfold walkF
    split
    · rename_i q
      exact ⟨h, q⟩
    · rename_i q
      exact walk_end hl f _ _ (h.app hl q) (by simp; omega)
/-- the ring, youngest last -/
def ringL (fe : Str → Str) (left : List Str) : List Str :=
  let w := walkF fe left.length [left.headD ""] (fe (left.headD ""))
  (w.1.drop (w.1.idxOf w.2)).reverse
def ringP (e : Eld) (ring : List Str) : Dss := (ring.zip (ring.drop 1 ++ ring.take 1)).map fun p => (p.1, (((e.lookup p.2).getD []).lookup p.1).getD "")
theorem ring_next {fe : Str → Str} {left row : List Str} {el : Str} (h : Chain fe left row el) (hin : el ∈ row) : ∀ p ∈ ((row.drop (row.idxOf el)).reverse).zip (((row.drop (row.idxOf el)).reverse).drop 1 ++ ((row.drop (row.idxOf el)).reverse).take 1), fe p.2 = p.1 ∧ p.2 ∈ left := by
  have hk : row.idxOf el < row.length := List.idxOf_lt_length_of_mem hin
  have hek : row[row.idxOf el] = el := List.getElem_idxOf hk
  generalize row.idxOf el = k at hk hek
  intro p hp
  obtain ⟨i, hi⟩ := List.getElem?_of_mem hp
  have hlen : ((row.drop k).reverse).length = row.length - k := by simp
  obtain ⟨x, y⟩ := p
  rw [List.getElem?_zip_eq_some] at hi
  obtain ⟨h1, h2⟩ := hi
  have hi1 : i < row.length - k := by
    have := (List.getElem?_eq_some_iff.mp h1).1
    simpa using this
  have gx : x = row[row.length - 1 - i] := by
    rw [List.getElem?_reverse (by simpa using hi1), List.getElem?_drop] at h1
    simp at h1
    rw [List.getElem?_eq_some_iff] at h1
    obtain ⟨h3, h4⟩ := h1
    rw [← h4]
    congr 1
    omega
  by_cases q : i + 1 < row.length - k
  · rw [List.getElem?_append_left (by simp; omega), List.getElem?_drop] at h2
    rw [List.getElem?_reverse (by simp; omega), List.getElem?_drop] at h2
    rw [List.getElem?_eq_some_iff] at h2
    obtain ⟨h3, h4⟩ := h2
    have gy : y = row[row.length - 2 - i] := by
      refine (show y = _ from h4.symm).trans ?_
      congr 1
      simp
      omega
    rw [gx, gy]
    refine ⟨?_, h.sub _ (List.getElem_mem _)⟩
    have := h.next (row.length - 2 - i) (by omega)
    rw [this]
    congr 1
    omega
  · have e : i = row.length - k - 1 := by omega
    subst e
    rw [List.getElem?_append_right (by simp)] at h2
    simp only [List.length_drop, List.length_reverse] at h2
    rw [show row.length - k - 1 - (row.length - k - 1) = 0 by omega, List.getElem?_take_of_lt (by omega), List.getElem?_reverse (by simp; omega), List.getElem?_drop] at h2
    rw [List.getElem?_eq_some_iff] at h2
    obtain ⟨h3, h4⟩ := h2
    have gy : y = row.getLast h.ne := by
      refine (show y = _ from h4.symm).trans ?_
      rw [List.getLast_eq_getElem]
      congr 1
      simp
      omega
    refine ⟨?_, gy ▸ h.sub _ (List.getLast_mem h.ne)⟩
    dsimp only
    rw [gx, gy, h.last, ← hek]
    congr 1
    omega
end Mf


set_option Elab.async false
set_option linter.all false
set_option maxRecDepth 100000
set_option maxHeartbeats 4000000
namespace Mf
open PySem PySem.Spec PyProof.Rows L2 Sb
local macro_rules | `(tactic| walk_at "wr") => `(tactic| simp only [w_bind, w_ret, w_var, slQ_t, slQ_o, get0, getS, set0, setS, w_T, trQ_t, trQ_n, w_O, objQ_v, objQ_n, w_V, valQ_v, w_Z, w_TD, sealQ_n, w_nil, w_cons, opQ_some, w_op, w_op2, blQ_b, w_B, w_and, w_or, w_not, w_If, w_andV, w_orV, w_notV,
  opt_some, w_tru, w_isN, w_isi, s_nx, s_seq, s_ret, s_retN, s_drop, s_if, s_set, s_par, args2Q_is, augQ_t, s_aug, treeQ_t, s_unp, s_raise, s_for, itLQ_l, w_itL, itUQ_u, w_itU, lstsQ_l, zipQ_l, enumQ_l, rngQ_i, w_rng1, w_keys, w_items, libQ_l, w_libF, w_mkLib, w_meth, w_meth0, w_sl, w_part, partQ_i,
  vL_t, vL_s, vL_0, vL_f, vL_S, vL_u, vM_t, vM_0, vM_f, vM_S, vU_t, lstAt_0, lstAt_S, dicAt_0, dicAt_S, vD_t, vD_0, vD_f, vD_S, frzD_t, frzD_f, frzD_S, kindV_t, kindV_d, kindV_l, kindV_f, kindV_S, vP_t, vP_l, vP_f, vP_S, isL_is, or_some, none_or,
  oq_add, oq_sub, oq_lt, oq_le, oq_gt, oq_ge, oq_mul, oq_mod, oq_div, oq_pow, oq_intB, oq_intI, oq_neg, oq_addS, oq_ixS, oq_ixL, oq_ixU, oq_lenL, oq_lenU, oq_lenN, oq_lenS, oq_lenO, oq_cat, oq_catU, oq_rep, oq_disp0, oq_disp1, oq_disp2, oq_disp3, oq_disp4, oq_disp5, oq_disp6, oq_disp7,
  oq_tup0, oq_tup1, oq_tup2, oq_tup3, oq_tup4, oq_tup5, oq_tup6, oq_tupOf, oq_revL, oq_append, oq_extend, oq_popAt, oq_pop, oq_remove, oq_index, oq_eq, oq_in, oq_dget, oq_din, oq_listD, oq_dictD, oq_sorted, oq_sortedD, oq_bools, oq_inSto, oq_isWord, oq_names, so_lL, so_uU,
  all_str, all_int, inF_str, strsOf_map, boolsOf_map, libsOf_map, pds_str, pds_int, List.length_map, List.length_cons, List.length_nil, List.length_append, Option.map_some, Option.isSome_some, Bool.true_and, true_and, and_true, Nat.reduceAdd, Nat.reduceSub, List.replicate, List.cons_append, List.nil_append, if_true, Bool.false_eq_true, if_false, reduceCtorEq, exQ_t, exQ_n, exQ_o, outQ_f, outQ_l, outQ_d, s_setIx, setIxQ_i, s_dPut, dPutQ_k, ix_0, ix_1, ix_2, at_0, at_1, at_2, at_3, at_4, at_5, decide_eq_true_eq, List.take_succ_cons, List.take_zero, Nat.reduceLT, Nat.lt_irrefl, Nat.zero_lt_succ, w_dnew, sealQ_o, sealO_d, trQ_o, trO_l, trO_f, pd_int, pd_str, pd_bl, pd_non, pd_lst, pds_nil, dp_int, dp_str, dp_bl, dp_non, dp_nil, dp_strs, eqv_int, eqv_str, eqv_strs, eqv_strs0, Bool.not_eq_true', decide_eq_false_iff_not, key_str, gd_val, gd_len, keysI_gd, keysT_gd, keyStrs_gd, itemsI_gd, in_libs, fieldL_defs, fieldL_needs, fieldL_uses, fieldL_weak, kindT_d, opt_strK, kit_dict, kit_str, wipe1, wipe0, gN_one, vU_row, gT_two, gT_tup, gsC, gsN, tab_keysI, tab_keysT, tab_len, tab_val, lib_defs, lib_needs, lib_uses, lib_weak, eqv_ns, strO_n, strO_s, flT_str, flT_int])
theorem wipe2 {sl : List SV} {i j : Nat} : wipeS sl [i, j] = (sl.set j .un).set i .un := rfl
theorem zip_strs (a b : List Str) : zipI (a.map Mf.T.str) (b.map Mf.T.str) = (a.zip b).map fun p => .two (.str p.1) (.str p.2) := by
  induction a generalizing b with
  | nil => rfl
  | cons x a ih => cases b with
    | nil => rfl
    | cons y b => simp [zipI, ih]
def unP : Im → Str × Str
  | .two (.str x) (.str y) => (x, y)
  | _ => ("", "")
/-- a comprehension over pairs of texts, no test -/
theorem wc_pairs {sl0 : List SV} {ft : Im → List SV → Option (List SV)} {fe : M SV} {Q : RZ → List Obj → Prop} {ps : List (Str × Str)} {g : List Obj} (e : Str × Str → Mf.T) (hl : ps.length ≤ 100000)
    (hs : ∀ p ∈ ps, ∃ sl1, ft (.two (.str p.1) (.str p.2)) sl0 = some sl1 ∧ WE fe ⟨sl1, g⟩ (fun y g1 => y = .t (e p) ∧ g1 = g) noE)
    (hq : Q (.n (.lst (ps.map e))) g) : WC sl0 ft (M.ret true) fe (ps.map fun p => .two (.str p.1) (.str p.2)) [] g Q := by
  have key : ((ps.map fun p => Im.two (.str p.1) (.str p.2)).filter fun _ => true).map (fun im => e (unP im)) = ps.map e := by
    rw [List.filter_eq_self.mpr fun _ _ => rfl, List.map_map]
    rfl
  refine wc_pure (fun _ => true) (fun im => e (unP im)) (by simpa using hl) (fun im him => ?_) (by rw [key]; exact hq)
  obtain ⟨p, hp, rfl⟩ := List.mem_map.mp him
  obtain ⟨sl1, h1, h2⟩ := hs p hp
  exact ⟨sl1, h1, ⟨rfl, rfl⟩, fun _ => h2⟩
/-- each of those left has an elder that is left -/
structure Stuck (e : Eld) (left : List Str) : Prop where
  nd : left.Nodup
  ne : left ≠ []
  few : left.length ≤ 100
  is : ∀ n ∈ left, ∃ l, e.lookup n = some l ∧ l.length ≤ 100 ∧ ∃ y r, cand e left n = y :: r
theorem Stuck.fe {e : Eld} {left : List Str} (h : Stuck e left) {n : Str} (hn : n ∈ left) : ∃ l r, e.lookup n = some l ∧ l.length ≤ 100 ∧ cand e left n = feF e left n :: r ∧ feF e left n ∈ left ∧ feF e left n ∈ l.map (·.1) := by
  obtain ⟨l, h1, h2, y, r, h3⟩ := h.is n hn
  have e1 : feF e left n = y := by
    unfold feF
    rw [h3]
    rfl
  have hm : y ∈ cand e left n := by rw [h3]; exact List.mem_cons_self
  have hm2 := List.mem_filter.mp hm
  rw [h1] at hm2
  exact ⟨l, r, h1, h2, by rw [e1]; exact h3, by rw [e1]; simpa using hm2.2, by rw [e1]; exact hm2.1⟩
def pairT (p : Str × Str) : Mf.T := .tup [.str p.1, .str p.2]
theorem r_ring_of {e : Eld} {left : List Str} (H : Stuck e left) {Q : RZ → List Obj → Prop} {E : EP} (h : Q (.n (.lst ((ringP e (ringL (feF e left) left)).map pairT))) [.dic (eldd e)]) :
    MR m_ring_of [.o 0, .t (LS left)] [.dic (eldd e)] Q E := by
  have hW := H.few
  have hfe : ∀ x ∈ left, feF e left x ∈ left := fun x hx => by
    obtain ⟨l, r, _, _, _, h1, _⟩ := H.fe hx
    exact h1
  cases left with
  | nil => exact absurd rfl H.ne
  | cons l0 left =>
    have hl0 : l0 ∈ l0 :: left := List.mem_cons_self
    generalize hL : l0 :: left = L at H hW hfe hl0 h
    have hhd : L.headD "" = l0 := by rw [← hL]; rfl
    have hat : (L.map Mf.T.str)[0]? = some (.str l0) := by rw [← hL]; rfl
    have hati : atI (L.map Mf.T.str) 0 = some (.str l0) := by rw [← hL]; exact at_0
    refine m_run ?_
    walk_at "wr"
    rw [hati]
    walk_at "wr"
    refine c_first_elder (e := e) ?_
    walk_at "wr"
    obtain ⟨l, r, a1, a2, a3, a4, a5⟩ := H.fe hl0
    refine ⟨0, L, l0, l, _, r, rfl, rfl, a1, a2, a3, ?_⟩
    walk_at "wr"
    have hch : Chain (feF e L) L [l0] (feF e L l0) := ⟨by simp, fun x hx => by simp at hx; exact hx ▸ hl0, a4, by simp, fun i hi => by simp at hi, rfl⟩
    have hend := walk_end hfe L.length [l0] (feF e L l0) hch (by simp)
    refine s_while (fun f sl g => ∃ (row : List Str) (el : Str), walkF (feF e L) f row el = walkF (feF e L) L.length [l0] (feF e L l0) ∧ Chain (feF e L) L row el ∧ L.length + 1 ≤ f + row.length ∧ sl = [.o 0, .t (LS L), .o 1, .t (.str el), .un, .un, .un] ∧ g = [.dic (eldd e), .lst (row.map Mf.T.str)]) (n := L.length) (by unfold bigN; omega)
      ⟨[l0], _, rfl, hch, by simp, rfl, rfl⟩ ?_
    rintro f sl g ⟨row, el, hw, hc, hf, rfl, rfl⟩
    have hlen := hc.len
    walk_at "wr"
    by_cases z : el ∈ row
    · simp only [z, not_true_eq_false, reduceIte]
      have hw2 : (row, el) = walkF (feF e L) L.length [l0] (feF e L l0) := by
        rw [← hw]
        cases f with
        | zero => rfl
        | succ f => unfold walkF; rw [if_pos z]
      rw [findF_str z]
      walk_at "wr"
      have hidx := List.idxOf_lt_length_of_mem z
      rw [cut_drop (by omega)]
      have hring : (((row.map Mf.T.str).drop ((row.idxOf el : Nat) : Int).toNat).reverse) = (ringL (feF e L) L).map Mf.T.str := by
        unfold ringL
        dsimp only
        rw [hhd, ← hw2, Int.toNat_natCast, List.map_reverse, List.map_drop]
      rw [hring]
      refine w_comp ?_
      refine w_zip ?_
      walk_at "wr"
      rw [cut_drop (by decide), cut_take (by decide)]
      have hrow := hend.1.len
      rw [← hw2] at hend hrow
      have hrl : (ringL (feF e L) L).length ≤ L.length := by
        unfold ringL
        dsimp only
        rw [hhd, ← hw2]
        simp
        omega
      refine ⟨by simp; omega, ?_⟩
      have hz : ((ringL (feF e L) L).map Mf.T.str).drop (1 : Int).toNat ++ ((ringL (feF e L) L).map Mf.T.str).take (1 : Int).toNat = ((ringL (feF e L) L).drop 1 ++ (ringL (feF e L) L).take 1).map Mf.T.str := by
        rw [List.map_append, List.map_drop, List.map_take]
        rfl
      rw [hz, zip_strs]
      have hnext := ring_next hend.1 hend.2
      have hrd : ringL (feF e L) L = (row.drop (row.idxOf el)).reverse := by
        unfold ringL
        dsimp only
        rw [hhd, ← hw2]
      rw [← hrd] at hnext
      have key : ∀ p ∈ (ringL (feF e L) L).zip ((ringL (feF e L) L).drop 1 ++ (ringL (feF e L) L).take 1), ∃ l s, e.lookup p.2 = some l ∧ l.lookup p.1 = some s := fun p hp => by
        obtain ⟨h1, h2⟩ := hnext p hp
        obtain ⟨l, r, b1, b2, b3, b4, b5⟩ := H.fe h2
        rw [h1] at b5
        obtain ⟨s, h3, _⟩ := look_some b5
        exact ⟨l, s, b1, h3⟩
      refine wc_pairs (fun p => pairT (p.1, (((e.lookup p.2).getD []).lookup p.1).getD "")) ?_ (fun p hp => ?_) ?_
      · have := List.length_zip (l₁ := ringL (feF e L) L) (l₂ := (ringL (feF e L) L).drop 1 ++ (ringL (feF e L) L).take 1)
        omega
      · obtain ⟨l, s, h1, h2⟩ := key p hp
        refine ⟨_, rfl, ?_⟩
        simp only [wipe2]
        walk_at "wr"
        rw [h1]
        walk_at "wr"
        rw [h2]
        walk_at "wr"
        rw [Option.getD_some, h2]
        rfl
      · walk_at "wr"
        have e2 : ((ringL (feF e L) L).zip ((ringL (feF e L) L).drop 1 ++ (ringL (feF e L) L).take 1)).map (fun p => pairT (p.1, (((e.lookup p.2).getD []).lookup p.1).getD "")) = (ringP e (ringL (feF e L) L)).map pairT := by
          unfold ringP
          rw [List.map_map]
          rfl
        rw [e2]
        exact h
    · simp only [z, not_false_eq_true, reduceIte]
      cases f with
      | zero => omega
      | succ f =>
        rw [show walkF (feF e L) (f + 1) row el = if el ∈ row then (row, el) else walkF (feF e L) f (row ++ [el]) (feF e L el) from rfl, if_neg z] at hw
        refine ⟨by omega, ?_⟩
        refine c_first_elder (e := e) ?_
        walk_at "wr"
        obtain ⟨l, r, a1, a2, a3, a4, a5⟩ := H.fe hc.inL
        refine ⟨0, L, el, l, _, r, rfl, rfl, a1, a2, a3, ?_⟩
        walk_at "wr"
        exact ⟨f, by omega, row ++ [el], _, hw, hc.app hfe z, by simp; omega, rfl, by simp⟩
/-! ### arranged -/
def readyF (e : Eld) (left : List Str) : List Str := left.filter fun n => !(((e.lookup n).getD []).map fun p => decide (p.1 ∈ left)).any id
/-- what arranged answers -/
def arrN (e : Eld) : Nat → List Str → List Str → Mf.T
  | 0, left, row => .tup [.str "order", LS row]
  | f + 1, left, row => if left = [] then .tup [.str "order", LS row] else match readyF e left with
    | [] => .tup [.str "ring", .lst ((ringP e (ringL (feF e left) left)).map pairT)]
    | n :: _ => arrN e f (left.erase n) (row ++ [n])
def arrF (e : Eld) : Mf.T := arrN e e.length (sortS (e.map (·.1))) []
structure EldsOk (e : Eld) : Prop where
  nd : (e.map (·.1)).Nodup
  few : e.length < 64
  each : ∀ n l, e.lookup n = some l → l.length ≤ 100
theorem c_ring {e : Eld} {s : St} {E : EP} {f : M (List SV)} {Q : RZ → List Obj → Prop} (h : WE f s (fun xs g => ∃ i left, xs = [.o i, .t (LS left)] ∧ g[i]? = some (.dic (eldd e)) ∧ Stuck e left ∧ Q (.n (.lst ((ringP e (ringL (feF e left) left)).map pairT))) (g.set i (.dic (eldd e)))) E) : WE (mCall 2 m_ring_of f) s Q E := by
  refine w_call1 (h.mono (fun xs g h => ?_) fun _ _ _ h => h)
  obtain ⟨i, left, rfl, hg, h1, hq⟩ := h
  exact ⟨i, [LS left], _, rfl, rfl, hg, r_ring_of h1 ⟨_, rfl, .inr ⟨_, rfl⟩, hq⟩⟩
theorem any_bl {ws : List Str} {p : Str → Bool} : (ws.map fun x => Mf.T.bl (p x)) = (ws.map p).map Mf.T.bl := by rw [List.map_map]; rfl
theorem erase_idx {x : Str} : ∀ {ws : List Str}, x ∈ ws → ws.eraseIdx (ws.idxOf x) = ws.erase x
  | [], h => by cases h
  | w :: ws, h => by
    rw [List.idxOf_cons, List.erase_cons]
    by_cases q : w = x
    · subst q; simp
    · have q2 : (w == x) = false := by simpa using q
      rw [q2]
      simp only [cond_false, Bool.false_eq_true, if_false]
      rw [List.eraseIdx_cons_succ, erase_idx (ws := ws) (by
        rcases List.mem_cons.mp h with e | e
        · exact absurd e.symm q
        · exact e)]
theorem tru_l {g : List Obj} {ts : List Mf.T} : truV (.dic [] :: .lst ts :: g) (.o 1) = some (!ts.isEmpty) := rfl
theorem tru_1 {o : Obj} {g : List Obj} {ts : List Mf.T} : truV (o :: .lst ts :: g) (.o 1) = some (!ts.isEmpty) := rfl
theorem tru_t {g : List Obj} {ts : List Mf.T} : truV g (.t (.lst ts)) = some (!ts.isEmpty) := rfl
theorem emp_map {ws : List Str} : (ws.map Mf.T.str).isEmpty = decide (ws = []) := by cases ws <;> simp
theorem r_arranged {e : Eld} (H : EldsOk e) {Q : RZ → List Obj → Prop} {E : EP} (h : Q (.v (.t (arrF e))) [.dic (eldd e)]) : MR m_arranged [.o 0] [.dic (eldd e)] Q E := by
  have hF := H.few
  refine m_run ?_
  walk_at "wr"
  refine ⟨by simpa using hF, ?_⟩
  refine s_while (fun f sl g => ∃ (left row : List Str) (x3 : SV), arrN e f left row = arrF e ∧ left.Nodup ∧ (∀ x ∈ left, x ∈ e.map (·.1)) ∧ left.length = f ∧ row.length + f = e.length ∧ sl = [.o 0, .o 1, .o 2, x3, .un, .un] ∧ g = [.dic (eldd e), .lst (left.map Mf.T.str), .lst (row.map Mf.T.str)]) (n := e.length) (by unfold bigN; omega)
    ⟨sortS (e.map (·.1)), [], _, rfl, (sortS_perm _).nodup_iff.mpr H.nd, fun x hx => sortS_mem.mp hx, by rw [sortS_len]; simp, by simp, rfl, rfl⟩ ?_
  rintro f sl g ⟨left, row, x3, ha, nd, hin, hlen, hrow, rfl, rfl⟩
  walk_at "wr"
  rw [tru_1, emp_map]
  walk_at "wr"
  by_cases z : left = []
  · simp only [z, decide_true, Bool.not_true, Bool.false_eq_true, reduceIte]
    subst z
    have e1 : arrF e = .tup [.str "order", LS row] := by
      rw [← ha]
      cases f <;> simp [arrN]
    rw [e1] at h
    exact h
  · simp only [z, decide_false, Bool.not_false, reduceIte]
    cases f with
    | zero =>
      cases left with
      | nil => exact absurd rfl z
      | cons x left => simp at hlen
    | succ f =>
      refine w_compO ?_
      walk_at "wr"
      refine ⟨1, left.map Mf.T.str, rfl, rfl, eqFls_str _, ?_⟩
      have hl100 : left.length ≤ 100 := by omega
      refine wco_strs (fun n => !(((e.lookup n).getD []).map fun p => decide (p.1 ∈ left)).any id) Mf.T.str rfl (by omega) (fun n hn => ?_) ?_
      · obtain ⟨l, hl, _⟩ := look_some (hin n hn)
        refine ⟨_, gN_one, ?_, fun _ => ?_⟩
        · walk_at "wr"
          refine w_comp ?_
          walk_at "wr"
          rw [hl]
          walk_at "wr"
          refine wc_strs (fun _ => true) (fun y => .bl (decide (y ∈ left))) (by have := H.each n l hl; simp; omega) (fun y hy => ⟨_, gN_one, ?_, fun _ => ?_⟩) ?_
          · walk_at "wr"
          · walk_at "wr"
          · rw [List.filter_eq_self.mpr fun _ _ => rfl, any_bl]
            walk_at "wr"
            rw [Option.getD_some, List.map_map]
            rfl
        · walk_at "wr"
      · have e2 : left.filter (fun n => !(((e.lookup n).getD []).map fun p => decide (p.1 ∈ left)).any id) = readyF e left := rfl
        rw [e2]
        walk_at "wr"
        rw [tru_t, emp_map]
        walk_at "wr"
        rw [show arrN e (f + 1) left row = if left = [] then .tup [.str "order", LS row] else match readyF e left with
          | [] => .tup [.str "ring", .lst ((ringP e (ringL (feF e left) left)).map pairT)]
          | n :: _ => arrN e f (left.erase n) (row ++ [n]) from rfl, if_neg z] at ha
        cases hr : readyF e left with
        | nil =>
          rw [hr] at ha
          dsimp only at ha
          simp only [decide_true, Bool.not_true, reduceIte]
          have hS : Stuck e left := by
            refine ⟨nd, z, by omega, fun n hn => ?_⟩
            obtain ⟨l, hl, _⟩ := look_some (hin n hn)
            have hnr : n ∉ readyF e left := by rw [hr]; simp
            have hany : ((((e.lookup n).getD []).map fun p => decide (p.1 ∈ left)).any id) = true := by
              by_cases q : ((((e.lookup n).getD []).map fun p => decide (p.1 ∈ left)).any id) = true
              · exact q
              · exact absurd (List.mem_filter.mpr ⟨hn, by simpa using q⟩) hnr
            rw [hl] at hany
            obtain ⟨b, hb, hb2⟩ := List.any_eq_true.mp hany
            obtain ⟨p, hp, rfl⟩ := List.mem_map.mp hb
            have hc : p.1 ∈ cand e left n := by
              unfold cand
              rw [hl]
              exact List.mem_filter.mpr ⟨List.mem_map.mpr ⟨p, hp, rfl⟩, hb2⟩
            cases hcc : cand e left n with
            | nil => rw [hcc] at hc; cases hc
            | cons y r => exact ⟨l, hl, H.each n l hl, y, r, rfl⟩
          refine c_ring (e := e) ?_
          walk_at "wr"
          refine ⟨0, left, rfl, rfl, hS, ?_⟩
          walk_at "wr"
          rw [← ha] at h
          exact h
        | cons n rest =>
          rw [hr] at ha
          dsimp only at ha
          simp only [reduceCtorEq, decide_false, Bool.not_false, Bool.true_eq_false, reduceIte]
          have hn : n ∈ left := (List.mem_filter.mp (show n ∈ readyF e left by rw [hr]; exact List.mem_cons_self)).1
          rw [List.map_cons, at_0]
          simp only [opt_some]
          rw [findF_str hn]
          refine ⟨by omega, rfl, f, by omega, left.erase n, row ++ [n], _, ha, nd.erase n, fun x hx => hin x (List.mem_of_mem_erase hx), ?_, by simp; omega, rfl, ?_⟩
          · rw [List.length_erase_of_mem hn]
            omega
          · rw [map_erase, erase_idx hn]
            simp
end Mf


set_option Elab.async false
set_option linter.all false
set_option maxRecDepth 100000
set_option maxHeartbeats 4000000
namespace Mf
open PySem PySem.Spec PyProof.Rows L2 Sb
local macro_rules | `(tactic| walk_at "wr") => `(tactic| simp only [w_bind, w_ret, w_var, slQ_t, slQ_o, get0, getS, set0, setS, w_T, trQ_t, trQ_n, w_O, objQ_v, objQ_n, w_V, valQ_v, w_Z, w_TD, sealQ_n, w_nil, w_cons, opQ_some, w_op, w_op2, blQ_b, w_B, w_and, w_or, w_not, w_If, w_andV, w_orV, w_notV,
  opt_some, w_tru, w_isN, w_isi, s_nx, s_seq, s_ret, s_retN, s_drop, s_if, s_set, s_par, args2Q_is, augQ_t, s_aug, treeQ_t, s_unp, s_raise, s_for, itLQ_l, w_itL, itUQ_u, w_itU, lstsQ_l, zipQ_l, enumQ_l, rngQ_i, w_rng1, w_keys, w_items, libQ_l, w_libF, w_mkLib, w_meth, w_meth0, w_sl, w_part, partQ_i,
  vL_t, vL_s, vL_0, vL_f, vL_S, vL_u, vM_t, vM_0, vM_f, vM_S, vU_t, lstAt_0, lstAt_S, dicAt_0, dicAt_S, vD_t, vD_0, vD_f, vD_S, frzD_t, frzD_f, frzD_S, kindV_t, kindV_d, kindV_l, kindV_f, kindV_S, vP_t, vP_l, vP_f, vP_S, isL_is, or_some, none_or,
  oq_add, oq_sub, oq_lt, oq_le, oq_gt, oq_ge, oq_mul, oq_mod, oq_div, oq_pow, oq_intB, oq_intI, oq_neg, oq_addS, oq_ixS, oq_ixL, oq_ixU, oq_lenL, oq_lenU, oq_lenN, oq_lenS, oq_lenO, oq_cat, oq_catU, oq_rep, oq_disp0, oq_disp1, oq_disp2, oq_disp3, oq_disp4, oq_disp5, oq_disp6, oq_disp7,
  oq_tup0, oq_tup1, oq_tup2, oq_tup3, oq_tup4, oq_tup5, oq_tup6, oq_tupOf, oq_revL, oq_append, oq_extend, oq_popAt, oq_pop, oq_remove, oq_index, oq_eq, oq_in, oq_dget, oq_din, oq_listD, oq_dictD, oq_sorted, oq_sortedD, oq_bools, oq_inSto, oq_isWord, oq_names, so_lL, so_uU,
  all_str, all_int, inF_str, strsOf_map, boolsOf_map, libsOf_map, pds_str, pds_int, List.length_map, List.length_cons, List.length_nil, List.length_append, Option.map_some, Option.isSome_some, Bool.true_and, true_and, and_true, Nat.reduceAdd, Nat.reduceSub, List.replicate, List.cons_append, List.nil_append, if_true, Bool.false_eq_true, if_false, reduceCtorEq, exQ_t, exQ_n, exQ_o, outQ_f, outQ_l, outQ_d, s_setIx, setIxQ_i, s_dPut, dPutQ_k, ix_0, ix_1, ix_2, at_0, at_1, at_2, at_3, at_4, at_5, decide_eq_true_eq, List.take_succ_cons, List.take_zero, Nat.reduceLT, Nat.lt_irrefl, Nat.zero_lt_succ, w_dnew, sealQ_o, sealO_d, trQ_o, trO_l, trO_f, pd_int, pd_str, pd_bl, pd_non, pd_lst, pds_nil, dp_int, dp_str, dp_bl, dp_non, dp_nil, dp_strs, eqv_int, eqv_str, eqv_strs, eqv_strs0, Bool.not_eq_true', decide_eq_false_iff_not, key_str, gd_val, gd_len, keysI_gd, keysT_gd, keyStrs_gd, itemsI_gd, in_libs, fieldL_defs, fieldL_needs, fieldL_uses, fieldL_weak, kindT_d, opt_strK, kit_dict, kit_str, wipe1, wipe0, gN_one, vU_row, gT_two, gT_tup, gsC, gsN, tab_keysI, tab_keysT, tab_len, tab_val, lib_defs, lib_needs, lib_uses, lib_weak, eqv_ns, strO_n, strO_s, flT_str, flT_int])
/-! ### least_preloads -/
def valOf (asked : Dss) (s : Str) : Str := (asked.lookup s).getD ""
theorem AskOk.of {tab : Tab} {asked : Dss} (A : AskOk tab asked) {s : Str} (hs : s ∈ asked.map (·.1)) : asked.lookup s = some (valOf asked s) ∧ valOf asked s ∈ tab.names := by
  obtain ⟨n, h1, h2⟩ := A.look hs
  unfold valOf
  rw [h1]
  exact ⟨rfl, h2⟩
/-- the first symbol that its library does not define -/
def undefF (tab : Tab) (asked : Dss) : Option Str := (sortS (asked.map (·.1))).find? fun s => decide (s ∉ defsOf tab (valOf asked s))
/-- the first symbol that the main library covers -/
def coverF (tab : Tab) (main : Str) (asked : Dss) : Option Str := (sortS (asked.map (·.1))).find? fun s => decide (valOf asked s ≠ main) && decide (s ∈ defsOf tab main)
def eldsF (tab : Tab) (main : Str) (scope : List Str) (asked : Dss) : Eld := (reqF tab main scope asked).map fun n => (n, eldF tab main asked n)
def leastF (tab : Tab) (main : Str) (scope : List Str) (asked : Dss) : Mf.T := match undefF tab asked with
  | some s => .tup [.str "undefined", .str s]
  | none => match coverF tab main asked with
    | some s => .tup [.str "main", .str s]
    | none => arrF (eldsF tab main scope asked)
theorem elds_keys {tab : Tab} {main : Str} {scope : List Str} {asked : Dss} : (eldsF tab main scope asked).map (·.1) = reqF tab main scope asked := by
  unfold eldsF
  rw [List.map_map]
  exact List.map_id _
theorem elds_ok {tab : Tab} {gone : Str} {signs : List Str} (W : TabOk tab gone signs) {main : Str} {scope : List Str} {asked : Dss} (A : AskOk tab asked) : EldsOk (eldsF tab main scope asked) := by
  have hR := reqF_ok (main := main) (scope := scope) A
  have hl := hR.len
  have := W.few
  refine ⟨by rw [elds_keys]; exact hR.nd, by unfold eldsF; rw [List.length_map]; omega, fun n l hl => ?_⟩
  have hm : n ∈ (eldsF tab main scope asked).map (·.1) := by
    by_cases q : n ∈ (eldsF tab main scope asked).map (·.1)
    · exact q
    · rw [look_none q] at hl; cases hl
  obtain ⟨l', h1, h2⟩ := look_some hm
  rw [hl] at h1
  cases h1
  unfold eldsF at h2
  obtain ⟨n', _, e⟩ := List.mem_map.mp h2
  cases e
  have := eld_few W (eldF_ok (main := main) (name := n) A)
  omega
theorem c_closure {tab : Tab} {gone : Str} {signs : List Str} (W : TabOk tab gone signs) {s : St} {E : EP} {f : M (List SV)} {Q : RZ → List Obj → Prop} (h : WE f s (fun xs g => ∃ x res, xs = [.t (.sto tab.libs), .t (.str x)] ∧ x ∈ tab.names ∧ clo tab x = some res ∧ Q (.n (.lst (res.map Mf.T.str))) g) E) : WE (mCall 2 m_closure f) s Q E := by
  refine w_call0 (h.mono (fun xs g h => ?_) fun _ _ _ h => h)
  obtain ⟨x, res, rfl, hx, hc, hq⟩ := h
  exact ⟨[.sto tab.libs, .str x], rfl, rfl, r_closure W hx hc ⟨rfl, .inr ⟨_, rfl⟩, hq⟩⟩
theorem c_check {tab : Tab} {s : St} {E : EP} {f : M (List SV)} {Q : RZ → List Obj → Prop} (h : WE f s (fun xs g => ∃ asked, xs = [.t (.sto tab.libs), .t (.dic (ssd asked))] ∧ AskOk tab asked ∧ Q (.v (.t .non)) g) E) : WE (mCall 2 m_check_wishes f) s Q E := by
  refine w_call0 (h.mono (fun xs g h => ?_) fun _ _ _ h => h)
  obtain ⟨asked, rfl, A, hq⟩ := h
  exact ⟨[.sto tab.libs, .dic (ssd asked)], rfl, rfl, r_check_wishes A ⟨rfl, .inl ⟨_, rfl⟩, hq⟩⟩
theorem c_required {tab : Tab} {gone : Str} {signs : List Str} (W : TabOk tab gone signs) {asked : Dss} (A : AskOk tab asked) {s : St} {E : EP} {f : M (List SV)} {Q : RZ → List Obj → Prop} (h : WE f s (fun xs g => ∃ main scope, xs = [.t (.sto tab.libs), .t (.str main), .t (LS scope), .t (.dic (ssd asked))] ∧ (∀ n ∈ scope, n ∈ tab.names) ∧ Q (.n (.lst ((reqF tab main scope asked).map Mf.T.str))) g) E) : WE (mCall 4 m_required f) s Q E := by
  refine w_call0 (h.mono (fun xs g h => ?_) fun _ _ _ h => h)
  obtain ⟨main, scope, rfl, hs, hq⟩ := h
  exact ⟨[.sto tab.libs, .str main, LS scope, .dic (ssd asked)], rfl, rfl, r_required W A hs ⟨rfl, .inr ⟨_, rfl⟩, hq⟩⟩
theorem arr_tup (e : Eld) : ∃ w t, arrF e = .tup [.str w, t] ∧ (w = "order" ∨ w = "ring") := by
  unfold arrF
  have go : ∀ (f : Nat) (left row : List Str), ∃ w t, arrN e f left row = .tup [.str w, t] ∧ (w = "order" ∨ w = "ring") := by
    intro f
    induction f with
    | zero => intro left row; exact ⟨_, _, rfl, .inl rfl⟩
    | succ f ih =>
      intro left row
      unfold arrN
      split
      · exact ⟨_, _, rfl, .inl rfl⟩
      · split
        · exact ⟨_, _, rfl, .inr rfl⟩
        · exact ih _ _
  exact go _ _ _
theorem c_arranged {e : Eld} (H : EldsOk e) {s : St} {E : EP} {f : M (List SV)} {Q : RZ → List Obj → Prop} (h : WE f s (fun xs g => ∃ i, xs = [.o i] ∧ g[i]? = some (.dic (eldd e)) ∧ Q (.v (.t (arrF e))) (g.set i (.dic (eldd e)))) E) : WE (mCall 1 m_arranged f) s Q E := by
  refine w_call1 (h.mono (fun xs g h => ?_) fun _ _ _ h => h)
  obtain ⟨i, rfl, hg, hq⟩ := h
  exact ⟨i, [], _, rfl, rfl, hg, r_arranged H ⟨_, rfl, .inl ⟨_, rfl⟩, hq⟩⟩
theorem r_least {tab : Tab} {gone : Str} {signs : List Str} (W : TabOk tab gone signs) {main : Str} {scope : List Str} {asked : Dss} (A : AskOk tab asked) (hm : main ∈ tab.names) (hc : clo tab main = some scope) {Q : RZ → List Obj → Prop} {E : EP} (h : Q (.v (.t (leastF tab main scope asked))) []) :
    MR m_least_preloads [.t (.sto tab.libs), .t (.str main), .t (.dic (ssd asked))] [] Q E := by
  have hall := clo_all W hm hc
  have hW := W.few
  obtain ⟨mrow, hmrow, _⟩ := look_some hm
  refine m_run ?_
  refine s_cut (fun sl g => sl = [.t (.sto tab.libs), .t (.str main), .t (.dic (ssd asked)), .t (LS scope), .un, .un, .un] ∧ g = []) ?_ ?_
  · walk_at "wr"
    refine c_closure W ?_
    walk_at "wr"
    refine ⟨main, scope, rfl, hm, hc, ?_⟩
    walk_at "wr"
  rintro sl g ⟨rfl, rfl⟩
  refine s_cut (fun sl g => sl = [.t (.sto tab.libs), .t (.str main), .t (.dic (ssd asked)), .t (LS scope), .un, .un, .un] ∧ g = []) ?_ ?_
  · walk_at "wr"
    refine c_check (tab := tab) ?_
    walk_at "wr"
    exact ⟨asked, rfl, A⟩
  rintro sl g ⟨rfl, rfl⟩
  unfold leastF at h
  refine s_cut (fun sl g => undefF tab asked = none ∧ ∃ x4, sl = [.t (.sto tab.libs), .t (.str main), .t (.dic (ssd asked)), .t (LS scope), x4, .un, .un] ∧ g = []) ?_ ?_
  · walk_at "wr"
    refine ⟨by simpa using A.few, ?_⟩
    refine s_strs (fun d r sl g => undefF tab asked = r.find? (fun s => decide (s ∉ defsOf tab (valOf asked s))) ∧ ∃ x4, sl = [.t (.sto tab.libs), .t (.str main), .t (.dic (ssd asked)), .t (LS scope), x4, .un, .un] ∧ g = []) ⟨rfl, _, rfl, rfl⟩ ?_ ?_
    · rintro d x r sl g hd ⟨hu, x4, rfl, rfl⟩
      have hx : x ∈ asked.map (·.1) := sortS_mem.mp (by rw [hd]; simp)
      obtain ⟨hl, hn⟩ := A.of hx
      obtain ⟨row, hrow, _⟩ := look_some hn
      refine ⟨_, gN_one, ?_⟩
      walk_at "wr"
      refine g_lib (tab := tab) ?_
      walk_at "wr"
      rw [hl]
      walk_at "wr"
      refine ⟨_, row, rfl, hrow, ?_⟩
      rw [List.find?_cons, defs_of hrow] at hu
      by_cases z : x ∈ row.defs
      · simp only [z, not_true_eq_false, decide_false, reduceIte] at hu ⊢
        exact ⟨hu, _, rfl⟩
      · simp only [z, not_false_eq_true, decide_true, reduceIte] at hu ⊢
        rw [hu] at h
        exact h
    · rintro sl g ⟨hu, x4, rfl, rfl⟩
      exact ⟨hu, x4, rfl, rfl⟩
  rintro sl g ⟨hu, x4, rfl, rfl⟩
  rw [hu] at h
  dsimp only at h
  have hcF : coverF tab main asked = (sortS (asked.map (·.1))).find? (fun s => decide (valOf asked s ≠ main) && decide (s ∈ mrow.defs)) := by
    unfold coverF
    rw [defs_of hmrow]
  refine s_cut (fun sl g => coverF tab main asked = none ∧ ∃ x4, sl = [.t (.sto tab.libs), .t (.str main), .t (.dic (ssd asked)), .t (LS scope), x4, .un, .un] ∧ g = []) ?_ ?_
  · walk_at "wr"
    refine ⟨by simpa using A.few, ?_⟩
    refine s_strs (fun d r sl g => coverF tab main asked = r.find? (fun s => decide (valOf asked s ≠ main) && decide (s ∈ mrow.defs)) ∧ ∃ x4, sl = [.t (.sto tab.libs), .t (.str main), .t (.dic (ssd asked)), .t (LS scope), x4, .un, .un] ∧ g = []) ⟨hcF, _, rfl, rfl⟩ ?_ ?_
    · rintro d x r sl g hd ⟨hcv, x4, rfl, rfl⟩
      have hx : x ∈ asked.map (·.1) := sortS_mem.mp (by rw [hd]; simp)
      obtain ⟨hl, hn⟩ := A.of hx
      refine ⟨_, gN_one, ?_⟩
      walk_at "wr"
      rw [hl]
      walk_at "wr"
      rw [List.find?_cons] at hcv
      by_cases z : valOf asked x = main
      · simp only [z, ne_eq, not_true_eq_false, decide_false, Bool.false_and, reduceIte] at hcv ⊢
        exact ⟨hcv, _, rfl⟩
      · simp only [z, ne_eq, not_false_eq_true, decide_true, Bool.true_and, reduceIte] at hcv ⊢
        refine g_lib (tab := tab) ?_
        walk_at "wr"
        refine ⟨_, mrow, rfl, hmrow, ?_⟩
        by_cases z2 : x ∈ mrow.defs
        · simp only [z2, decide_true, reduceIte] at hcv ⊢
          rw [hcv] at h
          exact h
        · simp only [z2, decide_false, reduceIte] at hcv ⊢
          exact ⟨hcv, _, rfl⟩
    · rintro sl g ⟨hcv, x4, rfl, rfl⟩
      exact ⟨hcv, x4, rfl, rfl⟩
  rintro sl g ⟨hcv, x4, rfl, rfl⟩
  rw [hcv] at h
  dsimp only at h
  have hR := reqF_ok (main := main) (scope := scope) A
  have hRl := hR.len
  walk_at "wr"
  refine w_dcomp ?_
  walk_at "wr"
  refine c_required W A ?_
  walk_at "wr"
  refine ⟨main, scope, rfl, hall, ?_⟩
  refine wd_loop (fun ims acc g => ∃ d r, reqF tab main scope asked = d ++ r ∧ ims = ones (r.map Mf.T.str) ∧ acc = eldd (d.map fun n => (n, eldF tab main asked n)) ∧ g = []) ⟨[], _, rfl, rfl, rfl, rfl⟩ ?_ ?_
  · rintro im q acc g ⟨d, r, hd, hr, rfl, rfl⟩
    cases r with
    | nil => cases hr
    | cons x r =>
      cases hr
      refine ⟨_, gN_one, ?_⟩
      walk_at "wr"
      refine c_elders W A ?_
      walk_at "wr"
      refine ⟨main, x, rfl, hR.sub x (by rw [hd]; simp), ?_⟩
      have l2 := congrArg List.length hd
      simp at l2

      refine ⟨by omega, d ++ [x], r, by simp [hd], rfl, ?_⟩
      have hxd : x ∉ (d.map fun n => ((n, eldF tab main asked n) : Str × Dss)).map (·.1) := by
        rw [List.map_map]
        intro hm
        obtain ⟨n, hn, e⟩ := List.mem_map.mp hm
        have e : n = x := e
        subst e
        have nd := hR.nd
        rw [hd] at nd
        exact (List.nodup_append.mp nd).2.2 n hn n List.mem_cons_self rfl
      have e2 := gd_put (f := fun l => Mf.T.dic (ssd l)) (l := d.map fun n => ((n, eldF tab main asked n) : Str × Dss)) (x := x) (a := eldF tab main asked x)
      rw [setL_new hxd] at e2
      rw [List.map_append]
      exact e2
  · rintro acc g ⟨d, r, hd, hr, rfl, rfl⟩
    cases r with
    | cons x r => cases hr
    | nil =>
      rw [List.append_nil] at hd
      walk_at "wr"
      have e1 : (d.map fun n => (n, eldF tab main asked n)) = eldsF tab main scope asked := by
        unfold eldsF
        rw [hd]
      rw [e1]
      refine c_arranged (elds_ok (main := main) (scope := scope) W A) ?_
      walk_at "wr"
      refine ⟨0, rfl, rfl, ?_⟩
      exact h
end Mf


set_option Elab.async false
set_option linter.all false
set_option maxRecDepth 100000
set_option maxHeartbeats 4000000
namespace Mf
open PySem PySem.Spec PyProof.Rows L2 Sb
local macro_rules | `(tactic| walk_at "wr") => `(tactic| simp only [w_bind, w_ret, w_var, slQ_t, slQ_o, get0, getS, set0, setS, w_T, trQ_t, trQ_n, w_O, objQ_v, objQ_n, w_V, valQ_v, w_Z, w_TD, sealQ_n, w_nil, w_cons, opQ_some, w_op, w_op2, blQ_b, w_B, w_and, w_or, w_not, w_If, w_andV, w_orV, w_notV,
  opt_some, w_tru, w_isN, w_isi, s_nx, s_seq, s_ret, s_retN, s_drop, s_if, s_set, s_par, args2Q_is, augQ_t, s_aug, treeQ_t, s_unp, s_raise, s_for, itLQ_l, w_itL, itUQ_u, w_itU, lstsQ_l, zipQ_l, enumQ_l, rngQ_i, w_rng1, w_keys, w_items, libQ_l, w_libF, w_mkLib, w_meth, w_meth0, w_sl, w_part, partQ_i,
  vL_t, vL_s, vL_0, vL_f, vL_S, vL_u, vM_t, vM_0, vM_f, vM_S, vU_t, lstAt_0, lstAt_S, dicAt_0, dicAt_S, vD_t, vD_0, vD_f, vD_S, frzD_t, frzD_f, frzD_S, kindV_t, kindV_d, kindV_l, kindV_f, kindV_S, vP_t, vP_l, vP_f, vP_S, isL_is, or_some, none_or,
  oq_add, oq_sub, oq_lt, oq_le, oq_gt, oq_ge, oq_mul, oq_mod, oq_div, oq_pow, oq_intB, oq_intI, oq_neg, oq_addS, oq_ixS, oq_ixL, oq_ixU, oq_lenL, oq_lenU, oq_lenN, oq_lenS, oq_lenO, oq_cat, oq_catU, oq_rep, oq_disp0, oq_disp1, oq_disp2, oq_disp3, oq_disp4, oq_disp5, oq_disp6, oq_disp7,
  oq_tup0, oq_tup1, oq_tup2, oq_tup3, oq_tup4, oq_tup5, oq_tup6, oq_tupOf, oq_revL, oq_append, oq_extend, oq_popAt, oq_pop, oq_remove, oq_index, oq_eq, oq_in, oq_dget, oq_din, oq_listD, oq_dictD, oq_sorted, oq_sortedD, oq_bools, oq_inSto, oq_isWord, oq_names, so_lL, so_uU,
  all_str, all_int, inF_str, strsOf_map, boolsOf_map, libsOf_map, pds_str, pds_int, List.length_map, List.length_cons, List.length_nil, List.length_append, Option.map_some, Option.isSome_some, Bool.true_and, true_and, and_true, Nat.reduceAdd, Nat.reduceSub, List.replicate, List.cons_append, List.nil_append, if_true, Bool.false_eq_true, if_false, reduceCtorEq, exQ_t, exQ_n, exQ_o, outQ_f, outQ_l, outQ_d, s_setIx, setIxQ_i, s_dPut, dPutQ_k, ix_0, ix_1, ix_2, at_0, at_1, at_2, at_3, at_4, at_5, decide_eq_true_eq, List.take_succ_cons, List.take_zero, Nat.reduceLT, Nat.lt_irrefl, Nat.zero_lt_succ, w_dnew, sealQ_o, sealO_d, trQ_o, trO_l, trO_f, pd_int, pd_str, pd_bl, pd_non, pd_lst, pds_nil, dp_int, dp_str, dp_bl, dp_non, dp_nil, dp_strs, eqv_int, eqv_str, eqv_strs, eqv_strs0, Bool.not_eq_true', decide_eq_false_iff_not, key_str, gd_val, gd_len, keysI_gd, keysT_gd, keyStrs_gd, itemsI_gd, in_libs, fieldL_defs, fieldL_needs, fieldL_uses, fieldL_weak, kindT_d, opt_strK, kit_dict, kit_str, wipe1, wipe0, gN_one, vU_row, gT_two, gT_tup, gsC, gsN, tab_keysI, tab_keysT, tab_len, tab_val, lib_defs, lib_needs, lib_uses, lib_weak, eqv_ns, strO_n, strO_s, flT_str, flT_int])
/-! ### what many laws draw -/
theorem c_closed {tab : Tab} {gone : Str} {signs : List Str} (W : TabOk tab gone signs) {s : St} {E : EP} {f : M (List SV)} {Q : RZ → List Obj → Prop} (h : WE f s (fun xs g => ∃ x, xs = [.t (.dic tab.d), .t (.str x)] ∧ x ∈ tab.names ∧ Q (cloR (clo tab x)) g) E) : WE (mCall 2 m_closed f) s Q E := by
  refine w_call0 (h.mono (fun xs g h => ?_) fun _ _ _ h => h)
  obtain ⟨x, rfl, hx, hq⟩ := h
  refine ⟨[.dic tab.d, .str x], rfl, rfl, r_closed W hx ⟨rfl, ?_, hq⟩⟩
  cases clo tab x with
  | none => exact .inl ⟨_, rfl⟩
  | some fs => exact .inl ⟨_, rfl⟩
theorem c_stored {tab : Tab} {gone : Str} {signs : List Str} (W : TabOk tab gone signs) {s : St} {E : EP} {f : M (List SV)} {Q : RZ → List Obj → Prop} (h : WE f s (fun xs g => xs = [.t (.dic tab.d)] ∧ Q (.v (.t (.sto tab.libs))) g) E) : WE (mCall 1 m_stored f) s Q E := by
  refine w_call0 (h.mono (fun xs g h => ?_) fun _ _ _ h => h)
  obtain ⟨rfl, hq⟩ := h
  exact ⟨[.dic tab.d], rfl, rfl, r_stored W ⟨rfl, .inl ⟨_, rfl⟩, hq⟩⟩
theorem c_libraries {s : St} {E : EP} {f : M (List SV)} {Q : RZ → List Obj → Prop} {n : Nat} (hn : n < 50000) (h : WE f s (fun xs g => ∃ i m signs w, xs = [.o i, .t (.int (m : Nat)), .t (LS signs)] ∧ g[i]? = some (.lst w) ∧ Wl n w ∧ 2 ≤ m ∧ m ≤ 40 ∧ signs.length ≤ 20 ∧ signs.Nodup ∧ (∀ x ∈ signs, wordB x = true) ∧
    ∀ (w' : List T) (tab : Tab) (gone : Str), Wl (n + 10000) w' → TabOk tab gone signs → tab.length ≤ m → Q (.v (.t (.tup [.dic tab.d, .str gone]))) (g.set i (.lst w'))) E) : WE (mCall 3 m_libraries f) s Q E := by
  refine w_call1 (h.mono (fun xs g h => ?_) fun _ _ _ h => h)
  obtain ⟨i, m, signs, w, rfl, hg, hw, h1, h2, h3, h4, h5, k⟩ := h
  exact ⟨i, [.int m, LS signs], _, rfl, rfl, hg, r_libraries hw hn h1 h2 h3 h4 h5 fun w' tab gone a b c => ⟨_, rfl, .inl ⟨_, rfl⟩, k w' tab gone a b c⟩⟩
def compF (tab : Tab) : List Str := tab.names.filter fun x => (clo tab x).isSome
theorem compF_ne {tab : Tab} {gone : Str} {signs : List Str} (W : TabOk tab gone signs) : compF tab ≠ [] := by
  cases tab with
  | nil => have := W.big; simp at this
  | cons p tab =>
    obtain ⟨x, r⟩ := p
    have R := W.rows x r List.mem_cons_self
    have hn : r.needs = [] := R.first rfl
    have hc : clo ((x, r) :: tab) x = some [x] := by
      unfold clo
      show cloN _ (_ + 1) _ _ = _
      rw [cloN]
      simp only [List.getElem?_cons_zero, List.lookup_cons_self]
      rw [hn]
      unfold cloN
      cases h : ((x, r) :: tab : Tab).length with
      | zero => simp at h
      | succ k => simp [grow]
    intro e
    have hm : x ∈ compF ((x, r) :: tab) := List.mem_filter.mpr ⟨List.mem_cons_self, by rw [hc]; rfl⟩
    rw [e] at hm
    cases hm
theorem compF_mem {tab : Tab} {x : Str} (h : x ∈ compF tab) : x ∈ tab.names ∧ ∃ res, clo tab x = some res := by
  obtain ⟨h1, h2⟩ := List.mem_filter.mp h
  cases e : clo tab x with
  | none => rw [e] at h2; cases h2
  | some res => exact ⟨h1, res, rfl⟩
theorem isNQ_n {neg : Bool} {Q : Bool → Prop} : isNQ (.t .non) neg Q = Q (!neg) := rfl
theorem isNQ_l {neg : Bool} {ts : List Mf.T} {Q : Bool → Prop} : isNQ (.t (.lst ts)) neg Q = Q neg := rfl
theorem isNQ_u {neg : Bool} {ts : List Mf.T} {Q : Bool → Prop} : isNQ (.t (.tup ts)) neg Q = Q neg := rfl
theorem isNQ_s {neg : Bool} {x : Str} {Q : Bool → Prop} : isNQ (.t (.str x)) neg Q = Q neg := rfl
theorem r_complete {tab : Tab} {gone : Str} {signs : List Str} (W : TabOk tab gone signs) {Q : RZ → List Obj → Prop} {E : EP} (h : Q (.n (.lst ((compF tab).map Mf.T.str))) []) : MR m_complete [.t (.dic tab.d)] [] Q E := by
  have hW := W.few
  refine m_run ?_
  walk_at "wr"
  refine w_comp ?_
  walk_at "wr"
  refine wc_strs (fun x => (clo tab x).isSome) Mf.T.str (by simp [Tab.names]; omega) (fun x hx => ⟨_, gN_one, ?_, fun _ => ?_⟩) ?_
  · walk_at "wr"
    refine c_closed W ?_
    walk_at "wr"
    refine ⟨x, rfl, hx, ?_⟩
    cases clo tab x with
    | none =>
      unfold cloR
      walk_at "wr"
      rw [isNQ_n]
      simp
    | some fs =>
      unfold cloR
      walk_at "wr"
      rw [isNQ_l]
      skip
  · walk_at "wr"
  · walk_at "wr"
    exact h
theorem c_complete {tab : Tab} {gone : Str} {signs : List Str} (W : TabOk tab gone signs) {s : St} {E : EP} {f : M (List SV)} {Q : RZ → List Obj → Prop} (h : WE f s (fun xs g => xs = [.t (.dic tab.d)] ∧ Q (.n (.lst ((compF tab).map Mf.T.str))) g) E) : WE (mCall 1 m_complete f) s Q E := by
  refine w_call0 (h.mono (fun xs g h => ?_) fun _ _ _ h => h)
  obtain ⟨rfl, hq⟩ := h
  exact ⟨[.dic tab.d], rfl, rfl, r_complete W ⟨rfl, .inr ⟨_, rfl⟩, hq⟩⟩
end Mf


set_option Elab.async false
set_option linter.all false
set_option maxRecDepth 100000
set_option maxHeartbeats 4000000
namespace Mf
open PySem PySem.Spec PyProof.Rows L2 Sb
local macro_rules | `(tactic| walk_at "wr") => `(tactic| simp only [w_bind, w_ret, w_var, slQ_t, slQ_o, get0, getS, set0, setS, w_T, trQ_t, trQ_n, w_O, objQ_v, objQ_n, w_V, valQ_v, w_Z, w_TD, sealQ_n, w_nil, w_cons, opQ_some, w_op, w_op2, blQ_b, w_B, w_and, w_or, w_not, w_If, w_andV, w_orV, w_notV,
  opt_some, w_tru, w_isN, w_isi, s_nx, s_seq, s_ret, s_retN, s_drop, s_if, s_set, s_par, args2Q_is, augQ_t, s_aug, treeQ_t, s_unp, s_raise, s_for, itLQ_l, w_itL, itUQ_u, w_itU, lstsQ_l, zipQ_l, enumQ_l, rngQ_i, w_rng1, w_keys, w_items, libQ_l, w_libF, w_mkLib, w_meth, w_meth0, w_sl, w_part, partQ_i,
  vL_t, vL_s, vL_0, vL_f, vL_S, vL_u, vM_t, vM_0, vM_f, vM_S, vU_t, lstAt_0, lstAt_S, dicAt_0, dicAt_S, vD_t, vD_0, vD_f, vD_S, frzD_t, frzD_f, frzD_S, kindV_t, kindV_d, kindV_l, kindV_f, kindV_S, vP_t, vP_l, vP_f, vP_S, isL_is, or_some, none_or,
  oq_add, oq_sub, oq_lt, oq_le, oq_gt, oq_ge, oq_mul, oq_mod, oq_div, oq_pow, oq_intB, oq_intI, oq_neg, oq_addS, oq_ixS, oq_ixL, oq_ixU, oq_lenL, oq_lenU, oq_lenN, oq_lenS, oq_lenO, oq_cat, oq_catU, oq_rep, oq_disp0, oq_disp1, oq_disp2, oq_disp3, oq_disp4, oq_disp5, oq_disp6, oq_disp7,
  oq_tup0, oq_tup1, oq_tup2, oq_tup3, oq_tup4, oq_tup5, oq_tup6, oq_tupOf, oq_revL, oq_append, oq_extend, oq_popAt, oq_pop, oq_remove, oq_index, oq_eq, oq_in, oq_dget, oq_din, oq_listD, oq_dictD, oq_sorted, oq_sortedD, oq_bools, oq_inSto, oq_isWord, oq_names, so_lL, so_uU,
  all_str, all_int, inF_str, strsOf_map, boolsOf_map, libsOf_map, pds_str, pds_int, List.length_map, List.length_cons, List.length_nil, List.length_append, Option.map_some, Option.isSome_some, Bool.true_and, true_and, and_true, Nat.reduceAdd, Nat.reduceSub, List.replicate, List.cons_append, List.nil_append, if_true, Bool.false_eq_true, if_false, reduceCtorEq, exQ_t, exQ_n, exQ_o, outQ_f, outQ_l, outQ_d, s_setIx, setIxQ_i, s_dPut, dPutQ_k, ix_0, ix_1, ix_2, at_0, at_1, at_2, at_3, at_4, at_5, decide_eq_true_eq, List.take_succ_cons, List.take_zero, Nat.reduceLT, Nat.lt_irrefl, Nat.zero_lt_succ, w_dnew, sealQ_o, sealO_d, trQ_o, trO_l, trO_f, pd_int, pd_str, pd_bl, pd_non, pd_lst, pds_nil, dp_int, dp_str, dp_bl, dp_non, dp_nil, dp_strs, eqv_int, eqv_str, eqv_strs, eqv_strs0, Bool.not_eq_true', decide_eq_false_iff_not, key_str, gd_val, gd_len, keysI_gd, keysT_gd, keyStrs_gd, itemsI_gd, in_libs, fieldL_defs, fieldL_needs, fieldL_uses, fieldL_weak, kindT_d, opt_strK, kit_dict, kit_str, wipe1, wipe0, gN_one, vU_row, gT_two, gT_tup, gsC, gsN, tab_keysI, tab_keysT, tab_len, tab_val, lib_defs, lib_needs, lib_uses, lib_weak, eqv_ns, strO_n, strO_s, flT_str, flT_int])
/-! ### wishes as the laws draw them -/
structure AskIn (tab : Tab) (signs : List Str) (asked : Dss) : Prop where
  nd : (asked.map (·.1)).Nodup
  sub : ∀ s ∈ asked.map (·.1), s ∈ signs
  val : ∀ s n, (s, n) ∈ asked → n ∈ tab.names
theorem AskIn.len {tab : Tab} {signs : List Str} {asked : Dss} (h : AskIn tab signs asked) : asked.length ≤ signs.length := by
  have := sub_len h.nd h.sub
  simpa using this
theorem AskIn.ok {tab : Tab} {gone : Str} {signs : List Str} {asked : Dss} (W : TabOk tab gone signs) (h : AskIn tab signs asked) : AskOk tab asked :=
  ⟨h.nd, h.val, fun s hs => W.signsW s (h.sub s hs), by have := h.len; have := W.signsF; omega⟩
theorem AskIn.set {tab : Tab} {signs : List Str} {asked : Dss} (h : AskIn tab signs asked) {s n : Str} (hs : s ∈ signs) (hn : n ∈ tab.names) : AskIn tab signs (setL asked s n) := by
  refine ⟨setL_nodup h.nd, fun x hx => ?_, fun x m hm => ?_⟩
  · rw [setL_keys] at hx
    split at hx
    · exact h.sub x hx
    · rcases List.mem_append.mp hx with h1 | h1
      · exact h.sub x h1
      · simp at h1
        exact h1 ▸ hs
  · rcases setL_mem hm with e | e
    · cases e
      exact hn
    · exact h.val x m e
theorem rep_mem {t : Mf.T} : ∀ {n : Nat} {ts : List Mf.T}, t ∈ repT n ts → t ∈ ts
  | 0, _, h => by cases h
  | n + 1, ts, h => by
    rcases List.mem_append.mp h with h | h
    · exact h
    · exact rep_mem h
theorem rep_len {ts : List Mf.T} : ∀ n, (repT n ts).length = n * ts.length
  | 0 => by simp [repT]
  | n + 1 => by
    rw [repT, List.length_append, rep_len n, Nat.succ_mul, Nat.add_comm]
/-- the libraries that define a symbol -/
theorem makers {tab : Tab} {gone : Str} {signs : List Str} (W : TabOk tab gone signs) {sl : List SV} {g : List Obj} {E : EP} {i k m : Nat} {sign : Str} {Q : RZ → List Obj → Prop} (h1 : sl[i]? = some (.t (.dic tab.d))) (h2 : sl[k]? = some (.t (.str sign))) (hm : m < sl.length) (hi : i ≠ m) (hk : k ≠ m)
    (h : Q (.n (.lst ((tab.names.filter fun w => decide (sign ∈ defsOf tab w)).map Mf.T.str))) g) :
    WE (mComp [m] (mKeys (mVar i)) (gN m) (mB (mV (mOp2 (oIn false) (mVar k) (mV (mOp2 oIxU (mV (mOp2 oDGet (mVar i) (mVar m))) (M.ret (.t (.int 1)))))))) (mVar m)) ⟨sl, g⟩ Q E := by
  have hW := W.few
  refine w_comp ?_
  rw [w_keys, w_var, h1, slQ_t, frzD_t, opt_some, tab_keysI]
  have g1 : ∀ x : SV, ((sl.set m .un).set m x)[m]? = some x := fun x => by rw [List.set_set, List.getElem?_set_self hm]
  have g2 : ∀ x : SV, ((sl.set m .un).set m x)[i]? = some (.t (.dic tab.d)) := fun x => by rw [List.set_set, List.getElem?_set_ne (Ne.symm hi), h1]
  have g3 : ∀ x : SV, ((sl.set m .un).set m x)[k]? = some (.t (.str sign)) := fun x => by rw [List.set_set, List.getElem?_set_ne (Ne.symm hk), h2]
  refine wc_strs (fun w => decide (sign ∈ defsOf tab w)) Mf.T.str (by simp [Tab.names]; omega) (fun x hx => ⟨_, gN_one, ?_, fun _ => ?_⟩) h
  · obtain ⟨row, hrow, _⟩ := look_some hx
    simp only [wipe1]
    rw [w_B, w_V, w_op2, w_var, g3, slQ_t, w_V, w_op2, w_V, w_op2, w_var, g2, slQ_t, w_var, g1, slQ_t, oq_dget, vD_t]
    walk_at "wr"
    rw [hrow, defs_of hrow]
    walk_at "wr"
  · simp only [wipe1]
    rw [w_var, g1, slQ_t]
    exact ⟨rfl, rfl⟩
theorem mem_names {tab : Tab} {p : Str → Bool} {t : Mf.T} (h : t ∈ (tab.names.filter p).map Mf.T.str) : ∃ n, t = .str n ∧ n ∈ tab.names := by
  obtain ⟨n, hn, rfl⟩ := List.mem_map.mp h
  exact ⟨n, rfl, (List.mem_filter.mp hn).1⟩
theorem r_wishes {tab : Tab} {gone : Str} {signs : List Str} (W : TabOk tab gone signs) {n : Nat} {w : List T} {Q : RZ → List Obj → Prop} {E : EP} (hw : Wl n w) (hn : n < 900000)
    (h : ∀ (w' : List T) (asked : Dss), Wl (n + 61) w' → AskIn tab signs asked → Q (.n (.dic (ssd asked))) [.lst w']) : MR m_wishes [.o 0, .t (.dic tab.d), .t (LS signs)] [.lst w] Q E := by
  have hW := W.few
  have hS := W.signsF
  refine m_run ?_
  walk_at "wr"
  refine c_part (n := n + 1) ?_
  walk_at "wr"
  refine c_pick (n := n) (by omega) ?_
  walk_at "wr"
  refine ⟨0, _, w, rfl, rfl, hw, by simp, by simp, fun w1 t hw1 ht => ?_⟩
  obtain ⟨k, hk, rfl⟩ := in_map_int (ks := [1, 2]) ht
  walk_at "wr"
  have hk2 : 0 < k ∧ k < 1000000 := by
    simp at hk
    omega
  refine ⟨0, signs, k, w1, rfl, rfl, hw1, by omega, by omega, hk2.1, hk2.2, fun w2 us hw2 hus => ?_⟩
  walk_at "wr"
  have hul := hus.len
  refine s_strs (fun d r sl g => ∃ (acc : Dss) (w' : List T) (x4 x5 x6 : SV), AskIn tab signs acc ∧ Wl (n + 1 + 2 * signs.length + d.length) w' ∧ sl = [.o 0, .t (.dic tab.d), .t (LS signs), .o 1, x4, x5, x6] ∧ g = [.lst w', .dic (ssd acc)])
    ⟨[], w2, _, _, _, ⟨List.nodup_nil, fun _ h => (by cases h), fun _ _ h => (by cases h)⟩, hw2.mono (by simp), rfl, rfl⟩ ?_ ?_
  · rintro d x r sl g hd ⟨acc, w', x4, x5, x6, hacc, hw', rfl, rfl⟩
    have l2 := congrArg List.length hd
    simp at l2
    refine ⟨_, gN_one, ?_⟩
    walk_at "wr"
    refine makers W (sign := x) rfl rfl (by simp) (by decide) (by decide) ?_
    walk_at "wr"
    refine c_pick (n := n + 1 + 2 * signs.length + d.length) (by omega) ?_
    walk_at "wr"
    have hfl := List.length_filter_le (fun w => decide (x ∈ defsOf tab w)) tab.names
    have hnl : tab.names.length = tab.length := by simp [Tab.names]
    refine ⟨⟨by decide, by decide, by omega⟩, ?_, 0, _, w', rfl, rfl, hw', ?_, ?_, fun w4 t hw4 ht => ?_⟩
    · rw [rep_len]
      simp
      omega
    · have := W.big
      rw [List.length_append]
      simp
      omega
    · rw [List.length_append, rep_len]
      simp
      omega
    · obtain ⟨m, rfl, hm⟩ : ∃ m, t = .str m ∧ m ∈ tab.names := by
        rcases List.mem_append.mp ht with h1 | h1
        · exact mem_names (rep_mem h1)
        · obtain ⟨m, hm, rfl⟩ := List.mem_map.mp h1
          exact ⟨m, rfl, hm⟩
      walk_at "wr"
      have hal := hacc.len
      rw [gd_put]
      exact ⟨by omega, setL acc x m, w4, _, _, _, hacc.set (hus.mem x (by rw [hd]; simp)) hm, by simpa [Nat.add_assoc] using hw4, rfl, rfl⟩
  · rintro sl g ⟨acc, w', x4, x5, x6, hacc, hw', rfl, rfl⟩
    walk_at "wr"
    exact h w' acc (hw'.mono (by omega)) hacc
theorem c_wishes {tab : Tab} {gone : Str} {signs : List Str} (W : TabOk tab gone signs) {s : St} {E : EP} {f : M (List SV)} {Q : RZ → List Obj → Prop} {n : Nat} (hn : n < 900000) (h : WE f s (fun xs g => ∃ i w, xs = [.o i, .t (.dic tab.d), .t (LS signs)] ∧ g[i]? = some (.lst w) ∧ Wl n w ∧
    ∀ (w' : List T) (asked : Dss), Wl (n + 61) w' → AskIn tab signs asked → Q (.n (.dic (ssd asked))) (g.set i (.lst w'))) E) : WE (mCall 3 m_wishes f) s Q E := by
  refine w_call1 (h.mono (fun xs g h => ?_) fun _ _ _ h => h)
  obtain ⟨i, w, rfl, hg, hw, k⟩ := h
  exact ⟨i, [.dic tab.d, LS signs], _, rfl, rfl, hg, r_wishes W hw hn fun w' asked a b => ⟨_, rfl, .inr ⟨_, rfl⟩, k w' asked a b⟩⟩
end Mf


set_option Elab.async false
set_option linter.all false
set_option maxRecDepth 100000
set_option maxHeartbeats 4000000
namespace Mf
open PySem PySem.Spec PyProof.Rows L2 Sb
local macro_rules | `(tactic| walk_at "wr") => `(tactic| simp only [w_bind, w_ret, w_var, slQ_t, slQ_o, get0, getS, set0, setS, w_T, trQ_t, trQ_n, w_O, objQ_v, objQ_n, w_V, valQ_v, w_Z, w_TD, sealQ_n, w_nil, w_cons, opQ_some, w_op, w_op2, blQ_b, w_B, w_and, w_or, w_not, w_If, w_andV, w_orV, w_notV,
  opt_some, w_tru, w_isN, w_isi, s_nx, s_seq, s_ret, s_retN, s_drop, s_if, s_set, s_par, args2Q_is, augQ_t, s_aug, treeQ_t, s_unp, s_raise, s_for, itLQ_l, w_itL, itUQ_u, w_itU, lstsQ_l, zipQ_l, enumQ_l, rngQ_i, w_rng1, w_keys, w_items, libQ_l, w_libF, w_mkLib, w_meth, w_meth0, w_sl, w_part, partQ_i,
  vL_t, vL_s, vL_0, vL_f, vL_S, vL_u, vM_t, vM_0, vM_f, vM_S, vU_t, lstAt_0, lstAt_S, dicAt_0, dicAt_S, vD_t, vD_0, vD_f, vD_S, frzD_t, frzD_f, frzD_S, kindV_t, kindV_d, kindV_l, kindV_f, kindV_S, vP_t, vP_l, vP_f, vP_S, isL_is, or_some, none_or,
  oq_add, oq_sub, oq_lt, oq_le, oq_gt, oq_ge, oq_mul, oq_mod, oq_div, oq_pow, oq_intB, oq_intI, oq_neg, oq_addS, oq_ixS, oq_ixL, oq_ixU, oq_lenL, oq_lenU, oq_lenN, oq_lenS, oq_lenO, oq_cat, oq_catU, oq_rep, oq_disp0, oq_disp1, oq_disp2, oq_disp3, oq_disp4, oq_disp5, oq_disp6, oq_disp7,
  oq_tup0, oq_tup1, oq_tup2, oq_tup3, oq_tup4, oq_tup5, oq_tup6, oq_tupOf, oq_revL, oq_append, oq_extend, oq_popAt, oq_pop, oq_remove, oq_index, oq_eq, oq_in, oq_dget, oq_din, oq_listD, oq_dictD, oq_sorted, oq_sortedD, oq_bools, oq_inSto, oq_isWord, oq_names, so_lL, so_uU,
  all_str, all_int, inF_str, strsOf_map, boolsOf_map, libsOf_map, pds_str, pds_int, List.length_map, List.length_cons, List.length_nil, List.length_append, Option.map_some, Option.isSome_some, Bool.true_and, true_and, and_true, Nat.reduceAdd, Nat.reduceSub, List.replicate, List.cons_append, List.nil_append, if_true, Bool.false_eq_true, if_false, reduceCtorEq, exQ_t, exQ_n, exQ_o, outQ_f, outQ_l, outQ_d, s_setIx, setIxQ_i, s_dPut, dPutQ_k, ix_0, ix_1, ix_2, at_0, at_1, at_2, at_3, at_4, at_5, decide_eq_true_eq, List.take_succ_cons, List.take_zero, Nat.reduceLT, Nat.lt_irrefl, Nat.zero_lt_succ, w_dnew, sealQ_o, sealO_d, trQ_o, trO_l, trO_f, pd_int, pd_str, pd_bl, pd_non, pd_lst, pds_nil, dp_int, dp_str, dp_bl, dp_non, dp_nil, dp_strs, eqv_int, eqv_str, eqv_strs, eqv_strs0, Bool.not_eq_true', decide_eq_false_iff_not, key_str, gd_val, gd_len, keysI_gd, keysT_gd, keyStrs_gd, itemsI_gd, in_libs, fieldL_defs, fieldL_needs, fieldL_uses, fieldL_weak, kindT_d, opt_strK, kit_dict, kit_str, wipe1, wipe0, gN_one, vU_row, gT_two, gT_tup, gsC, gsN, tab_keysI, tab_keysT, tab_len, tab_val, lib_defs, lib_needs, lib_uses, lib_weak, eqv_ns, strO_n, strO_s, flT_str, flT_int])
/-! ### the law's beginning: its cells, its well -/
theorem r_begin {c : Int} {Q : RZ → List Obj → Prop} {E : EP} (h : ∀ w, Wl 0 w → Q (.n (.lst w)) []) : MR m_begin [.t (.int c)] [] Q E := by
  refine m_run ?_
  walk_at "wr"
  have q := fmodB (x := c) (m := 2147483629) (by decide)
  refine ⟨⟨by decide, by decide, by decide⟩, ?_, by decide, h _ ⟨_, _, _, rfl, q.1, by omega, by decide, by decide⟩⟩
  unfold cMul
  rw [Bool.or_eq_true]
  right
  split <;> decide
theorem c_begin {s : St} {E : EP} {f : M (List SV)} {Q : RZ → List Obj → Prop} (h : WE f s (fun xs g => ∃ c, xs = [.t (.int c)] ∧ ∀ w, Wl 0 w → Q (.n (.lst w)) g) E) : WE (mCall 1 m_begin f) s Q E := by
  refine w_call0 (h.mono (fun xs g h => ?_) fun _ _ _ h => h)
  obtain ⟨c, rfl, k⟩ := h
  exact ⟨[.int c], rfl, rfl, r_begin fun w hw => ⟨rfl, .inr ⟨_, rfl⟩, k w hw⟩⟩
theorem r_cell {ns : List Int} {k : Nat} {Q : RZ → List Obj → Prop} {E : EP} (h : ∀ c, Q (.v (.t (.int c))) []) : MR m_cell_at [.t (.scr ns), .t (.int k)] [] Q E := by
  refine m_run ?_
  walk_at "wr"
  split
  · rename_i hk
    have hk : k < ns.length := by omega
    rw [atI_lt (by simpa using hk), List.getElem?_map, List.getElem?_eq_getElem hk]
    exact h _
  · exact h _
theorem c_cell {s : St} {E : EP} {f : M (List SV)} {Q : RZ → List Obj → Prop} (h : WE f s (fun xs g => ∃ (ns : List Int) (k : Nat), xs = [.t (.scr ns), .t (.int k)] ∧ ∀ c, Q (.v (.t (.int c))) g) E) : WE (mCall 2 m_cell_at f) s Q E := by
  refine w_call0 (h.mono (fun xs g h => ?_) fun _ _ _ h => h)
  obtain ⟨ns, k, rfl, hq⟩ := h
  exact ⟨[.scr ns, .int k], rfl, rfl, r_cell fun c => ⟨rfl, .inl ⟨_, rfl⟩, hq c⟩⟩
theorem cut_ints {ns : List Int} {lo hi : Option Int} : cutT (ns.map Mf.T.int) lo hi = (cutT ns lo hi).map Mf.T.int := by
  unfold cutT
  rw [List.length_map, List.map_take, List.map_drop]
theorem get_app {α : Type} {g : List α} {o : α} : (g ++ [o])[g.length]? = some o := by simp
theorem set_app {α : Type} {g : List α} {o u : α} : (g ++ [o]).set g.length u = g ++ [u] := by simp
/-! ### k74: reason, right, law -/
def reasonF (tab : Tab) (main : Str) (asked : Dss) : Mf.T := match undefF tab asked with
  | some s => .tup [.str "undefined", .str s]
  | none => match coverF tab main asked with
    | some s => .tup [.str "main", .str s]
    | none => .non
theorem filter_nil {p : Str → Bool} {ws : List Str} (h : ws.find? p = none) : ws.filter p = [] := by
  rw [List.filter_eq_nil_iff]
  exact List.find?_eq_none.mp h
theorem filter_hd {p : Str → Bool} {ws : List Str} {x : Str} (h : ws.find? p = some x) : ∃ r, ws.filter p = x :: r := by
  have := List.head?_filter (p := p) (l := ws)
  rw [h] at this
  cases e : ws.filter p with
  | nil => rw [e] at this; cases this
  | cons y r =>
    rw [e] at this
    cases this
    exact ⟨r, rfl⟩
theorem r_reason {tab : Tab} {gone : Str} {signs : List Str} (W : TabOk tab gone signs) {main : Str} {asked : Dss} (A : AskOk tab asked) (hm : main ∈ tab.names) {Q : RZ → List Obj → Prop} {E : EP} (h : Q (.v (.t (reasonF tab main asked))) []) : MR m_reason [.t (.dic tab.d), .t (.str main), .t (.dic (ssd asked))] [] Q E := by
  obtain ⟨mrow, hmrow, _⟩ := look_some hm
  have hA := A.few
  refine m_run ?_
  refine s_cut (fun sl g => sl = [.t (.dic tab.d), .t (.str main), .t (.dic (ssd asked)), .t (LS ((sortS (asked.map (·.1))).filter fun s => decide (s ∉ defsOf tab (valOf asked s)))), .un, .un] ∧ g = []) ?_ ?_
  · walk_at "wr"
    refine w_comp ?_
    walk_at "wr"
    refine ⟨by simpa using hA, ?_⟩
    refine wc_strs (fun s => decide (s ∉ defsOf tab (valOf asked s))) Mf.T.str (by rw [sortS_len]; simp; omega) (fun x hx => ?_) ?_
    · obtain ⟨hl, hn⟩ := A.of (sortS_mem.mp hx)
      obtain ⟨row, hrow, _⟩ := look_some hn
      refine ⟨_, gN_one, ?_, fun _ => ?_⟩
      · walk_at "wr"
        rw [hl]
        walk_at "wr"
        rw [hrow, defs_of hrow]
        walk_at "wr"
        simp
      · walk_at "wr"
    · walk_at "wr"
  rintro sl g ⟨rfl, rfl⟩
  unfold reasonF at h
  cases hu : undefF tab asked with
  | some s =>
    obtain ⟨r, hr⟩ := filter_hd hu
    rw [hr]
    rw [hu] at h
    walk_at "wr"
    simp only [reduceCtorEq, not_false_eq_true, reduceIte, List.map_cons, at_0, opt_some]
    exact h
  | none =>
    rw [hu] at h
    rw [filter_nil hu]
    refine s_cut (fun sl g => sl = [.t (.dic tab.d), .t (.str main), .t (.dic (ssd asked)), .t (LS []), .un, .un] ∧ g = []) ?_ ?_
    · walk_at "wr"
      simp only [not_true_eq_false, reduceIte]
    rintro sl g ⟨rfl, rfl⟩
    refine s_cut (fun sl g => sl = [.t (.dic tab.d), .t (.str main), .t (.dic (ssd asked)), .t (LS []), .t (LS ((sortS (asked.map (·.1))).filter fun s => decide (valOf asked s ≠ main) && decide (s ∈ defsOf tab main))), .un] ∧ g = []) ?_ ?_
    · walk_at "wr"
      refine w_comp ?_
      walk_at "wr"
      refine ⟨by simpa using hA, ?_⟩
      refine wc_strs (fun s => decide (valOf asked s ≠ main) && decide (s ∈ defsOf tab main)) Mf.T.str (by rw [sortS_len]; simp; omega) (fun x hx => ?_) ?_
      · obtain ⟨hl, hn⟩ := A.of (sortS_mem.mp hx)
        refine ⟨_, gN_one, ?_, fun _ => ?_⟩
        · walk_at "wr"
          rw [hl]
          walk_at "wr"
          by_cases z : valOf asked x = main
          · simp [z]
          · simp only [z, not_false_eq_true, reduceIte]
            rw [hmrow, defs_of hmrow]
            walk_at "wr"
            simp [z]
        · walk_at "wr"
      · walk_at "wr"
    rintro sl g ⟨rfl, rfl⟩
    dsimp only at h
    cases hc : coverF tab main asked with
    | some s =>
      obtain ⟨r, hr⟩ := filter_hd hc
      rw [hr]
      rw [hc] at h
      walk_at "wr"
      simp only [reduceCtorEq, not_false_eq_true, reduceIte, List.map_cons, at_0, opt_some]
      exact h
    | none =>
      rw [hc] at h
      rw [filter_nil hc]
      walk_at "wr"
      simp only [not_true_eq_false, reduceIte]
      exact h
end Mf


set_option Elab.async false
set_option linter.all false
set_option maxRecDepth 100000
set_option maxHeartbeats 4000000
namespace Mf
open PySem PySem.Spec PyProof.Rows L2 Sb
/-! ### what required finds: the least set; what arranged answers -/
theorem look_in {l : Dss} {s e : Str} (h : l.lookup s = some e) : (s, e) ∈ l := eldS_ok.look_mem' h
theorem look_key {l : Dss} {s e : Str} (h : l.lookup s = some e) : s ∈ l.map (·.1) := List.mem_map.mpr ⟨_, look_in h, rfl⟩
theorem reqS_mem {tab : Tab} {scope : List Str} {asked : Dss} {acc : List Str} {s x : Str} : x ∈ reqS tab scope asked acc s ↔ x ∈ acc ∨ (asked.lookup s = some x ∧ firstD tab scope s ≠ some x) := by
  unfold reqS
  cases e : asked.lookup s with
  | none => simp
  | some n =>
    dsimp only
    split
    · rename_i q
      rw [List.mem_append, List.mem_singleton]
      constructor
      · rintro (h | rfl)
        · exact .inl h
        · exact .inr ⟨rfl, q.1⟩
      · rintro (h | ⟨h, _⟩)
        · exact .inl h
        · cases h
          exact .inr rfl
    · rename_i q
      constructor
      · exact .inl
      · rintro (h | ⟨h, h2⟩)
        · exact h
        · cases h
          by_cases z : x ∈ acc
          · exact z
          · exact absurd ⟨h2, z⟩ q
theorem reqB_mem' {tab : Tab} {scope : List Str} {asked : Dss} {x : Str} : ∀ (ss acc : List Str), x ∈ ss.foldl (reqS tab scope asked) acc ↔ x ∈ acc ∨ ∃ s ∈ ss, asked.lookup s = some x ∧ firstD tab scope s ≠ some x
  | [], acc => by simp
  | s :: ss, acc => by
    rw [List.foldl_cons, reqB_mem' ss, reqS_mem]
    constructor
    · rintro ((h | h) | ⟨s', h1, h2⟩)
      · exact .inl h
      · exact .inr ⟨s, List.mem_cons_self, h⟩
      · exact .inr ⟨s', List.mem_cons_of_mem _ h1, h2⟩
    · rintro (h | ⟨s', h1, h2⟩)
      · exact .inl (.inl h)
      · rcases List.mem_cons.mp h1 with e | h1
        · subst e
          exact .inl (.inr h2)
        · exact .inr ⟨s', h1, h2⟩
theorem reqB_mem {tab : Tab} {scope : List Str} {asked : Dss} {x : Str} : x ∈ reqB tab scope asked ↔ ∃ s, asked.lookup s = some x ∧ firstD tab scope s ≠ some x := by
  unfold reqB
  rw [reqB_mem']
  constructor
  · rintro (h | ⟨s, _, h⟩)
    · cases h
    · exact ⟨s, h⟩
  · rintro ⟨s, h⟩
    exact .inr ⟨s, look_key h.1, h⟩
theorem setd_mem {l : Dss} {k v x : Str} : x ∈ (setd l k v).map (·.1) ↔ x ∈ l.map (·.1) ∨ x = k := by
  unfold setd
  split
  · rename_i h
    constructor
    · exact .inl
    · rintro (q | rfl)
      · exact q
      · exact h
  · simp
theorem eldN_mem {tab : Tab} {main : Str} {asked : Dss} {name x : Str} : ∀ (ss : List Str) (l : Dss), x ∈ (ss.foldl (eldS tab main asked name) l).map (·.1) ↔ x ∈ l.map (·.1) ∨ ∃ s ∈ ss, asked.lookup s = some x ∧ s ∈ defsOf tab name ∧ x ≠ name ∧ x ≠ main
  | [], l => by simp
  | s :: ss, l => by
    have e1 : x ∈ (eldS tab main asked name l s).map (·.1) ↔ x ∈ l.map (·.1) ∨ (asked.lookup s = some x ∧ s ∈ defsOf tab name ∧ x ≠ name ∧ x ≠ main) := by
      unfold eldS
      cases e : asked.lookup s with
      | none => simp
      | some n =>
        dsimp only
        split
        · rename_i q
          rw [setd_mem]
          constructor
          · rintro (h | rfl)
            · exact .inl h
            · exact .inr ⟨rfl, q⟩
          · rintro (h | ⟨h, _⟩)
            · exact .inl h
            · cases h
              exact .inr rfl
        · rename_i q
          constructor
          · exact .inl
          · rintro (h | ⟨h, h2⟩)
            · exact h
            · cases h
              exact absurd h2 q
    rw [List.foldl_cons, eldN_mem ss, e1]
    constructor
    · rintro ((h | h) | ⟨s', h1, h2⟩)
      · exact .inl h
      · exact .inr ⟨s, List.mem_cons_self, h⟩
      · exact .inr ⟨s', List.mem_cons_of_mem _ h1, h2⟩
    · rintro (h | ⟨s', h1, h2⟩)
      · exact .inl (.inl h)
      · rcases List.mem_cons.mp h1 with e | h1
        · subst e
          exact .inl (.inr h2)
        · exact .inr ⟨s', h1, h2⟩
/-- x must stand ahead of name -/
def Ahead (tab : Tab) (main : Str) (asked : Dss) (name x : Str) : Prop := ∃ s, asked.lookup s = some x ∧ s ∈ defsOf tab name ∧ x ≠ name ∧ x ≠ main
theorem eldF_mem {tab : Tab} {main : Str} {asked : Dss} {name x : Str} : x ∈ (eldF tab main asked name).map (·.1) ↔ Ahead tab main asked name x := by
  unfold eldF Ahead
  rw [eldN_mem]
  constructor
  · rintro (h | ⟨s, _, h⟩)
    · cases h
    · exact ⟨s, h⟩
  · rintro ⟨s, h⟩
    exact .inr ⟨s, sortS_mem.mpr (look_key h.1), h⟩
theorem reqN_spec {tab : Tab} {main : Str} {asked : Dss} (A : AskOk tab asked) : ∀ (f : Nat) (found : List Str) (k : Nat), InT tab found → tab.length + 1 ≤ f + k → (∀ i y, i < k → found[i]? = some y → ∀ z, Ahead tab main asked y z → z ∈ found) →
    (∀ x ∈ found, x ∈ reqN (fun n => (eldF tab main asked n).map (·.1)) f found k) ∧
    (∀ y ∈ reqN (fun n => (eldF tab main asked n).map (·.1)) f found k, ∀ z, Ahead tab main asked y z → z ∈ reqN (fun n => (eldF tab main asked n).map (·.1)) f found k) ∧
    ∀ S : Str → Prop, (∀ x ∈ found, S x) → (∀ y, S y → ∀ z, Ahead tab main asked y z → S z) → ∀ x ∈ reqN (fun n => (eldF tab main asked n).map (·.1)) f found k, S x
  | 0, found, k, hI, hk, hc => by
    refine ⟨fun x h => h, fun y hy z hz => ?_, fun S h1 h2 x hx => h1 x hx⟩
    obtain ⟨i, hi⟩ := List.getElem?_of_mem hy
    have := hI.len
    have : i < found.length := (List.getElem?_eq_some_iff.mp hi).1
    exact hc i y (by omega) hi z hz
  | f + 1, found, k, hI, hk, hc => by
    unfold reqN
    cases e : found[k]? with
    | none =>
      dsimp only
      refine ⟨fun x h => h, fun y hy z hz => ?_, fun S h1 h2 x hx => h1 x hx⟩
      obtain ⟨i, hi⟩ := List.getElem?_of_mem hy
      have : i < found.length := (List.getElem?_eq_some_iff.mp hi).1
      have : found.length ≤ k := List.getElem?_eq_none_iff.mp e
      exact hc i y (by omega) hi z hz
    | some y0 =>
      dsimp only
      have hin : ∀ x ∈ found, x ∈ grow found ((eldF tab main asked y0).map (·.1)) := fun x hx => grow_mem.mpr (.inl hx)
      obtain ⟨a1, a2, a3⟩ := reqN_spec A f (grow found ((eldF tab main asked y0).map (·.1))) (k + 1) (hI.grow A) (by omega) (fun i y hi hy z hz => by
        have hlt : k < found.length := (List.getElem?_eq_some_iff.mp e).1
        have e4 : found[i]? = some y := by
          rw [← hy]
          unfold Mf.grow
          rw [List.getElem?_append_left (by omega)]
        by_cases q : i < k
        · exact hin z (hc i y q e4 z hz)
        · obtain rfl : i = k := by omega
          rw [e] at e4
          cases e4
          exact grow_mem.mpr (.inr (eldF_mem.mpr hz)))
      refine ⟨fun x hx => a1 x (hin x hx), a2, fun S h1 h2 => a3 S (fun x hx => ?_) h2⟩
      rcases grow_mem.mp hx with h | h
      · exact h1 x h
      · exact h2 y0 (h1 y0 (List.mem_of_getElem? e)) x (eldF_mem.mp h)
theorem req_base {tab : Tab} {main : Str} {scope : List Str} {asked : Dss} (A : AskOk tab asked) {x : Str} (h : x ∈ reqB tab scope asked) : x ∈ reqF tab main scope asked :=
  (reqN_spec A _ _ 0 (reqB_ok A) (by omega) fun i y hi => by omega).1 x h
theorem req_closed {tab : Tab} {main : Str} {scope : List Str} {asked : Dss} (A : AskOk tab asked) {y z : Str} (h : y ∈ reqF tab main scope asked) (hz : Ahead tab main asked y z) : z ∈ reqF tab main scope asked :=
  (reqN_spec A _ _ 0 (reqB_ok A) (by omega) fun i y hi => by omega).2.1 y h z hz
theorem req_least {tab : Tab} {main : Str} {scope : List Str} {asked : Dss} (A : AskOk tab asked) {S : Str → Prop} (h1 : ∀ x ∈ reqB tab scope asked, S x) (h2 : ∀ y, S y → ∀ z, Ahead tab main asked y z → S z) : ∀ x ∈ reqF tab main scope asked, S x :=
  (reqN_spec A _ _ 0 (reqB_ok A) (by omega) fun i y hi => by omega).2.2 S h1 h2
/-- an order of all of them, or a ring -/
theorem arrN_is (e : Eld) : ∀ (f : Nat) (left row : List Str), left.length = f → (∃ R, arrN e f left row = .tup [.str "order", LS R] ∧ R.Perm (row ++ left)) ∨ ∃ l, arrN e f left row = .tup [.str "ring", .lst l]
  | 0, left, row, h => by
    have : left = [] := List.eq_nil_of_length_eq_zero h
    subst this
    exact .inl ⟨row, rfl, by simp⟩
  | f + 1, left, row, h => by
    unfold arrN
    split
    · rename_i q
      subst q
      cases h
    · split
      · exact .inr ⟨_, rfl⟩
      · rename_i n r hr
        have hn : n ∈ left := (List.mem_filter.mp (show n ∈ readyF e left by rw [hr]; exact List.mem_cons_self)).1
        rcases arrN_is e f (left.erase n) (row ++ [n]) (by rw [List.length_erase_of_mem hn]; omega) with ⟨R, h1, h2⟩ | h
        · refine .inl ⟨R, h1, h2.trans ?_⟩
          rw [List.append_assoc]
          exact List.Perm.append_left _ (List.perm_cons_erase hn).symm
        · exact .inr h
theorem arrF_is (e : Eld) : (∃ R, arrF e = .tup [.str "order", LS R] ∧ R.Perm (e.map (·.1))) ∨ ∃ l, arrF e = .tup [.str "ring", .lst l] := by
  unfold arrF
  rcases arrN_is e e.length (sortS (e.map (·.1))) [] (by rw [sortS_len]; simp) with ⟨R, h1, h2⟩ | h
  · exact .inl ⟨R, h1, h2.trans (sortS_perm _)⟩
  · exact .inr h
theorem sortS_eq {a b : List Str} (h : a.Perm b) : sortS a = sortS b := sorted_is' (h.symm.trans (sortS_perm a).symm)
where sorted_is' {a b : List Str} (h : b.Perm (sortS a)) : sortS a = sortS b :=
  List.Perm.eq_of_pairwise (fun x y _ _ h k => leS_anti x y h k) (sortS_pw a) (sortS_pw b) (h.symm.trans (sortS_perm b).symm)
theorem perm_of_mem {a b : List Str} (ha : a.Nodup) (hb : b.Nodup) (h : ∀ x, x ∈ a ↔ x ∈ b) : a.Perm b := by
  rw [List.perm_iff_count]
  intro x
  by_cases q : x ∈ a
  · rw [ha.count, hb.count, if_pos q, if_pos ((h x).mp q)]
  · rw [ha.count, hb.count, if_neg q, if_neg fun z => q ((h x).mpr z)]
theorem uniqS_eq {ws b : List Str} (hb : b.Nodup) (h : ∀ x, x ∈ ws ↔ x ∈ b) : uniqS ws = sortS b := by
  unfold uniqS
  refine sortS_eq (perm_of_mem (gatS_nd _ List.nodup_nil) hb fun x => ?_)
  rw [mem_gatS, ← h x]
  simp
/-! ### closures: the library first, none twice -/
theorem cloN_fnd {tab : Tab} {gone : Str} {signs : List Str} (W : TabOk tab gone signs) : ∀ {f : Nat} {found : List Str} {k : Nat} {res : List Str}, Fnd tab gone found → cloN tab f found k = some res → Fnd tab gone res
  | 0, found, k, res, hf, h => by cases h; exact hf
  | f + 1, found, k, res, hf, h => by
    unfold cloN at h
    cases e : found[k]? with
    | none => rw [e] at h; cases h; exact hf
    | some z =>
      rw [e] at h
      dsimp only at h
      cases e2 : tab.lookup z with
      | none => rw [e2] at h; cases h
      | some r =>
        rw [e2] at h
        have hz : z ∈ tab.names := by
          by_cases q : z ∈ tab.names
          · exact q
          · rw [tab_lookN q] at e2
            cases e2
        obtain ⟨r', e3, hm⟩ := tab_lookup W hz
        rw [e2] at e3
        cases e3
        exact cloN_fnd W (hf.grow W hm) h
theorem clo_nd {tab : Tab} {gone : Str} {signs : List Str} (W : TabOk tab gone signs) {x : Str} {res : List Str} (hx : x ∈ tab.names) (h : clo tab x = some res) : res.Nodup :=
  (cloN_fnd W ⟨by simp, fun y hy => .inl (by simp at hy; exact hy ▸ hx)⟩ h).nd
theorem clo_head {tab : Tab} {x : Str} {res : List Str} (h : clo tab x = some res) : ∃ r, res = x :: r := by
  obtain ⟨t, ht⟩ := cloN_pre h
  exact ⟨t, ht.symm⟩
/-- the global scope -/
def globF (first : Str) (early scope : List Str) : List Str := (first :: early) ++ scope.filter fun y => decide (y ∉ first :: early)
theorem glob_nil {tab : Tab} {gone : Str} {signs : List Str} (W : TabOk tab gone signs) {x : Str} {res : List Str} (hx : x ∈ tab.names) (h : clo tab x = some res) : globF x [] res = res := by
  obtain ⟨r, rfl⟩ := clo_head h
  have nd := clo_nd W hx h
  obtain ⟨n1, n2⟩ := List.nodup_cons.mp nd
  unfold globF
  rw [List.filter_cons_of_neg (by simp), List.filter_eq_self.mpr fun y hy => by
    have : y ≠ x := fun e => n1 (e ▸ hy)
    simpa using this]
  rfl
def metF (tab : Tab) (scope : List Str) (asked : Dss) : Bool := asked.all fun p => decide (firstD tab scope p.1 = some p.2)
theorem firstD_some {tab : Tab} {scope : List Str} {s n : Str} (h : firstD tab scope s = some n) : n ∈ scope ∧ s ∈ defsOf tab n := by
  unfold firstD at h
  exact ⟨List.mem_of_find?_eq_some h, by have := List.find?_some h; simpa using this⟩
/-- wishes that the plain scope meets want no preloads -/
theorem least_met {tab : Tab} {main : Str} {r : List Str} {asked : Dss} (A : AskOk tab asked) (h : metF tab (main :: r) asked = true) : leastF tab main (main :: r) asked = .tup [.str "order", LS []] := by
  have hm : ∀ s n, asked.lookup s = some n → firstD tab (main :: r) s = some n := fun s n hl => by
    unfold metF at h
    have := List.all_eq_true.mp h (s, n) (look_in hl)
    simpa using this
  have hu : undefF tab asked = none := by
    unfold undefF
    rw [List.find?_eq_none]
    intro s hs
    have := (A.of (sortS_mem.mp hs)).1
    have := (firstD_some (hm s _ this)).2
    simpa using this
  have hc : coverF tab main asked = none := by
    unfold coverF
    rw [List.find?_eq_none]
    intro s hs
    have := hm s _ (A.of (sortS_mem.mp hs)).1
    unfold firstD at this
    rw [List.find?_cons] at this
    by_cases q : s ∈ defsOf tab main
    · rw [decide_eq_true q] at this
      cases this
      simp_all
    · simp [q]
  have hb : reqB tab (main :: r) asked = [] := by
    rw [List.eq_nil_iff_forall_not_mem]
    intro x hx
    obtain ⟨s, h1, h2⟩ := reqB_mem.mp hx
    exact h2 (hm s x h1)
  have hr : reqF tab main (main :: r) asked = [] := by
    unfold reqF
    rw [hb]
    unfold reqN
    rfl
  unfold leastF eldsF
  rw [hu, hc, hr]
  rfl
end Mf


set_option Elab.async false
set_option linter.all false
set_option maxRecDepth 100000
set_option maxHeartbeats 4000000
namespace Mf
open PySem PySem.Spec PyProof.Rows L2 Sb
local macro_rules | `(tactic| walk_at "wr") => `(tactic| simp only [w_bind, w_ret, w_var, slQ_t, slQ_o, get0, getS, set0, setS, w_T, trQ_t, trQ_n, w_O, objQ_v, objQ_n, w_V, valQ_v, w_Z, w_TD, sealQ_n, w_nil, w_cons, opQ_some, w_op, w_op2, blQ_b, w_B, w_and, w_or, w_not, w_If, w_andV, w_orV, w_notV,
  opt_some, w_tru, w_isN, w_isi, s_nx, s_seq, s_ret, s_retN, s_drop, s_if, s_set, s_par, args2Q_is, augQ_t, s_aug, treeQ_t, s_unp, s_raise, s_for, itLQ_l, w_itL, itUQ_u, w_itU, lstsQ_l, zipQ_l, enumQ_l, rngQ_i, w_rng1, w_keys, w_items, libQ_l, w_libF, w_mkLib, w_meth, w_meth0, w_sl, w_part, partQ_i,
  vL_t, vL_s, vL_0, vL_f, vL_S, vL_u, vM_t, vM_0, vM_f, vM_S, vU_t, lstAt_0, lstAt_S, dicAt_0, dicAt_S, vD_t, vD_0, vD_f, vD_S, frzD_t, frzD_f, frzD_S, kindV_t, kindV_d, kindV_l, kindV_f, kindV_S, vP_t, vP_l, vP_f, vP_S, isL_is, or_some, none_or,
  oq_add, oq_sub, oq_lt, oq_le, oq_gt, oq_ge, oq_mul, oq_mod, oq_div, oq_pow, oq_intB, oq_intI, oq_neg, oq_addS, oq_ixS, oq_ixL, oq_ixU, oq_lenL, oq_lenU, oq_lenN, oq_lenS, oq_lenO, oq_cat, oq_catU, oq_rep, oq_disp0, oq_disp1, oq_disp2, oq_disp3, oq_disp4, oq_disp5, oq_disp6, oq_disp7,
  oq_tup0, oq_tup1, oq_tup2, oq_tup3, oq_tup4, oq_tup5, oq_tup6, oq_tupOf, oq_revL, oq_append, oq_extend, oq_popAt, oq_pop, oq_remove, oq_index, oq_eq, oq_in, oq_dget, oq_din, oq_listD, oq_dictD, oq_sorted, oq_sortedD, oq_bools, oq_inSto, oq_isWord, oq_names, so_lL, so_uU,
  all_str, all_int, inF_str, strsOf_map, boolsOf_map, libsOf_map, pds_str, pds_int, List.length_map, List.length_cons, List.length_nil, List.length_append, Option.map_some, Option.isSome_some, Bool.true_and, true_and, and_true, Nat.reduceAdd, Nat.reduceSub, List.replicate, List.cons_append, List.nil_append, if_true, Bool.false_eq_true, if_false, reduceCtorEq, exQ_t, exQ_n, exQ_o, outQ_f, outQ_l, outQ_d, s_setIx, setIxQ_i, s_dPut, dPutQ_k, ix_0, ix_1, ix_2, at_0, at_1, at_2, at_3, at_4, at_5, decide_eq_true_eq, List.take_succ_cons, List.take_zero, Nat.reduceLT, Nat.lt_irrefl, Nat.zero_lt_succ, w_dnew, sealQ_o, sealO_d, trQ_o, trO_l, trO_f, pd_int, pd_str, pd_bl, pd_non, pd_lst, pds_nil, dp_int, dp_str, dp_bl, dp_non, dp_nil, dp_strs, eqv_int, eqv_str, eqv_strs, eqv_strs0, Bool.not_eq_true', decide_eq_false_iff_not, key_str, gd_val, gd_len, keysI_gd, keysT_gd, keyStrs_gd, itemsI_gd, in_libs, fieldL_defs, fieldL_needs, fieldL_uses, fieldL_weak, kindT_d, opt_strK, kit_dict, kit_str, wipe1, wipe0, gN_one, vU_row, gT_two, gT_tup, gsC, gsN, tab_keysI, tab_keysT, tab_len, tab_val, lib_defs, lib_needs, lib_uses, lib_weak, eqv_ns, strO_n, strO_s, flT_str, flT_int])
theorem w_dget1 {s : St} {E : EP} {fd fk : M SV} {Q : RZ → List Obj → Prop} (h : WE fd s (fun x g => (vD g x).isSome = true ∧ WE fk ⟨s.sl, g⟩ (fun y g => ∃ kvs t k, vD g x = some kvs ∧ y = .t t ∧ key t = some k ∧ Q (.v (.t ((valT kvs k).getD .non))) g) E) E) : WE (mDGet1 fd fk) s Q E := by
  unfold mDGet1
  rw [w_bind]
  refine h.mono (fun x g h => ?_) fun _ _ _ h => h
  obtain ⟨q, h⟩ := h
  unfold WE
  dsimp only
  rw [if_pos q]
  show WE (fk.bind fun y s => match vD s.g x, y with
  | some kvs, .t t => match key t with
    | some k => some (.ok (.v (.t ((valT kvs k).getD .non))) s.g)
    | none => none
  | _, _ => none) ⟨s.sl, g⟩ Q E
  rw [w_bind]
  refine h.mono (fun y g h => ?_) fun _ _ _ h => h
  obtain ⟨kvs, t, k, h1, rfl, h3, h4⟩ := h
  unfold WE
  dsimp only
  rw [h1]
  dsimp only
  rw [h3]
  exact h4
/-! ### definer, global, met -/
theorem r_definer {tab : Tab} {scope : List Str} {y : Str} {Q : RZ → List Obj → Prop} {E : EP} (hs : ∀ n ∈ scope, n ∈ tab.names) (hl : scope.length ≤ 1000) (h : Q (.v (.t (strO (firstD tab scope y)))) []) : MR m_definer [.t (.dic tab.d), .t (LS scope), .t (.str y)] [] Q E := by
  refine m_run ?_
  walk_at "wr"
  refine w_comp ?_
  walk_at "wr"
  refine wc_strs (fun n => decide (y ∈ defsOf tab n)) Mf.T.str (by omega) (fun x hx => ⟨_, gN_one, ?_, fun _ => ?_⟩) ?_
  · obtain ⟨row, hrow, _⟩ := look_some (hs x hx)
    walk_at "wr"
    rw [hrow, defs_of hrow]
    walk_at "wr"
  · walk_at "wr"
  · walk_at "wr"
    have e1 : ∀ l : List Str, atI ((l.filter fun n => decide (y ∈ defsOf tab n)).map Mf.T.str ++ [Mf.T.non]) 0 = some (strO (firstD tab l y)) := by
      intro l
      unfold firstD
      induction l with
      | nil => rfl
      | cons n l ih =>
        rw [List.find?_cons, List.filter_cons]
        by_cases q : y ∈ defsOf tab n
        · simp only [q, decide_true, if_true]
          rw [List.map_cons, List.cons_append]
          exact at_0
        · simp only [q, decide_false]
          exact ih
    rw [e1]
    walk_at "wr"
    have l1 := List.length_filter_le (fun n => decide (y ∈ defsOf tab n)) scope
    exact ⟨by omega, h⟩
theorem c_definer {tab : Tab} {s : St} {E : EP} {f : M (List SV)} {Q : RZ → List Obj → Prop} (h : WE f s (fun xs g => ∃ scope y, xs = [.t (.dic tab.d), .t (LS scope), .t (.str y)] ∧ (∀ n ∈ scope, n ∈ tab.names) ∧ scope.length ≤ 1000 ∧ Q (.v (.t (strO (firstD tab scope y)))) g) E) : WE (mCall 3 m_definer f) s Q E := by
  refine w_call0 (h.mono (fun xs g h => ?_) fun _ _ _ h => h)
  obtain ⟨scope, y, rfl, hs, hl, hq⟩ := h
  exact ⟨[.dic tab.d, LS scope, .str y], rfl, rfl, r_definer hs hl ⟨rfl, .inl ⟨_, rfl⟩, hq⟩⟩
theorem glob_len (first : Str) (early scope : List Str) : (globF first early scope).length ≤ 1 + early.length + scope.length := by
  unfold globF
  rw [List.length_append, List.length_cons]
  have := List.length_filter_le (fun y => decide (y ∉ first :: early)) scope
  omega
theorem r_global {tab : Tab} {gone : Str} {signs : List Str} (W : TabOk tab gone signs) {first : Str} {early scope : List Str} {Q : RZ → List Obj → Prop} {E : EP} (hm : first ∈ tab.names) (hc : clo tab first = some scope) (hl : early.length ≤ 1000) (h : Q (.n (.lst ((globF first early scope).map Mf.T.str))) []) :
    MR m_global [.t (.dic tab.d), .t (.str first), .t (LS early)] [] Q E := by
  have hsl : scope.length ≤ tab.length := by
    have := sub_len (clo_nd W hm hc) (clo_all W hm hc)
    simpa [Tab.names] using this
  have hW := W.few
  refine m_run ?_
  walk_at "wr"
  rw [oq_listL (ts := early.map Mf.T.str) rfl]
  walk_at "wr"
  refine ⟨by omega, ?_⟩
  refine w_comp ?_
  walk_at "wr"
  refine c_closed W ?_
  walk_at "wr"
  refine ⟨first, rfl, hm, ?_⟩
  rw [hc]
  unfold cloR
  walk_at "wr"
  have e1 : Mf.T.str first :: early.map Mf.T.str = (first :: early).map Mf.T.str := rfl
  refine wc_strs (fun y => decide (y ∉ first :: early)) Mf.T.str (by omega) (fun x hx => ⟨_, gN_one, ?_, fun _ => ?_⟩) ?_
  · walk_at "wr"
    rw [e1]
    walk_at "wr"
    simp
  · walk_at "wr"
  · walk_at "wr"
    have l1 := List.length_filter_le (fun y => decide (y ∉ first :: early)) scope
    refine ⟨by simp at l1 ⊢; omega, ?_⟩
    have e2 : Mf.T.str first :: (early.map Mf.T.str ++ (scope.filter fun y => decide (y ∉ first :: early)).map Mf.T.str) = (globF first early scope).map Mf.T.str := by
      unfold globF
      simp
    rw [e2]
    exact h
theorem c_global {tab : Tab} {gone : Str} {signs : List Str} (W : TabOk tab gone signs) {s : St} {E : EP} {f : M (List SV)} {Q : RZ → List Obj → Prop} (h : WE f s (fun xs g => ∃ first early scope, xs = [.t (.dic tab.d), .t (.str first), .t (LS early)] ∧ first ∈ tab.names ∧ clo tab first = some scope ∧ early.length ≤ 1000 ∧ Q (.n (.lst ((globF first early scope).map Mf.T.str))) g) E) : WE (mCall 3 m_global f) s Q E := by
  refine w_call0 (h.mono (fun xs g h => ?_) fun _ _ _ h => h)
  obtain ⟨first, early, scope, rfl, hm, hc, hl, hq⟩ := h
  exact ⟨[.dic tab.d, .str first, LS early], rfl, rfl, r_global W hm hc hl ⟨rfl, .inr ⟨_, rfl⟩, hq⟩⟩
theorem r_met {tab : Tab} {scope : List Str} {asked : Dss} {Q : RZ → List Obj → Prop} {E : EP} (A : AskOk tab asked) (hs : ∀ n ∈ scope, n ∈ tab.names) (hl : scope.length ≤ 1000) (h : Q (.v (.t (.bl (metF tab scope asked)))) []) : MR m_met [.t (.dic tab.d), .t (LS scope), .t (.dic (ssd asked))] [] Q E := by
  have hA := A.few
  refine m_run ?_
  walk_at "wr"
  refine w_comp ?_
  walk_at "wr"
  refine wc_pure (fun _ => true) (fun im => .bl (decide (firstD tab scope (unP im).1 = some (unP im).2))) (by simp; omega) (fun im him => ?_) ?_
  · obtain ⟨p, hp, rfl⟩ := List.mem_map.mp him
    refine ⟨_, rfl, ?_, fun _ => ?_⟩
    · walk_at "wr"
    · simp only [wipe2]
      walk_at "wr"
      refine c_definer (tab := tab) ?_
      walk_at "wr"
      refine ⟨scope, p.1, rfl, hs, hl, ?_⟩
      unfold unP
      dsimp only
      cases firstD tab scope p.1 with
      | none =>
        rw [strO_n]
        walk_at "wr"
        simp [eqv_ns]
      | some m =>
        rw [strO_s]
        walk_at "wr"
        simp
  · have e1 : ((asked.map fun p => Im.two (.str p.1) (.str p.2)).filter fun _ => true).map (fun im => Mf.T.bl (decide (firstD tab scope (unP im).1 = some (unP im).2))) = (asked.map fun p => decide (firstD tab scope p.1 = some p.2)).map Mf.T.bl := by
      rw [List.filter_eq_self.mpr fun _ _ => rfl, List.map_map, List.map_map]
      rfl
    rw [e1]
    walk_at "wr"
    have e2 : (asked.map fun p => decide (firstD tab scope p.1 = some p.2)).all id = metF tab scope asked := by
      unfold metF
      rw [List.all_map]
      rfl
    rw [e2]
    exact h
theorem c_met {tab : Tab} {s : St} {E : EP} {f : M (List SV)} {Q : RZ → List Obj → Prop} (h : WE f s (fun xs g => ∃ scope asked, xs = [.t (.dic tab.d), .t (LS scope), .t (.dic (ssd asked))] ∧ AskOk tab asked ∧ (∀ n ∈ scope, n ∈ tab.names) ∧ scope.length ≤ 1000 ∧ Q (.v (.t (.bl (metF tab scope asked)))) g) E) : WE (mCall 3 m_met f) s Q E := by
  refine w_call0 (h.mono (fun xs g h => ?_) fun _ _ _ h => h)
  obtain ⟨scope, asked, rfl, A, hs, hl, hq⟩ := h
  exact ⟨[.dic tab.d, LS scope, .dic (ssd asked)], rfl, rfl, r_met A hs hl ⟨rfl, .inl ⟨_, rfl⟩, hq⟩⟩
end Mf


set_option Elab.async false
set_option linter.all false
set_option maxRecDepth 100000
set_option maxHeartbeats 4000000
namespace Mf
open PySem PySem.Spec PyProof.Rows L2 Sb
local macro_rules | `(tactic| walk_at "wr") => `(tactic| simp only [w_bind, w_ret, w_var, slQ_t, slQ_o, get0, getS, set0, setS, w_T, trQ_t, trQ_n, w_O, objQ_v, objQ_n, w_V, valQ_v, w_Z, w_TD, sealQ_n, w_nil, w_cons, opQ_some, w_op, w_op2, blQ_b, w_B, w_and, w_or, w_not, w_If, w_andV, w_orV, w_notV,
  opt_some, w_tru, w_isN, w_isi, s_nx, s_seq, s_ret, s_retN, s_drop, s_if, s_set, s_par, args2Q_is, augQ_t, s_aug, treeQ_t, s_unp, s_raise, s_for, itLQ_l, w_itL, itUQ_u, w_itU, lstsQ_l, zipQ_l, enumQ_l, rngQ_i, w_rng1, w_keys, w_items, libQ_l, w_libF, w_mkLib, w_meth, w_meth0, w_sl, w_part, partQ_i,
  vL_t, vL_s, vL_0, vL_f, vL_S, vL_u, vM_t, vM_0, vM_f, vM_S, vU_t, lstAt_0, lstAt_S, dicAt_0, dicAt_S, vD_t, vD_0, vD_f, vD_S, frzD_t, frzD_f, frzD_S, kindV_t, kindV_d, kindV_l, kindV_f, kindV_S, vP_t, vP_l, vP_f, vP_S, isL_is, or_some, none_or,
  oq_add, oq_sub, oq_lt, oq_le, oq_gt, oq_ge, oq_mul, oq_mod, oq_div, oq_pow, oq_intB, oq_intI, oq_neg, oq_addS, oq_ixS, oq_ixL, oq_ixU, oq_lenL, oq_lenU, oq_lenN, oq_lenS, oq_lenO, oq_cat, oq_catU, oq_rep, oq_disp0, oq_disp1, oq_disp2, oq_disp3, oq_disp4, oq_disp5, oq_disp6, oq_disp7,
  oq_tup0, oq_tup1, oq_tup2, oq_tup3, oq_tup4, oq_tup5, oq_tup6, oq_tupOf, oq_revL, oq_append, oq_extend, oq_popAt, oq_pop, oq_remove, oq_index, oq_eq, oq_in, oq_dget, oq_din, oq_listD, oq_dictD, oq_sorted, oq_sortedD, oq_bools, oq_inSto, oq_isWord, oq_names, so_lL, so_uU,
  all_str, all_int, inF_str, strsOf_map, boolsOf_map, libsOf_map, pds_str, pds_int, List.length_map, List.length_cons, List.length_nil, List.length_append, Option.map_some, Option.isSome_some, Bool.true_and, true_and, and_true, Nat.reduceAdd, Nat.reduceSub, List.replicate, List.cons_append, List.nil_append, if_true, Bool.false_eq_true, if_false, reduceCtorEq, exQ_t, exQ_n, exQ_o, outQ_f, outQ_l, outQ_d, s_setIx, setIxQ_i, s_dPut, dPutQ_k, ix_0, ix_1, ix_2, at_0, at_1, at_2, at_3, at_4, at_5, decide_eq_true_eq, List.take_succ_cons, List.take_zero, Nat.reduceLT, Nat.lt_irrefl, Nat.zero_lt_succ, w_dnew, sealQ_o, sealO_d, trQ_o, trO_l, trO_f, pd_int, pd_str, pd_bl, pd_non, pd_lst, pds_nil, dp_int, dp_str, dp_bl, dp_non, dp_nil, dp_strs, eqv_int, eqv_str, eqv_strs, eqv_strs0, Bool.not_eq_true', decide_eq_false_iff_not, key_str, gd_val, gd_len, keysI_gd, keysT_gd, keyStrs_gd, itemsI_gd, in_libs, fieldL_defs, fieldL_needs, fieldL_uses, fieldL_weak, kindT_d, opt_strK, kit_dict, kit_str, wipe1, wipe0, gN_one, vU_row, gT_two, gT_tup, gsC, gsN, tab_keysI, tab_keysT, tab_len, tab_val, lib_defs, lib_needs, lib_uses, lib_weak, eqv_ns, strO_n, strO_s, flT_str, flT_int])
/-! ### ahead, and what the law requires round by round -/
def ahS (asked : Dss) (some_ : List Str) (word s : Str) : Option Str := match asked.lookup s with
  | some o => if o ≠ word ∧ o ∈ some_ then some o else none
  | none => none
def aheadL (tab : Tab) (asked : Dss) (some_ : List Str) (word : Str) : List Str := (defsOf tab word).filterMap (ahS asked some_ word)
theorem defs_few {tab : Tab} {gone : Str} {signs : List Str} (W : TabOk tab gone signs) {n : Str} : (defsOf tab n).length ≤ 20 := by
  unfold defsOf
  cases e : tab.lookup n with
  | none => simp
  | some r =>
    have hm : (n, r) ∈ tab := by
      by_cases q : n ∈ tab.names
      · obtain ⟨r', e3, hm⟩ := tab_lookup W q
        rw [e] at e3
        cases e3
        exact hm
      · rw [tab_lookN q] at e
        cases e
    have R := W.rows n r hm
    have := sub_len R.defsNd R.defs
    have := W.signsF
    show r.defs.length ≤ 20
    omega
theorem ahead_len {tab : Tab} {gone : Str} {signs : List Str} (W : TabOk tab gone signs) {asked : Dss} {some_ : List Str} {word : Str} : (aheadL tab asked some_ word).length ≤ 20 := by
  have h1 := defs_few W (n := word)
  have h2 := List.length_filterMap_le (ahS asked some_ word) (defsOf tab word)
  unfold aheadL
  omega
theorem ahead_mem {tab : Tab} {asked : Dss} {some_ : List Str} {word x : Str} : x ∈ aheadL tab asked some_ word ↔ ∃ s, asked.lookup s = some x ∧ s ∈ defsOf tab word ∧ x ≠ word ∧ x ∈ some_ := by
  unfold aheadL ahS
  rw [List.mem_filterMap]
  constructor
  · rintro ⟨s, hs, h⟩
    cases e : asked.lookup s with
    | none => rw [e] at h; cases h
    | some o =>
      rw [e] at h
      dsimp only at h
      split at h
      · rename_i q
        cases h
        exact ⟨s, e, hs, q⟩
      · cases h
  · rintro ⟨s, h1, h2, h3, h4⟩
    refine ⟨s, h2, ?_⟩
    rw [h1]
    dsimp only
    rw [if_pos ⟨h3, h4⟩]
theorem r_ahead {tab : Tab} {gone : Str} {signs : List Str} (W : TabOk tab gone signs) {asked : Dss} {some_ : List Str} {word : Str} (hw : word ∈ tab.names) {Q : RZ → List Obj → Prop} {E : EP} (h : Q (.n (.lst ((aheadL tab asked some_ word).map Mf.T.str))) []) :
    MR m_ahead [.t (.dic tab.d), .t (.dic (ssd asked)), .t (LS some_), .t (.str word)] [] Q E := by
  obtain ⟨row, hrow, _⟩ := look_some hw
  have hdf := defs_few W (n := word)
  unfold aheadL at h
  rw [defs_of hrow] at h hdf
  refine m_run ?_
  walk_at "wr"
  rw [hrow]
  walk_at "wr"
  refine s_strs (fun d r sl g => ∃ x5 x6, sl = [.t (.dic tab.d), .t (.dic (ssd asked)), .t (LS some_), .t (.str word), .o 0, x5, x6] ∧ g = [.lst ((d.filterMap (ahS asked some_ word)).map Mf.T.str)]) ⟨_, _, rfl, rfl⟩ ?_ ?_
  · rintro d x r sl g hd ⟨x5, x6, rfl, rfl⟩
    have l2 := congrArg List.length hd
    simp at l2
    have l3 := List.length_filterMap_le (ahS asked some_ word) d
    refine ⟨_, gN_one, ?_⟩
    walk_at "wr"
    refine w_dget1 ?_
    walk_at "wr"
    refine ⟨ssd asked, .str x, .inr x, rfl, rfl, rfl, ?_⟩
    rw [gd_val]
    have hst : (d ++ [x]).filterMap (ahS asked some_ word) = d.filterMap (ahS asked some_ word) ++ (ahS asked some_ word x).toList := by
      rw [List.filterMap_append]
      congr 1
    rw [hst]
    cases e : asked.lookup x with
    | none =>
      have hv : ahS asked some_ word x = none := by unfold ahS; rw [e]
      rw [hv]
      simp only [Option.map_none, Option.getD_none]
      walk_at "wr"
      simp only [isNQ_n, Bool.not_true, Bool.false_eq_true, reduceIte]
      exact ⟨_, _, rfl, by simp⟩
    | some o =>
      have hv : ahS asked some_ word x = if o ≠ word ∧ o ∈ some_ then some o else none := by unfold ahS; rw [e]
      rw [hv]
      simp only [Option.map_some, Option.getD_some]
      walk_at "wr"
      rw [isNQ_s]
      simp only [reduceIte]
      by_cases z : o = word
      · simp [z]
      · simp only [z, not_false_eq_true, reduceIte]
        by_cases z2 : o ∈ some_
        · simp only [z2, reduceIte]
          refine ⟨by omega, _, _, rfl, ?_⟩
          simp [z]
        · simp [z2]
  · rintro sl g ⟨x5, x6, rfl, rfl⟩
    exact h
end Mf


set_option Elab.async false
set_option linter.all false
set_option maxRecDepth 100000
set_option maxHeartbeats 4000000
namespace Mf
open PySem PySem.Spec PyProof.Rows L2 Sb
local macro_rules | `(tactic| walk_at "wr") => `(tactic| simp only [w_bind, w_ret, w_var, slQ_t, slQ_o, get0, getS, set0, setS, w_T, trQ_t, trQ_n, w_O, objQ_v, objQ_n, w_V, valQ_v, w_Z, w_TD, sealQ_n, w_nil, w_cons, opQ_some, w_op, w_op2, blQ_b, w_B, w_and, w_or, w_not, w_If, w_andV, w_orV, w_notV,
  opt_some, w_tru, w_isN, w_isi, s_nx, s_seq, s_ret, s_retN, s_drop, s_if, s_set, s_par, args2Q_is, augQ_t, s_aug, treeQ_t, s_unp, s_raise, s_for, itLQ_l, w_itL, itUQ_u, w_itU, lstsQ_l, zipQ_l, enumQ_l, rngQ_i, w_rng1, w_keys, w_items, libQ_l, w_libF, w_mkLib, w_meth, w_meth0, w_sl, w_part, partQ_i,
  vL_t, vL_s, vL_0, vL_f, vL_S, vL_u, vM_t, vM_0, vM_f, vM_S, vU_t, lstAt_0, lstAt_S, dicAt_0, dicAt_S, vD_t, vD_0, vD_f, vD_S, frzD_t, frzD_f, frzD_S, kindV_t, kindV_d, kindV_l, kindV_f, kindV_S, vP_t, vP_l, vP_f, vP_S, isL_is, or_some, none_or,
  oq_add, oq_sub, oq_lt, oq_le, oq_gt, oq_ge, oq_mul, oq_mod, oq_div, oq_pow, oq_intB, oq_intI, oq_neg, oq_addS, oq_ixS, oq_ixL, oq_ixU, oq_lenL, oq_lenU, oq_lenN, oq_lenS, oq_lenO, oq_cat, oq_catU, oq_rep, oq_disp0, oq_disp1, oq_disp2, oq_disp3, oq_disp4, oq_disp5, oq_disp6, oq_disp7,
  oq_tup0, oq_tup1, oq_tup2, oq_tup3, oq_tup4, oq_tup5, oq_tup6, oq_tupOf, oq_revL, oq_append, oq_extend, oq_popAt, oq_pop, oq_remove, oq_index, oq_eq, oq_in, oq_dget, oq_din, oq_listD, oq_dictD, oq_sorted, oq_sortedD, oq_bools, oq_inSto, oq_isWord, oq_names, so_lL, so_uU,
  all_str, all_int, inF_str, strsOf_map, boolsOf_map, libsOf_map, pds_str, pds_int, List.length_map, List.length_cons, List.length_nil, List.length_append, Option.map_some, Option.isSome_some, Bool.true_and, true_and, and_true, Nat.reduceAdd, Nat.reduceSub, List.replicate, List.cons_append, List.nil_append, if_true, Bool.false_eq_true, if_false, reduceCtorEq, exQ_t, exQ_n, exQ_o, outQ_f, outQ_l, outQ_d, s_setIx, setIxQ_i, s_dPut, dPutQ_k, ix_0, ix_1, ix_2, at_0, at_1, at_2, at_3, at_4, at_5, decide_eq_true_eq, List.take_succ_cons, List.take_zero, Nat.reduceLT, Nat.lt_irrefl, Nat.zero_lt_succ, w_dnew, sealQ_o, sealO_d, trQ_o, trO_l, trO_f, pd_int, pd_str, pd_bl, pd_non, pd_lst, pds_nil, dp_int, dp_str, dp_bl, dp_non, dp_nil, dp_strs, eqv_int, eqv_str, eqv_strs, eqv_strs0, Bool.not_eq_true', decide_eq_false_iff_not, key_str, gd_val, gd_len, keysI_gd, keysT_gd, keyStrs_gd, itemsI_gd, in_libs, fieldL_defs, fieldL_needs, fieldL_uses, fieldL_weak, kindT_d, opt_strK, kit_dict, kit_str, wipe1, wipe0, gN_one, vU_row, gT_two, gT_tup, gsC, gsN, tab_keysI, tab_keysT, tab_len, tab_val, lib_defs, lib_needs, lib_uses, lib_weak, eqv_ns, strO_n, strO_s, flT_str, flT_int])
theorem c_ahead {tab : Tab} {gone : Str} {signs : List Str} (W : TabOk tab gone signs) {s : St} {E : EP} {f : M (List SV)} {Q : RZ → List Obj → Prop} (h : WE f s (fun xs g => ∃ asked some_ word, xs = [.t (.dic tab.d), .t (.dic (ssd asked)), .t (LS some_), .t (.str word)] ∧ word ∈ tab.names ∧ Q (.n (.lst ((aheadL tab asked some_ word).map Mf.T.str))) g) E) : WE (mCall 4 m_ahead f) s Q E := by
  refine w_call0 (h.mono (fun xs g h => ?_) fun _ _ _ h => h)
  obtain ⟨asked, some_, word, rfl, hw, hq⟩ := h
  exact ⟨[.dic tab.d, .dic (ssd asked), LS some_, .str word], rfl, rfl, r_ahead W hw ⟨rfl, .inr ⟨_, rfl⟩, hq⟩⟩
/-- those found in k rounds -/
structure Rnd (tab : Tab) (main : Str) (scope : List Str) (asked : Dss) (k : Nat) (zs : List Str) : Prop where
  nd : zs.Nodup
  sub : ∀ x ∈ zs, x ∈ reqF tab main scope asked
  base : ∀ x ∈ reqB tab scope asked, x ∈ zs
  cl : (∀ y ∈ zs, ∀ z, Ahead tab main asked y z → z ∈ zs) ∨ k ≤ zs.length
theorem Rnd.next {tab : Tab} {main : Str} {scope : List Str} {asked : Dss} {k : Nat} {zs zs' : List Str} (A : AskOk tab asked) (h : Rnd tab main scope asked k zs) (nd : zs'.Nodup) (hm : ∀ x, x ∈ zs' ↔ x ∈ zs ∨ ∃ y ∈ zs, Ahead tab main asked y x) : Rnd tab main scope asked (k + 1) zs' := by
  refine ⟨nd, fun x hx => ?_, fun x hx => (hm x).mpr (.inl (h.base x hx)), ?_⟩
  · rcases (hm x).mp hx with h1 | ⟨y, h1, h2⟩
    · exact h.sub x h1
    · exact req_closed A (h.sub y h1) h2
  · by_cases q : ∀ y ∈ zs, ∀ z, Ahead tab main asked y z → z ∈ zs
    · left
      intro y hy z hz
      have hy' : y ∈ zs := by
        rcases (hm y).mp hy with h1 | ⟨y', h1, h2⟩
        · exact h1
        · exact q y' h1 y h2
      exact (hm z).mpr (.inl (q y hy' z hz))
    · right
      have hk := h.cl.resolve_left q
      simp only [Classical.not_forall] at q
      obtain ⟨y, hy, z, hz, hn⟩ := q
      have := sub_len (us := z :: zs) (ws := zs') (List.nodup_cons.mpr ⟨hn, h.nd⟩) fun x hx => by
        rcases List.mem_cons.mp hx with e | hx
        · subst e
          exact (hm x).mpr (.inr ⟨y, hy, hz⟩)
        · exact (hm x).mpr (.inl hx)
      rw [List.length_cons] at this
      omega
theorem Rnd.done {tab : Tab} {main : Str} {scope : List Str} {asked : Dss} {zs : List Str} (A : AskOk tab asked) (h : Rnd tab main scope asked tab.length zs) : sortS zs = sortS (reqF tab main scope asked) := by
  have hR := reqF_ok (main := main) (scope := scope) A
  have hc : ∀ y ∈ zs, ∀ z, Ahead tab main asked y z → z ∈ zs := by
    rcases h.cl with h1 | h1
    · exact h1
    · intro y hy z hz
      have hzn : z ∈ tab.names := by
        obtain ⟨s, h2, _⟩ := hz
        exact A.val s z (look_in h2)
      by_cases q : z ∈ zs
      · exact q
      · have := sub_len (us := z :: zs) (ws := tab.names) (List.nodup_cons.mpr ⟨q, h.nd⟩) fun x hx => by
          rcases List.mem_cons.mp hx with e | hx
          · subst e
            exact hzn
          · exact hR.sub x (h.sub x hx)
        simp [Tab.names] at this
        omega
  exact sortS_eq (perm_of_mem h.nd hR.nd fun x => ⟨h.sub x, fun hx => req_least A (S := fun x => x ∈ zs) h.base hc x hx⟩)
def baseL (tab : Tab) (scope : List Str) (asked : Dss) : List Str := (asked.filter fun p => decide (firstD tab scope p.1 ≠ some p.2)).map (·.2)
theorem baseL_mem {tab : Tab} {scope : List Str} {asked : Dss} (A : AskOk tab asked) {x : Str} : x ∈ baseL tab scope asked ↔ x ∈ reqB tab scope asked := by
  unfold baseL
  rw [reqB_mem, List.mem_map]
  constructor
  · rintro ⟨⟨s, n⟩, h, rfl⟩
    obtain ⟨h1, h2⟩ := List.mem_filter.mp h
    exact ⟨s, look_of A.nd h1, by simpa using h2⟩
  · rintro ⟨s, h1, h2⟩
    exact ⟨(s, x), List.mem_filter.mpr ⟨look_in h1, by simpa using h2⟩, rfl⟩
def othL (main : Str) (asked : Dss) : List Str := (asked.map (·.2)).filter fun w => decide (w ≠ main)
theorem ahead_is {tab : Tab} {main : Str} {asked : Dss} {y z : Str} : z ∈ aheadL tab asked (othL main asked) y ↔ Ahead tab main asked y z := by
  rw [ahead_mem]
  unfold Ahead othL
  constructor
  · rintro ⟨s, h1, h2, h3, h4⟩
    exact ⟨s, h1, h2, h3, by simpa using (List.mem_filter.mp h4).2⟩
  · rintro ⟨s, h1, h2, h3, h4⟩
    exact ⟨s, h1, h2, h3, List.mem_filter.mpr ⟨List.mem_map.mpr ⟨_, look_in h1, rfl⟩, by simpa using h4⟩⟩
theorem flat_len {f : Str → List Str} (hf : ∀ x, (f x).length ≤ 20) : ∀ l : List Str, (l.flatMap f).length ≤ 20 * l.length
  | [] => by simp
  | x :: l => by
    have h1 := flat_len hf l
    have h2 := hf x
    rw [List.flatMap_cons, List.length_append, List.length_cons]
    omega
theorem in_len {tab : Tab} {l : List Str} (nd : l.Nodup) (h : ∀ x ∈ l, x ∈ tab.names) : l.length ≤ tab.length := by
  have := sub_len nd h
  simpa [Tab.names] using this
theorem r_lawreq {tab : Tab} {gone : Str} {signs : List Str} (W : TabOk tab gone signs) {main : Str} {scope : List Str} {asked : Dss} (A : AskOk tab asked) (hm : main ∈ tab.names) (hc : clo tab main = some scope) {Q : RZ → List Obj → Prop} {E : EP} (h : Q (.v (.t (LS (sortS (reqF tab main scope asked))))) []) :
    MR m_lawreq [.t (.dic tab.d), .t (.str main), .t (.dic (ssd asked))] [] Q E := by
  have hW := W.few
  have hA := A.few
  have hsn := clo_all W hm hc
  have hsl := in_len (clo_nd W hm hc) hsn
  have hR := reqF_ok (main := main) (scope := scope) A
  have hRl := in_len hR.nd hR.sub
  refine m_run ?_
  refine s_cut (fun sl g => sl = [.t (.dic tab.d), .t (.str main), .t (.dic (ssd asked)), .t (LS scope), .un, .un, .un, .un, .un, .un] ∧ g = []) ?_ ?_
  · walk_at "wr"
    refine c_global W ?_
    walk_at "wr"
    refine ⟨main, [], scope, rfl, hm, hc, by simp, ?_⟩
    rw [glob_nil W hm hc]
  rintro sl g ⟨rfl, rfl⟩
  refine s_cut (fun sl g => sl = [.t (.dic tab.d), .t (.str main), .t (.dic (ssd asked)), .t (LS scope), .un, .t (LS (uniqS (baseL tab scope asked))), .un, .un, .un, .un] ∧ g = []) ?_ ?_
  · walk_at "wr"
    refine w_comp ?_
    walk_at "wr"
    refine wc_pure (fun im => decide (firstD tab scope (unP im).1 ≠ some (unP im).2)) (fun im => .str (unP im).2) (by simp; omega) (fun im him => ?_) ?_
    · obtain ⟨p, hp, rfl⟩ := List.mem_map.mp him
      refine ⟨_, rfl, ?_, fun _ => ?_⟩
      · simp only [wipe2]
        walk_at "wr"
        refine c_definer (tab := tab) ?_
        walk_at "wr"
        refine ⟨scope, p.1, rfl, hsn, by omega, ?_⟩
        unfold unP
        dsimp only
        cases firstD tab scope p.1 with
        | none =>
          rw [strO_n]
          walk_at "wr"
          simp [eqv_ns]
        | some m =>
          rw [strO_s]
          walk_at "wr"
          simp
      · simp only [wipe2]
        walk_at "wr"
        rfl
    · have e1 : ((asked.map fun p => Im.two (.str p.1) (.str p.2)).filter fun im => decide (firstD tab scope (unP im).1 ≠ some (unP im).2)).map (fun im => Mf.T.str (unP im).2) = (baseL tab scope asked).map Mf.T.str := by
        unfold baseL
        rw [List.filter_map, List.map_map, List.map_map]
        rfl
      rw [e1]
      walk_at "wr"
      rw [oq_sortX]
      walk_at "wr"
      have l1 : (baseL tab scope asked).length ≤ asked.length := by
        unfold baseL
        rw [List.length_map]
        exact List.length_filter_le _ _
      have l2 := gatS_len (baseL tab scope asked) []
      simp at l2
      exact ⟨by omega, by omega⟩
  rintro sl g ⟨rfl, rfl⟩
  refine s_cut (fun sl g => sl = [.t (.dic tab.d), .t (.str main), .t (.dic (ssd asked)), .t (LS scope), .un, .t (LS (uniqS (baseL tab scope asked))), .t (LS (othL main asked)), .un, .un, .un] ∧ g = []) ?_ ?_
  · walk_at "wr"
    refine w_comp ?_
    rw [w_vals]
    walk_at "wr"
    have e1 : valsI (ssd asked) = ones ((asked.map (·.2)).map Mf.T.str) := by
      show (gd Mf.T.str asked).map _ = _
      unfold ones gd
      rw [List.map_map, List.map_map, List.map_map]
      rfl
    rw [e1]
    refine wc_strs (fun w => decide (w ≠ main)) Mf.T.str (by simp; omega) (fun x hx => ⟨_, gN_one, ?_, fun _ => ?_⟩) ?_
    · walk_at "wr"
      simp
    · walk_at "wr"
    · walk_at "wr"
      rfl
  rintro sl g ⟨rfl, rfl⟩
  have hb : Rnd tab main scope asked 0 (gatS [] (baseL tab scope asked)) := by
    have hmem : ∀ x, x ∈ gatS [] (baseL tab scope asked) ↔ x ∈ reqB tab scope asked := fun x => by
      rw [mem_gatS, ← baseL_mem A]
      simp
    exact ⟨gatS_nd _ List.nodup_nil, fun x hx => req_base A ((hmem x).mp hx), fun x hx => (hmem x).mpr hx, .inr (Nat.zero_le _)⟩
  walk_at "wr"
  rw [oq_lenD]
  walk_at "wr"
  refine ⟨by omega, ?_⟩
  rw [Int.toNat_natCast]
  refine s_range (fun k sl g => ∃ zs x4 x7 x8, Rnd tab main scope asked k zs ∧ sl = [.t (.dic tab.d), .t (.str main), .t (.dic (ssd asked)), .t (LS scope), x4, .t (LS (sortS zs)), .t (LS (othL main asked)), x7, x8, .un] ∧ g = []) ⟨_, _, _, _, hb, rfl, rfl⟩ ?_ ?_
  · rintro k sl g hk ⟨zs, x4, x7, x8, hz, rfl, rfl⟩
    have hzn : ∀ x ∈ zs, x ∈ tab.names := fun x hx => hR.sub x (hz.sub x hx)
    have hzl := in_len hz.nd hzn
    refine ⟨_, gN_one, ?_⟩
    walk_at "wr"
    refine s_strs (fun d r sl g => ∃ x4, sl = [.t (.dic tab.d), .t (.str main), .t (.dic (ssd asked)), .t (LS scope), x4, .t (LS (sortS zs)), .t (LS (othL main asked)), .t (.int k), .t (LS (d.flatMap (aheadL tab asked (othL main asked)))), .un] ∧ g = []) ⟨_, rfl, rfl⟩ ?_ ?_
    · rintro d x r sl g hd ⟨x4, rfl, rfl⟩
      have hx : x ∈ zs := sortS_mem.mp (by rw [hd]; simp)
      have l2 := congrArg List.length hd
      rw [sortS_len] at l2
      simp at l2
      have l3 := flat_len (f := aheadL tab asked (othL main asked)) (fun x => ahead_len W) d
      have l4 := ahead_len W (asked := asked) (some_ := othL main asked) (word := x)
      refine ⟨_, gN_one, ?_⟩
      walk_at "wr"
      refine c_ahead W ?_
      walk_at "wr"
      refine ⟨asked, othL main asked, x, rfl, hzn x hx, ?_⟩
      refine ⟨by omega, .t (.str x), ?_⟩
      rw [strs_two, List.flatMap_append, List.flatMap_cons, List.flatMap_nil, List.append_nil]
    · rintro sl g ⟨x4, rfl, rfl⟩
      walk_at "wr"
      rw [oq_sortX]
      walk_at "wr"
      have l3 := flat_len (f := aheadL tab asked (othL main asked)) (fun x => ahead_len W) (sortS zs)
      rw [sortS_len] at l3
      rw [strs_two]
      walk_at "wr"
      rw [sortS_len]
      have hmem : ∀ x, x ∈ gatS [] (sortS zs ++ (sortS zs).flatMap (aheadL tab asked (othL main asked))) ↔ x ∈ zs ∨ ∃ y ∈ zs, Ahead tab main asked y x := fun x => by
        rw [mem_gatS, List.mem_append, sortS_mem, List.mem_flatMap]
        simp only [List.not_mem_nil, false_or]
        refine or_congr Iff.rfl ⟨?_, ?_⟩
        · rintro ⟨y, h1, h2⟩
          exact ⟨y, sortS_mem.mp h1, ahead_is.mp h2⟩
        · rintro ⟨y, h1, h2⟩
          exact ⟨y, sortS_mem.mpr h1, ahead_is.mpr h2⟩
      have hz' := hz.next A (gatS_nd _ List.nodup_nil) hmem
      have hl' := in_len hz'.nd fun x hx => hR.sub x (hz'.sub x hx)
      exact ⟨by omega, ⟨by omega, by omega⟩, _, _, _, _, hz', rfl⟩
  · rintro sl g ⟨zs, x4, x7, x8, hz, rfl, rfl⟩
    rw [hz.done A]
    walk_at "wr"
    exact h
end Mf


set_option Elab.async false
set_option linter.all false
set_option maxRecDepth 100000
set_option maxHeartbeats 4000000
namespace Mf
open PySem PySem.Spec PyProof.Rows L2 Sb
/-! ### which rows of preloads meet the wishes -/
theorem firstD_app {tab : Tab} {a b : List Str} {s : Str} : firstD tab (a ++ b) s = (firstD tab a s).or (firstD tab b s) := by
  unfold firstD
  exact List.find?_append
theorem firstD_none {tab : Tab} {a : List Str} {s : Str} : firstD tab a s = none ↔ ∀ y ∈ a, s ∉ defsOf tab y := by
  unfold firstD
  rw [List.find?_eq_none]
  constructor
  · intro h y hy
    simpa using h y hy
  · intro h y hy
    simpa using h y hy
theorem firstD_filter {tab : Tab} {b : List Str} {s : Str} {p : Str → Bool} (h : ∀ y ∈ b, s ∈ defsOf tab y → p y = true) : firstD tab (b.filter p) s = firstD tab b s := by
  unfold firstD
  induction b with
  | nil => rfl
  | cons x b ih =>
    have ih := ih fun y hy => h y (List.mem_cons_of_mem _ hy)
    by_cases q : p x = true
    · rw [List.filter_cons_of_pos q, List.find?_cons, List.find?_cons, ih]
    · rw [List.filter_cons_of_neg q, ih, List.find?_cons]
      have : s ∉ defsOf tab x := fun z => q (h x List.mem_cons_self z)
      simp [this]
theorem firstD_cons {tab : Tab} {x : Str} {b : List Str} {s : Str} : firstD tab (x :: b) s = if s ∈ defsOf tab x then some x else firstD tab b s := by
  unfold firstD
  rw [List.find?_cons]
  by_cases q : s ∈ defsOf tab x <;> simp [q]
/-- the first definer, split off -/
theorem firstD_split {tab : Tab} {s n : Str} : ∀ {l : List Str}, firstD tab l s = some n → ∃ a b, l = a ++ n :: b ∧ ∀ y ∈ a, s ∉ defsOf tab y
  | [], h => by cases h
  | x :: l, h => by
    rw [firstD_cons] at h
    split at h
    · cases h
      exact ⟨[], l, rfl, fun y hy => by cases hy⟩
    · rename_i q
      obtain ⟨a, b, rfl, h2⟩ := firstD_split h
      refine ⟨x :: a, b, rfl, fun y hy => ?_⟩
      rcases List.mem_cons.mp hy with e | hy
      · exact e ▸ q
      · exact h2 y hy
theorem met_iff {tab : Tab} {scope : List Str} {asked : Dss} (A : AskOk tab asked) : metF tab scope asked = true ↔ ∀ s n, asked.lookup s = some n → firstD tab scope s = some n := by
  unfold metF
  rw [List.all_eq_true]
  constructor
  · intro h s n hl
    simpa using h (s, n) (look_in hl)
  · intro h p hp
    simpa using h p.1 p.2 (look_of A.nd hp)
/-- what the plain scope, main first, looks like -/
structure Plain (tab : Tab) (main : Str) (scope : List Str) : Prop where
  ex : ∃ rs, scope = main :: rs ∧ main ∉ rs
theorem Plain.of {tab : Tab} {gone : Str} {signs : List Str} (W : TabOk tab gone signs) {main : Str} {scope : List Str} (hm : main ∈ tab.names) (hc : clo tab main = some scope) : Plain tab main scope := by
  obtain ⟨rs, rfl⟩ := clo_head hc
  exact ⟨rs, rfl, (List.nodup_cons.mp (clo_nd W hm hc)).1⟩
theorem glob_is {main : Str} {row rs : List Str} : globF main row (main :: rs) = main :: (row ++ rs.filter fun y => decide (y ∉ main :: row)) := by
  unfold globF
  rw [List.filter_cons_of_neg (by simp)]
  rfl
/-- a row that the wishes allow: the required ones are there, each behind its elders -/
structure Fits (tab : Tab) (main : Str) (scope : List Str) (asked : Dss) (row : List Str) : Prop where
  req : ∀ x ∈ reqF tab main scope asked, x ∈ row
  old : ∀ a y b, row = a ++ y :: b → ∀ z, Ahead tab main asked y z → z ∈ a
theorem fits_undef {tab : Tab} {main : Str} {scope row : List Str} {asked : Dss} (A : AskOk tab asked) (h : metF tab (globF main row scope) asked = true) : undefF tab asked = none := by
  have hm := (met_iff A).mp h
  unfold undefF
  rw [List.find?_eq_none]
  intro s hs
  have := (firstD_some (hm s _ (A.of (sortS_mem.mp hs)).1)).2
  simpa using this
theorem fits_cover {tab : Tab} {main : Str} {scope row : List Str} {asked : Dss} (A : AskOk tab asked) (h : metF tab (globF main row scope) asked = true) : coverF tab main asked = none := by
  have hm := (met_iff A).mp h
  unfold coverF
  rw [List.find?_eq_none]
  intro s hs
  have := hm s _ (A.of (sortS_mem.mp hs)).1
  unfold globF at this
  rw [List.cons_append, firstD_cons] at this
  by_cases q : s ∈ defsOf tab main
  · rw [if_pos q] at this
    cases this
    simp_all
  · simp [q]
theorem fits_of_met {tab : Tab} {main : Str} {scope row : List Str} {asked : Dss} (A : AskOk tab asked) (Pl : Plain tab main scope) (hmr : main ∉ row) (nd : row.Nodup) (h : metF tab (globF main row scope) asked = true) : Fits tab main scope asked row := by
  have hm := (met_iff A).mp h
  obtain ⟨rs, rfl, hrs⟩ := Pl.ex
  rw [glob_is] at hm
  have old : ∀ a y b, row = a ++ y :: b → ∀ z, Ahead tab main asked y z → z ∈ a := by
    intro a y b hrow z hz
    obtain ⟨s, h1, h2, h3, h4⟩ := hz
    have h5 := hm s z h1
    rw [firstD_cons] at h5
    by_cases q : s ∈ defsOf tab main
    · rw [if_pos q] at h5
      cases h5
      exact absurd rfl h4
    · rw [if_neg q, hrow, List.append_assoc, firstD_app] at h5
      cases e : firstD tab a s with
      | some n =>
        rw [e] at h5
        cases h5
        exact (firstD_some e).1
      | none =>
        rw [e, Option.none_or, List.cons_append, firstD_cons, if_pos h2] at h5
        cases h5
        exact absurd rfl h3
  refine ⟨req_least A (S := fun x => x ∈ row) (fun x hx => ?_) (fun y hy z hz => ?_), old⟩
  · obtain ⟨s, h1, h2⟩ := reqB_mem.mp hx
    have h5 := hm s x h1
    rw [firstD_cons] at h5 h2
    by_cases q : s ∈ defsOf tab main
    · rw [if_pos q] at h5 h2
      exact absurd h5 h2
    · rw [if_neg q] at h5 h2
      rw [firstD_app] at h5
      cases e : firstD tab row s with
      | some n =>
        rw [e] at h5
        cases h5
        exact (firstD_some e).1
      | none =>
        rw [e, Option.none_or] at h5
        have hn := firstD_none.mp e
        rw [firstD_filter fun y hy hd => by
          have h6 : y ≠ main := fun e => hrs (e ▸ hy)
          have h7 : y ∉ row := fun z => hn y z hd
          simp [h6, h7]] at h5
        exact absurd h5 h2
  · obtain ⟨a, b, hab⟩ := List.append_of_mem hy
    rw [hab]
    exact List.mem_append_left _ (old a y b hab z hz)
theorem met_of_fits {tab : Tab} {main : Str} {scope row : List Str} {asked : Dss} (A : AskOk tab asked) (Pl : Plain tab main scope) (hu : undefF tab asked = none) (hc : coverF tab main asked = none)
    (F : Fits tab main scope asked row) (sub : ∀ x ∈ row, x ∈ reqF tab main scope asked) : metF tab (globF main row scope) asked = true := by
  obtain ⟨rs, rfl, hrs⟩ := Pl.ex
  refine (met_iff A).mpr fun s n hl => ?_
  rw [glob_is, firstD_cons]
  have hs : s ∈ sortS (asked.map (·.1)) := sortS_mem.mpr (look_key hl)
  have hv : valOf asked s = n := by unfold valOf; rw [hl]; rfl
  have hd : s ∈ defsOf tab n := by
    unfold undefF at hu
    have := List.find?_eq_none.mp hu s hs
    rw [hv] at this
    simpa using this
  have hcv : n ≠ main → s ∉ defsOf tab main := by
    intro hn
    unfold coverF at hc
    have := List.find?_eq_none.mp hc s hs
    rw [hv] at this
    simp [hn] at this
    exact this
  by_cases q : s ∈ defsOf tab main
  · rw [if_pos q]
    by_cases z : n = main
    · rw [z]
    · exact absurd q (hcv z)
  · rw [if_neg q]
    have hnm : n ≠ main := fun e => q (e ▸ hd)
    rw [firstD_app]
    by_cases hnr : n ∈ row
    · obtain ⟨a, b, hab⟩ := List.append_of_mem hnr
      have e : firstD tab row s = some n := by
        cases e : firstD tab row s with
        | none => exact absurd hd (firstD_none.mp e n hnr)
        | some y =>
          obtain ⟨a, b, hab, _⟩ := firstD_split e
          by_cases z : y = n
          · rw [z]
          · have hy : s ∈ defsOf tab y := (firstD_some e).2
            have hin := F.old a y b hab n ⟨s, hl, hy, fun e => z e.symm, hnm⟩
            rename_i ha
            exact absurd hd (ha n hin)
      rw [e]
      rfl
    · have e : firstD tab row s = none := by
        rw [firstD_none]
        intro y hy hdy
        have hyr := sub y hy
        have : n ∈ reqF tab main (main :: rs) asked := req_closed A hyr ⟨s, hl, hdy, fun e => hnr (e ▸ hy), hnm⟩
        exact hnr (F.req n this)
      rw [e, Option.none_or]
      have hnb : firstD tab (main :: rs) s = some n := by
        by_cases z : firstD tab (main :: rs) s = some n
        · exact z
        · exact absurd (F.req n (req_base A (reqB_mem.mpr ⟨s, hl, z⟩))) hnr
      rw [firstD_cons, if_neg q] at hnb
      rw [firstD_filter fun y hy hdy => by
        have h6 : y ≠ main := fun e => hrs (e ▸ hy)
        have h7 : y ∉ row := fun z => firstD_none.mp e y z hdy
        simp [h6, h7]]
      exact hnb
/-- the main library is never required -/
theorem req_main {tab : Tab} {main : Str} {scope : List Str} {asked : Dss} (A : AskOk tab asked) (Pl : Plain tab main scope) (hu : undefF tab asked = none) : main ∉ reqF tab main scope asked := by
  intro h
  refine req_least A (S := fun x => x ≠ main) (fun x hx e => ?_) (fun y hy z hz => ?_) main h rfl
  · subst e
    obtain ⟨s, h1, h2⟩ := reqB_mem.mp hx
    obtain ⟨rs, rfl, hrs⟩ := Pl.ex
    have hs : s ∈ sortS (asked.map (·.1)) := sortS_mem.mpr (look_key h1)
    have hv : valOf asked s = x := by unfold valOf; rw [h1]; rfl
    unfold undefF at hu
    have h3 := List.find?_eq_none.mp hu s hs
    rw [hv] at h3
    have h3 : s ∈ defsOf tab x := by simpa using h3
    rw [firstD_cons, if_pos h3] at h2
    exact h2 rfl
  · obtain ⟨s, _, _, _, h4⟩ := hz
    exact h4
end Mf


set_option Elab.async false
set_option linter.all false
set_option maxRecDepth 100000
set_option maxHeartbeats 4000000
namespace Mf
open PySem PySem.Spec PyProof.Rows L2 Sb
/-! ### the order that arranged finds -/
def eldK (e : Eld) (n : Str) : List Str := ((e.lookup n).getD []).map (·.1)
theorem ready_mem {e : Eld} {left : List Str} {n : Str} : n ∈ readyF e left ↔ n ∈ left ∧ ∀ z ∈ eldK e n, z ∉ left := by
  unfold readyF eldK
  rw [List.mem_filter]
  refine and_congr Iff.rfl ?_
  generalize (e.lookup n).getD [] = l
  constructor
  · intro h z hz hl
    obtain ⟨p, hp, rfl⟩ := List.mem_map.mp hz
    have : ((l.map fun p => decide (p.1 ∈ left)).any id) = true := List.any_eq_true.mpr ⟨true, List.mem_map.mpr ⟨p, hp, decide_eq_true hl⟩, rfl⟩
    rw [this] at h
    cases h
  · intro h
    have : ((l.map fun p => decide (p.1 ∈ left)).any id) = false := by
      rw [List.any_eq_false]
      intro b hb
      obtain ⟨p, hp, rfl⟩ := List.mem_map.mp hb
      have := h p.1 (List.mem_map.mpr ⟨p, hp, rfl⟩)
      simpa using this
    rw [this]
    rfl
theorem strs_inj {a b : List Str} (h : a.map Mf.T.str = b.map Mf.T.str) : a = b := by
  induction a generalizing b with
  | nil => cases b with
    | nil => rfl
    | cons => cases h
  | cons x a ih => cases b with
    | nil => cases h
    | cons y b =>
      simp only [List.map_cons, List.cons.injEq, Mf.T.str.injEq] at h
      rw [h.1, ih h.2]
theorem ord_inj {a b : List Str} (h : Mf.T.tup [.str "order", LS a] = .tup [.str "order", LS b]) : a = b := by
  injection h with h
  injection h with _ h
  injection h with h
  injection h with h
  exact strs_inj h
theorem ring_ord {t u : Mf.T} (h : Mf.T.tup [.str "ring", t] = .tup [.str "order", u]) : False := by
  injection h with h
  injection h with h
  injection h with h
  exact absurd h (by decide +kernel)
/-- each behind those of its list -/
def Behind (el : Str → List Str) (row : List Str) : Prop := ∀ a y b, row = a ++ y :: b → ∀ z ∈ el y, z ∈ a
theorem Behind.snoc {el : Str → List Str} {row : List Str} {n : Str} (h : Behind el row) (hn : ∀ z ∈ el n, z ∈ row) : Behind el (row ++ [n]) := by
  intro a y b e z hz
  rcases List.eq_nil_or_concat b with rfl | ⟨b', m, rfl⟩
  · have e2 := List.append_inj' e rfl
    obtain ⟨rfl, h2⟩ := e2
    cases h2
    exact hn z hz
  · rw [List.concat_eq_append, ← List.cons_append, ← List.append_assoc] at e
    have e2 := List.append_inj' e rfl
    exact h a y b' e2.1 z hz
theorem arrN_old (e : Eld) : ∀ (f : Nat) (left row R : List Str), left.length = f → left.Nodup → (∀ n ∈ left, ∀ z ∈ eldK e n, z ∈ left ∨ z ∈ row) → Behind (eldK e) row → arrN e f left row = .tup [.str "order", LS R] → Behind (eldK e) R
  | 0, left, row, R, hl, nd, hk, hr, h => by
    unfold arrN at h
    cases ord_inj h
    exact hr
  | f + 1, left, row, R, hl, nd, hk, hr, h => by
    unfold arrN at h
    split at h
    · cases ord_inj h
      exact hr
    · split at h
      · exact (ring_ord h).elim
      · rename_i n r hn
        obtain ⟨h1, h2⟩ := ready_mem.mp (show n ∈ readyF e left by rw [hn]; exact List.mem_cons_self)
        refine arrN_old e f (left.erase n) (row ++ [n]) R (by rw [List.length_erase_of_mem h1]; omega) (nd.erase n) (fun m hm z hz => ?_) (hr.snoc fun z hz => (hk n h1 z hz).resolve_left (h2 z hz)) h
        rcases hk m (List.mem_of_mem_erase hm) z hz with h3 | h3
        · by_cases q : z = n
          · exact .inr (by simp [q])
          · exact .inl ((List.mem_erase_of_ne q).mpr h3)
        · exact .inr (List.mem_append_left _ h3)
theorem first_in {left : List Str} : ∀ {row : List Str}, left ≠ [] → (∀ x ∈ left, x ∈ row) → ∃ a y b, row = a ++ y :: b ∧ y ∈ left ∧ ∀ x ∈ a, x ∉ left := by
  intro row ne h
  obtain ⟨x, hx⟩ := List.exists_mem_of_ne_nil left ne
  cases e : row.find? (fun y => decide (y ∈ left)) with
  | none =>
    have := List.find?_eq_none.mp e x (h x hx)
    simp [hx] at this
  | some y =>
    obtain ⟨h1, a, b, h2, h3⟩ := List.find?_eq_some_iff_append.mp e
    exact ⟨a, y, b, h2, by simpa using h1, fun x hx => by simpa using h3 x hx⟩
theorem arrN_done (e : Eld) {rho : List Str} (B : Behind (eldK e) rho) : ∀ (f : Nat) (left row : List Str), left.length = f → left.Nodup → (∀ x ∈ left, x ∈ rho) → ∃ R, arrN e f left row = .tup [.str "order", LS R]
  | 0, left, row, hl, nd, hi => ⟨row, rfl⟩
  | f + 1, left, row, hl, nd, hi => by
    have ne : left ≠ [] := fun z => by rw [z] at hl; cases hl
    unfold arrN
    rw [if_neg ne]
    obtain ⟨a, y, b, h1, h2, h3⟩ := first_in ne hi
    have hy : y ∈ readyF e left := ready_mem.mpr ⟨h2, fun z hz hl => h3 z (B a y b h1 z hz) hl⟩
    cases hr : readyF e left with
    | nil => rw [hr] at hy; cases hy
    | cons n r =>
      obtain ⟨h1, _⟩ := ready_mem.mp (show n ∈ readyF e left by rw [hr]; exact List.mem_cons_self)
      exact arrN_done e B f (left.erase n) (row ++ [n]) (by rw [List.length_erase_of_mem h1]; omega) (nd.erase n) fun x hx => hi x (List.mem_of_mem_erase hx)
/-! ### the same of the wishes -/
theorem elds_look {tab : Tab} {main : Str} {scope : List Str} {asked : Dss} (A : AskOk tab asked) {n : Str} (h : n ∈ reqF tab main scope asked) : eldK (eldsF tab main scope asked) n = (eldF tab main asked n).map (·.1) := by
  unfold eldK
  have nd := (reqF_ok (main := main) (scope := scope) A).nd
  rw [look_of (a := eldF tab main asked n) (by rw [elds_keys]; exact nd) (by unfold eldsF; exact List.mem_map.mpr ⟨n, h, rfl⟩)]
  rfl
theorem elds_no {tab : Tab} {main : Str} {scope : List Str} {asked : Dss} {n : Str} (h : n ∉ reqF tab main scope asked) : eldK (eldsF tab main scope asked) n = [] := by
  unfold eldK
  rw [look_none (by rw [elds_keys]; exact h)]
  rfl
theorem least_fits {tab : Tab} {main : Str} {scope : List Str} {asked : Dss} (A : AskOk tab asked) {R : List Str} (h : leastF tab main scope asked = .tup [.str "order", LS R]) :
    undefF tab asked = none ∧ coverF tab main asked = none ∧ R.Perm (reqF tab main scope asked) ∧ Fits tab main scope asked R := by
  have hR := reqF_ok (main := main) (scope := scope) A
  unfold leastF at h
  split at h
  · injection h with h
    injection h with h
    injection h with h
    exact absurd h (by decide +kernel)
  · rename_i hu
    split at h
    · injection h with h
      injection h with h
      injection h with h
      exact absurd h (by decide +kernel)
    · rename_i hc
      have hp : R.Perm (reqF tab main scope asked) := by
        rcases arrF_is (eldsF tab main scope asked) with ⟨R', h1, h2⟩ | ⟨l, h1⟩
        · rw [h1] at h
          cases ord_inj h
          rw [elds_keys] at h2
          exact h2
        · rw [h1] at h
          exact (ring_ord h).elim
      refine ⟨hu, hc, hp, fun x hx => hp.mem_iff.mpr hx, fun a y b hrow z hz => ?_⟩
      have hyr : y ∈ reqF tab main scope asked := hp.mem_iff.mp (by rw [hrow]; simp)
      have B : Behind (eldK (eldsF tab main scope asked)) R := by
        unfold arrF at h
        refine arrN_old _ _ _ _ _ (by rw [sortS_len]; simp) ((sortS_perm _).nodup_iff.mpr (by rw [elds_keys]; exact hR.nd)) (fun n hn z hz => .inl ?_) (fun a y b e => by simp at e) h
        rw [elds_keys] at hn ⊢
        have hn := sortS_mem.mp hn
        rw [elds_look A hn] at hz
        exact sortS_mem.mpr (req_closed A hn (eldF_mem.mp hz))
      exact B a y b hrow z (by rw [elds_look A hyr]; exact eldF_mem.mpr hz)
theorem fits_least {tab : Tab} {main : Str} {scope row : List Str} {asked : Dss} (A : AskOk tab asked) (hu : undefF tab asked = none) (hc : coverF tab main asked = none) (F : Fits tab main scope asked row) : ∃ R, leastF tab main scope asked = .tup [.str "order", LS R] := by
  have hR := reqF_ok (main := main) (scope := scope) A
  unfold leastF
  rw [hu, hc]
  dsimp only
  unfold arrF
  refine arrN_done _ (rho := row) (fun a y b e z hz => ?_) _ _ _ (by rw [sortS_len]; simp) ((sortS_perm _).nodup_iff.mpr (by rw [elds_keys]; exact hR.nd)) fun x hx => F.req x (by
    have := sortS_mem.mp hx
    rw [elds_keys] at this
    exact this)
  by_cases q : y ∈ reqF tab main scope asked
  · rw [elds_look A q] at hz
    exact F.old a y b e z (eldF_mem.mp hz)
  · rw [elds_no q] at hz
    cases hz
/-! ### all rows of distinct items -/
def lastF (some_ : List Str) : Nat → List (List Str)
  | 0 => [[]]
  | k + 1 => (lastF some_ k).flatMap fun row => (some_.filter fun x => decide (x ∉ row)).map fun x => row ++ [x]
def foundF (some_ : List Str) : Nat → List (List Str)
  | 0 => [[]]
  | k + 1 => foundF some_ k ++ lastF some_ (k + 1)
theorem last_mem {some_ : List Str} : ∀ {k : Nat} {row : List Str}, row ∈ lastF some_ k ↔ row.Nodup ∧ (∀ x ∈ row, x ∈ some_) ∧ row.length = k
  | 0, row => by
    unfold lastF
    rw [List.mem_singleton]
    constructor
    · rintro rfl
      exact ⟨List.nodup_nil, fun x h => (by cases h), rfl⟩
    · rintro ⟨_, _, h⟩
      exact List.eq_nil_of_length_eq_zero h
  | k + 1, row => by
    unfold lastF
    rw [List.mem_flatMap]
    constructor
    · rintro ⟨r, h1, h2⟩
      obtain ⟨x, h3, rfl⟩ := List.mem_map.mp h2
      obtain ⟨h4, h5⟩ := List.mem_filter.mp h3
      obtain ⟨a, b, c⟩ := last_mem.mp h1
      refine ⟨app_nd a (by simpa using h5), fun y hy => ?_, by simp [c]⟩
      rcases List.mem_append.mp hy with q | q
      · exact b y q
      · rw [List.mem_singleton.mp q]
        exact h4
    · rintro ⟨a, b, c⟩
      rcases List.eq_nil_or_concat row with rfl | ⟨r, x, rfl⟩
      · cases c
      · rw [List.concat_eq_append] at a b c ⊢
        obtain ⟨n1, n2, n3⟩ := List.nodup_append.mp a
        refine ⟨r, last_mem.mpr ⟨n1, fun y hy => b y (List.mem_append_left _ hy), by simpa using c⟩, List.mem_map.mpr ⟨x, List.mem_filter.mpr ⟨b x (by simp), ?_⟩, rfl⟩⟩
        have : x ∉ r := fun hx => n3 x hx x List.mem_cons_self rfl
        simpa using this
theorem found_mem {some_ : List Str} : ∀ {k : Nat} {row : List Str}, row ∈ foundF some_ k ↔ row.Nodup ∧ (∀ x ∈ row, x ∈ some_) ∧ row.length ≤ k
  | 0, row => by
    have := last_mem (some_ := some_) (k := 0) (row := row)
    unfold lastF at this
    unfold foundF
    rw [this, Nat.le_zero]
  | k + 1, row => by
    unfold foundF
    rw [List.mem_append, found_mem, last_mem]
    constructor
    · rintro (⟨a, b, c⟩ | ⟨a, b, c⟩)
      · exact ⟨a, b, by omega⟩
      · exact ⟨a, b, by omega⟩
    · rintro ⟨a, b, c⟩
      by_cases q : row.length = k + 1
      · exact .inr ⟨a, b, q⟩
      · exact .inl ⟨a, b, by omega⟩
theorem last_len {some_ : List Str} : ∀ k, (lastF some_ k).length ≤ some_.length ^ k
  | 0 => by simp [lastF]
  | k + 1 => by
    have ih := last_len (some_ := some_) k
    unfold lastF
    have go : ∀ l : List (List Str), (l.flatMap fun row => (some_.filter fun x => decide (x ∉ row)).map fun x => row ++ [x]).length ≤ l.length * some_.length := by
      intro l
      induction l with
      | nil => simp
      | cons r l ih =>
        rw [List.flatMap_cons, List.length_append, List.length_cons, List.length_map, Nat.succ_mul]
        have := List.length_filter_le (fun x => decide (x ∉ r)) some_
        omega
    refine Nat.le_trans (go _) ?_
    rw [Nat.pow_succ]
    exact Nat.mul_le_mul_right _ ih
end Mf


set_option Elab.async false
set_option linter.all false
set_option maxRecDepth 100000
set_option maxHeartbeats 4000000
namespace Mf
open PySem PySem.Spec PyProof.Rows L2 Sb
open PySem.W (AlikeAll minD alike alikeAll dataLt)
/-! ### the order is the least one -/
/-- each one is the least of itself and those behind it that may stand there -/
def LeastRow (e : Eld) (t : List Str) : Prop := ∀ a y b, t = a ++ y :: b → (∀ z ∈ eldK e y, z ∉ y :: b) ∧ ∀ w ∈ y :: b, (∀ z ∈ eldK e w, z ∉ y :: b) → leS y w = true
theorem leS_refl (a : Str) : leS a a = true := by rw [leS_lt, ltS_irr]; rfl
theorem arrN_least (e : Eld) : ∀ (f : Nat) (left row R : List Str), left.length = f → left.Nodup → left.Pairwise (fun a b => leS a b = true) → arrN e f left row = .tup [.str "order", LS R] →
    ∃ t, R = row ++ t ∧ t.Perm left ∧ LeastRow e t
  | 0, left, row, R, hl, nd, pw, h => by
    have : left = [] := List.eq_nil_of_length_eq_zero hl
    subst this
    unfold arrN at h
    cases ord_inj h
    exact ⟨[], by simp, List.Perm.refl _, fun a y b e => by simp at e⟩
  | f + 1, left, row, R, hl, nd, pw, h => by
    unfold arrN at h
    split at h
    · rename_i q
      subst q
      cases hl
    · split at h
      · exact (ring_ord h).elim
      · rename_i n r hn
        have hr : n ∈ readyF e left := by rw [hn]; exact List.mem_cons_self
        obtain ⟨h1, h2⟩ := ready_mem.mp hr
        obtain ⟨t, e1, p1, l1⟩ := arrN_least e f (left.erase n) (row ++ [n]) R (by rw [List.length_erase_of_mem h1]; omega) (nd.erase n) (pw.sublist List.erase_sublist) h
        have pm : (n :: t).Perm left := (List.Perm.cons n p1).trans (List.perm_cons_erase h1).symm
        refine ⟨n :: t, by rw [e1, List.append_assoc]; rfl, pm, fun a y b e2 => ?_⟩
        cases a with
        | nil =>
          cases e2
          refine ⟨fun z hz hm => h2 z hz (pm.mem_iff.mp hm), fun w hw hz => ?_⟩
          have hwr : w ∈ readyF e left := ready_mem.mpr ⟨pm.mem_iff.mp hw, fun z hz' hm => hz z hz' (pm.mem_iff.mpr hm)⟩
          have pr : (readyF e left).Pairwise (fun a b => leS a b = true) := pw.sublist List.filter_sublist
          rw [hn] at pr hwr
          rcases List.mem_cons.mp hwr with e3 | h3
          · rw [e3]
            exact leS_refl n
          · exact (List.pairwise_cons.mp pr).1 w h3
        | cons m a =>
          cases e2
          exact l1 a y b rfl
/-- two rows of the same items: the least one, and one in which each stands behind its elders -/
theorem least_lt (e : Eld) : ∀ (t u : List Str), t.Nodup → u.Nodup → (∀ x, x ∈ t ↔ x ∈ u) → LeastRow e t → (∀ a y b, u = a ++ y :: b → ∀ z ∈ eldK e y, z ∉ y :: b) → u ≠ t → ltR t u = true
  | [], u, nt, nu, hm, hl, hu, ne => by
    cases u with
    | nil => exact absurd rfl ne
    | cons w c => exact absurd ((hm w).mpr List.mem_cons_self) (by simp)
  | y :: b, u, nt, nu, hm, hl, hu, ne => by
    cases u with
    | nil => exact absurd ((hm y).mp List.mem_cons_self) (by simp)
    | cons w c =>
      obtain ⟨n1, n2⟩ := List.nodup_cons.mp nt
      obtain ⟨m1, m2⟩ := List.nodup_cons.mp nu
      rw [ltR]
      by_cases q : y = w
      · subst q
        rw [if_pos rfl]
        refine least_lt e b c n2 m2 (fun x => ?_) (fun a z d e1 => hl (y :: a) z d (by rw [e1]; rfl)) (fun a z d e1 => hu (y :: a) z d (by rw [e1]; rfl)) fun e1 => ne (by rw [e1])
        have := hm x
        rw [List.mem_cons, List.mem_cons] at this
        constructor
        · intro hx
          rcases this.mp (.inr hx) with e1 | h1
          · exact absurd hx (e1 ▸ n1)
          · exact h1
        · intro hx
          rcases this.mpr (.inr hx) with e1 | h1
          · exact absurd hx (e1 ▸ m1)
          · exact h1
      · rw [if_neg q]
        refine ltS_of ((hl [] y b rfl).2 w ((hm w).mpr List.mem_cons_self) fun z hz hzm => ?_) q
        exact hu [] w c rfl z hz ((hm z).mp hzm)
/-! ### the same for the wishes -/
theorem least_row {tab : Tab} {main : Str} {scope : List Str} {asked : Dss} (A : AskOk tab asked) {R : List Str} (h : leastF tab main scope asked = .tup [.str "order", LS R]) : LeastRow (eldsF tab main scope asked) R := by
  have hR := reqF_ok (main := main) (scope := scope) A
  obtain ⟨hu, hc, _, _⟩ := least_fits A h
  unfold leastF at h
  rw [hu, hc] at h
  dsimp only at h
  unfold arrF at h
  obtain ⟨t, e1, _, l1⟩ := arrN_least _ _ _ _ _ (by rw [sortS_len]; simp) ((sortS_perm _).nodup_iff.mpr (by rw [elds_keys]; exact hR.nd)) (sortS_pw _) h
  rw [List.nil_append] at e1
  rw [e1]
  exact l1
/-- none of these must stand ahead of w -/
theorem ahead_nil {tab : Tab} {main : Str} {asked : Dss} {S : List Str} {w : Str} (hm : main ∉ S) : aheadL tab asked S w = [] ↔ ∀ z, Ahead tab main asked w z → z ∉ S := by
  rw [List.eq_nil_iff_forall_not_mem]
  constructor
  · rintro h z ⟨s, h1, h2, h3, h4⟩ hz
    exact h z (ahead_mem.mpr ⟨s, h1, h2, h3, hz⟩)
  · intro h z hz
    obtain ⟨s, h1, h2, h3, h4⟩ := ahead_mem.mp hz
    exact h z ⟨s, h1, h2, h3, fun e => hm (e ▸ h4)⟩ h4
theorem minS_is {r d : Str} {ds : List Str} (hm : r ∈ d :: ds) (h : ∀ y ∈ d :: ds, leS r y = true) : minD (.str d) (ds.map .str) = .str r := by
  have e : ∀ {x : PyData}, x ∈ PyData.str d :: ds.map .str → ∃ y ∈ d :: ds, x = .str y := fun hx => by
    rw [← List.map_cons] at hx
    obtain ⟨y, h1, h2⟩ := List.mem_map.mp hx
    exact ⟨y, h1, h2.symm⟩
  refine minD_is ?_ (fun x hx n => ?_) ?_
  · rw [← List.map_cons]
    exact List.mem_map.mpr ⟨r, hm, rfl⟩
  · obtain ⟨y, h1, rfl⟩ := e hx
    have hlt := ltS_of (h y h1) fun e => n (by rw [e])
    exact ⟨by rw [dlt_str]; exact hlt, by rw [dlt_str]; exact ltS_asym hlt⟩
  · rw [dlt_str]
    exact ltS_irr r
theorem minR_is {r d : List Str} {ds : List (List Str)} (hm : r ∈ d :: ds) (hl : ∀ y ∈ d :: ds, y.length = r.length) (h : ∀ y ∈ d :: ds, y ≠ r → ltR r y = true) :
    minD (.tuple (d.map .str)) (ds.map fun y => .tuple (y.map .str)) = .tuple (r.map .str) := by
  have e : ∀ {x : PyData}, x ∈ PyData.tuple (d.map .str) :: ds.map (fun y => PyData.tuple (y.map .str)) → ∃ y ∈ d :: ds, x = .tuple (y.map .str) := fun {x} hx => by
    have hx : x ∈ (d :: ds).map fun y => PyData.tuple (y.map .str) := hx
    obtain ⟨y, h1, h2⟩ := List.mem_map.mp hx
    exact ⟨y, h1, h2.symm⟩
  refine minD_is ?_ (fun x hx n => ?_) ?_
  · show _ ∈ (d :: ds).map fun y => PyData.tuple (y.map .str)
    exact List.mem_map.mpr ⟨r, hm, rfl⟩
  · obtain ⟨y, h1, rfl⟩ := e hx
    have hlt := h y h1 fun e => n (by rw [e])
    have l1 := hl y h1
    exact ⟨by rw [dlt_row l1.symm]; exact hlt, by rw [dlt_row l1]; exact ltR_asym hlt⟩
  · rw [dlt_row rfl]
    exact ltR_irr r
theorem alike_strs (ws : List Str) : alikeB (ws.map .str) = true := by
  unfold alikeB
  rw [Bool.and_eq_true, List.all_eq_true, List.all_eq_true]
  refine ⟨fun x hx => ?_, fun x hx => ?_⟩
  · obtain ⟨a, _, rfl⟩ := List.mem_map.mp hx
    rw [List.all_eq_true]
    intro y hy
    obtain ⟨b, _, rfl⟩ := List.mem_map.mp hy
    rw [alike]
  · obtain ⟨a, _, rfl⟩ := List.mem_map.mp hx
    rfl
theorem alikeAll_strs : ∀ (a b : List Str), alikeAll (a.map .str) (b.map .str) = true
  | x :: xs, y :: ys => by rw [List.map_cons, List.map_cons, alikeAll, alikeAll_strs xs ys, alike]; rfl
  | [], b => by rw [List.map_nil, alikeAll]
  | x :: xs, [] => by rw [List.map_nil, List.map_cons, alikeAll]
theorem alike_rows (rows : List (List Str)) : alikeB (rows.map fun y => .tuple (y.map .str)) = true := by
  unfold alikeB
  rw [Bool.and_eq_true, List.all_eq_true, List.all_eq_true]
  refine ⟨fun x hx => ?_, fun x hx => ?_⟩
  · obtain ⟨a, _, rfl⟩ := List.mem_map.mp hx
    rw [List.all_eq_true]
    intro y hy
    obtain ⟨b, _, rfl⟩ := List.mem_map.mp hy
    rw [alike]
    exact alikeAll_strs a b
  · obtain ⟨a, _, rfl⟩ := List.mem_map.mp hx
    rfl
end Mf


set_option Elab.async false
set_option linter.all false
set_option maxRecDepth 100000
set_option maxHeartbeats 4000000
namespace Sb
open PySem L2
def top (i : Nat) : Stmt := PySem.Challenge.pw_scopebind_k72_least_orders_of_preloads.main.body.getD i (.Pass ⟨0, 0, 0, 0⟩)
abbrev s_NoLibrary___init__ : Stmt := inClass (top 2) 0
abbrev ps_NoLibrary___init__ : List Str := ["self", "part"]
abbrev ns_NoLibrary___init__ : List Str := ["self", "part"]
theorem sc_NoLibrary___init__ : FnScope ["self", "part"] ["self", "part"] (defScope s_NoLibrary___init__) := ⟨rfl, rfl, rfl, by decide +kernel, rfl, by decide +kernel, by decide +kernel⟩
def d_NoLibrary___init__ : He.DefD := ⟨("NoLibrary", some "__init__"), "__init__", "NoLibrary.__init__", defArgs s_NoLibrary___init__, defBody s_NoLibrary___init__, defScope s_NoLibrary___init__, [], []⟩
abbrev s_NoStore___init__ : Stmt := inClass (top 3) 0
abbrev ps_NoStore___init__ : List Str := ["self", "at"]
abbrev ns_NoStore___init__ : List Str := ["self", "at"]
theorem sc_NoStore___init__ : FnScope ["self", "at"] ["self", "at"] (defScope s_NoStore___init__) := ⟨rfl, rfl, rfl, by decide +kernel, rfl, by decide +kernel, by decide +kernel⟩
def d_NoStore___init__ : He.DefD := ⟨("NoStore", some "__init__"), "__init__", "NoStore.__init__", defArgs s_NoStore___init__, defBody s_NoStore___init__, defScope s_NoStore___init__, [], []⟩
abbrev s_NoName___init__ : Stmt := inClass (top 4) 0
abbrev ps_NoName___init__ : List Str := ["self", "name"]
abbrev ns_NoName___init__ : List Str := ["self", "name"]
theorem sc_NoName___init__ : FnScope ["self", "name"] ["self", "name"] (defScope s_NoName___init__) := ⟨rfl, rfl, rfl, by decide +kernel, rfl, by decide +kernel, by decide +kernel⟩
def d_NoName___init__ : He.DefD := ⟨("NoName", some "__init__"), "__init__", "NoName.__init__", defArgs s_NoName___init__, defBody s_NoName___init__, defScope s_NoName___init__, [], []⟩
abbrev s_Missing___init__ : Stmt := inClass (top 5) 0
abbrev ps_Missing___init__ : List Str := ["self", "name"]
abbrev ns_Missing___init__ : List Str := ["self", "name"]
theorem sc_Missing___init__ : FnScope ["self", "name"] ["self", "name"] (defScope s_Missing___init__) := ⟨rfl, rfl, rfl, by decide +kernel, rfl, by decide +kernel, by decide +kernel⟩
def d_Missing___init__ : He.DefD := ⟨("Missing", some "__init__"), "__init__", "Missing.__init__", defArgs s_Missing___init__, defBody s_Missing___init__, defScope s_Missing___init__, [], []⟩
abbrev s_NoWishes___init__ : Stmt := inClass (top 6) 0
abbrev ps_NoWishes___init__ : List Str := ["self", "symbol"]
abbrev ns_NoWishes___init__ : List Str := ["self", "symbol"]
theorem sc_NoWishes___init__ : FnScope ["self", "symbol"] ["self", "symbol"] (defScope s_NoWishes___init__) := ⟨rfl, rfl, rfl, by decide +kernel, rfl, by decide +kernel, by decide +kernel⟩
def d_NoWishes___init__ : He.DefD := ⟨("NoWishes", some "__init__"), "__init__", "NoWishes.__init__", defArgs s_NoWishes___init__, defBody s_NoWishes___init__, defScope s_NoWishes___init__, [], []⟩
abbrev s_is_word : Stmt := top 9
abbrev ps_is_word : List Str := ["thing"]
abbrev ns_is_word : List Str := ["thing", "letter"]
theorem sc_is_word : FnScope ["thing", "letter"] ["thing"] (defScope s_is_word) := ⟨rfl, rfl, rfl, by decide +kernel, rfl, by decide +kernel, by decide +kernel⟩
def d_is_word : He.DefD := ⟨("is_word", none), "is_word", "is_word", defArgs s_is_word, defBody s_is_word, defScope s_is_word, [], []⟩
abbrev s_are_words : Stmt := top 10
abbrev ps_are_words : List Str := ["thing", "most"]
abbrev ns_are_words : List Str := ["thing", "most", "item", "word"]
theorem sc_are_words : FnScope ["thing", "most", "item", "word"] ["thing", "most"] (defScope s_are_words) := ⟨rfl, rfl, rfl, by decide +kernel, rfl, by decide +kernel, by decide +kernel⟩
def d_are_words : He.DefD := ⟨("are_words", none), "are_words", "are_words", defArgs s_are_words, defBody s_are_words, defScope s_are_words, [], []⟩
abbrev s_closure : Stmt := top 12
abbrev ps_closure : List Str := ["store", "name"]
abbrev ns_closure : List Str := ["store", "name", "found", "at", "library", "need"]
theorem sc_closure : FnScope ["store", "name", "found", "at", "library", "need"] ["store", "name"] (defScope s_closure) := ⟨rfl, rfl, rfl, by decide +kernel, rfl, by decide +kernel, by decide +kernel⟩
def d_closure : He.DefD := ⟨("closure", none), "closure", "closure", defArgs s_closure, defBody s_closure, defScope s_closure, [], []⟩
abbrev s_first_definer : Stmt := top 14
abbrev ps_first_definer : List Str := ["store", "some", "symbol"]
abbrev ns_first_definer : List Str := ["store", "some", "symbol", "name"]
theorem sc_first_definer : FnScope ["store", "some", "symbol", "name"] ["store", "some", "symbol"] (defScope s_first_definer) := ⟨rfl, rfl, rfl, by decide +kernel, rfl, by decide +kernel, by decide +kernel⟩
def d_first_definer : He.DefD := ⟨("first_definer", none), "first_definer", "first_definer", defArgs s_first_definer, defBody s_first_definer, defScope s_first_definer, [], []⟩
abbrev s_check_wishes : Stmt := top 16
abbrev ps_check_wishes : List Str := ["store", "wishes"]
abbrev ns_check_wishes : List Str := ["store", "wishes", "symbol"]
theorem sc_check_wishes : FnScope ["store", "wishes", "symbol"] ["store", "wishes"] (defScope s_check_wishes) := ⟨rfl, rfl, rfl, by decide +kernel, rfl, by decide +kernel, by decide +kernel⟩
def d_check_wishes : He.DefD := ⟨("check_wishes", none), "check_wishes", "check_wishes", defArgs s_check_wishes, defBody s_check_wishes, defScope s_check_wishes, [], []⟩
abbrev s_least_preloads : Stmt := top 17
abbrev ps_least_preloads : List Str := ["store", "main", "wishes"]
abbrev ns_least_preloads : List Str := ["store", "main", "wishes", "scope", "symbol", "elders", "name"]
theorem sc_least_preloads : FnScope ["store", "main", "wishes", "scope", "symbol", "elders", "name"] ["store", "main", "wishes"] (defScope s_least_preloads) := ⟨rfl, rfl, rfl, by decide +kernel, rfl, by decide +kernel, by decide +kernel⟩
def d_least_preloads : He.DefD := ⟨("least_preloads", none), "least_preloads", "least_preloads", defArgs s_least_preloads, defBody s_least_preloads, defScope s_least_preloads, [], []⟩
abbrev s_elders_of : Stmt := top 18
abbrev ps_elders_of : List Str := ["store", "main", "wishes", "name"]
abbrev ns_elders_of : List Str := ["store", "main", "wishes", "name", "found", "symbol", "elder"]
theorem sc_elders_of : FnScope ["store", "main", "wishes", "name", "found", "symbol", "elder"] ["store", "main", "wishes", "name"] (defScope s_elders_of) := ⟨rfl, rfl, rfl, by decide +kernel, rfl, by decide +kernel, by decide +kernel⟩
def d_elders_of : He.DefD := ⟨("elders_of", none), "elders_of", "elders_of", defArgs s_elders_of, defBody s_elders_of, defScope s_elders_of, [], []⟩
abbrev s_required : Stmt := top 19
abbrev ps_required : List Str := ["store", "main", "scope", "wishes"]
abbrev ns_required : List Str := ["store", "main", "scope", "wishes", "found", "symbol", "at", "here", "elder"]
theorem sc_required : FnScope ["store", "main", "scope", "wishes", "found", "symbol", "at", "here", "elder"] ["store", "main", "scope", "wishes"] (defScope s_required) := ⟨rfl, rfl, rfl, by decide +kernel, rfl, by decide +kernel, by decide +kernel⟩
def d_required : He.DefD := ⟨("required", none), "required", "required", defArgs s_required, defBody s_required, defScope s_required, [], []⟩
abbrev s_arranged : Stmt := top 20
abbrev ps_arranged : List Str := ["elders"]
abbrev ns_arranged : List Str := ["elders", "left", "row", "ready", "name", "elder"]
theorem sc_arranged : FnScope ["elders", "left", "row", "ready", "name", "elder"] ["elders"] (defScope s_arranged) := ⟨rfl, rfl, rfl, by decide +kernel, rfl, by decide +kernel, by decide +kernel⟩
def d_arranged : He.DefD := ⟨("arranged", none), "arranged", "arranged", defArgs s_arranged, defBody s_arranged, defScope s_arranged, [], []⟩
abbrev s_ring_of : Stmt := top 21
abbrev ps_ring_of : List Str := ["elders", "left"]
abbrev ns_ring_of : List Str := ["elders", "left", "row", "elder", "ring", "name", "younger"]
theorem sc_ring_of : FnScope ["elders", "left", "row", "elder", "ring", "name", "younger"] ["elders", "left"] (defScope s_ring_of) := ⟨rfl, rfl, rfl, by decide +kernel, rfl, by decide +kernel, by decide +kernel⟩
def d_ring_of : He.DefD := ⟨("ring_of", none), "ring_of", "ring_of", defArgs s_ring_of, defBody s_ring_of, defScope s_ring_of, [], []⟩
abbrev s_first_elder : Stmt := top 22
abbrev ps_first_elder : List Str := ["elders", "left", "name"]
abbrev ns_first_elder : List Str := ["elders", "left", "name", "elder"]
theorem sc_first_elder : FnScope ["elders", "left", "name", "elder"] ["elders", "left", "name"] (defScope s_first_elder) := ⟨rfl, rfl, rfl, by decide +kernel, rfl, by decide +kernel, by decide +kernel⟩
def d_first_elder : He.DefD := ⟨("first_elder", none), "first_elder", "first_elder", defArgs s_first_elder, defBody s_first_elder, defScope s_first_elder, [], []⟩
abbrev s_Library___init__ : Stmt := inClass (top 27) 0
abbrev ps_Library___init__ : List Str := ["self", "name", "needs", "defines", "uses", "weak", "eager", "own_first"]
abbrev ns_Library___init__ : List Str := ["self", "name", "needs", "defines", "uses", "weak", "eager", "own_first", "symbol"]
theorem sc_Library___init__ : FnScope ["self", "name", "needs", "defines", "uses", "weak", "eager", "own_first", "symbol"] ["self", "name", "needs", "defines", "uses", "weak", "eager", "own_first"] (defScope s_Library___init__) := ⟨rfl, rfl, rfl, by decide +kernel, rfl, by decide +kernel, by decide +kernel⟩
def d_Library___init__ : He.DefD := ⟨("Library", some "__init__"), "__init__", "Library.__init__", defArgs s_Library___init__, defBody s_Library___init__, defScope s_Library___init__, [], [("needs", .adr (kwAt ("Library", some "__init__") "needs")), ("defines", .adr (kwAt ("Library", some "__init__") "defines")), ("uses", .adr (kwAt ("Library", some "__init__") "uses")), ("weak", .adr (kwAt ("Library", some "__init__") "weak")), ("eager", .bl false), ("own_first", .bl false)]⟩
abbrev s_Library___eq__ : Stmt := inClass (top 27) 1
abbrev ps_Library___eq__ : List Str := ["self", "other"]
abbrev ns_Library___eq__ : List Str := ["self", "other"]
theorem sc_Library___eq__ : FnScope ["self", "other"] ["self", "other"] (defScope s_Library___eq__) := ⟨rfl, rfl, rfl, by decide +kernel, rfl, by decide +kernel, by decide +kernel⟩
def d_Library___eq__ : He.DefD := ⟨("Library", some "__eq__"), "__eq__", "Library.__eq__", defArgs s_Library___eq__, defBody s_Library___eq__, defScope s_Library___eq__, [], []⟩
abbrev s_Store___init__ : Stmt := inClass (top 28) 0
abbrev ps_Store___init__ : List Str := ["self", "libraries"]
abbrev ns_Store___init__ : List Str := ["self", "libraries", "table", "at", "library"]
theorem sc_Store___init__ : FnScope ["self", "libraries", "table", "at", "library"] ["self", "libraries"] (defScope s_Store___init__) := ⟨rfl, rfl, rfl, by decide +kernel, rfl, by decide +kernel, by decide +kernel⟩
def d_Store___init__ : He.DefD := ⟨("Store", some "__init__"), "__init__", "Store.__init__", defArgs s_Store___init__, defBody s_Store___init__, defScope s_Store___init__, [], []⟩
abbrev s_Store___contains__ : Stmt := inClass (top 28) 1
abbrev ps_Store___contains__ : List Str := ["self", "x"]
abbrev ns_Store___contains__ : List Str := ["self", "x"]
theorem sc_Store___contains__ : FnScope ["self", "x"] ["self", "x"] (defScope s_Store___contains__) := ⟨rfl, rfl, rfl, by decide +kernel, rfl, by decide +kernel, by decide +kernel⟩
def d_Store___contains__ : He.DefD := ⟨("Store", some "__contains__"), "__contains__", "Store.__contains__", defArgs s_Store___contains__, defBody s_Store___contains__, defScope s_Store___contains__, [], []⟩
abbrev s_Store___getitem__ : Stmt := inClass (top 28) 2
abbrev ps_Store___getitem__ : List Str := ["self", "at"]
abbrev ns_Store___getitem__ : List Str := ["self", "at"]
theorem sc_Store___getitem__ : FnScope ["self", "at"] ["self", "at"] (defScope s_Store___getitem__) := ⟨rfl, rfl, rfl, by decide +kernel, rfl, by decide +kernel, by decide +kernel⟩
def d_Store___getitem__ : He.DefD := ⟨("Store", some "__getitem__"), "__getitem__", "Store.__getitem__", defArgs s_Store___getitem__, defBody s_Store___getitem__, defScope s_Store___getitem__, [], []⟩
abbrev s_Store___iter__ : Stmt := inClass (top 28) 3
abbrev ps_Store___iter__ : List Str := ["self"]
abbrev ns_Store___iter__ : List Str := ["self"]
theorem sc_Store___iter__ : FnScope ["self"] ["self"] (defScope s_Store___iter__) := ⟨rfl, rfl, rfl, by decide +kernel, rfl, by decide +kernel, by decide +kernel⟩
def d_Store___iter__ : He.DefD := ⟨("Store", some "__iter__"), "__iter__", "Store.__iter__", defArgs s_Store___iter__, defBody s_Store___iter__, defScope s_Store___iter__, [], []⟩
abbrev s_Store___len__ : Stmt := inClass (top 28) 4
abbrev ps_Store___len__ : List Str := ["self"]
abbrev ns_Store___len__ : List Str := ["self"]
theorem sc_Store___len__ : FnScope ["self"] ["self"] (defScope s_Store___len__) := ⟨rfl, rfl, rfl, by decide +kernel, rfl, by decide +kernel, by decide +kernel⟩
def d_Store___len__ : He.DefD := ⟨("Store", some "__len__"), "__len__", "Store.__len__", defArgs s_Store___len__, defBody s_Store___len__, defScope s_Store___len__, [], []⟩
abbrev s__law_cell_at : Stmt := top 30
abbrev ps__law_cell_at : List Str := ["_law_script", "_law_k"]
abbrev ns__law_cell_at : List Str := ["_law_script", "_law_k"]
theorem sc__law_cell_at : FnScope ["_law_script", "_law_k"] ["_law_script", "_law_k"] (defScope s__law_cell_at) := ⟨rfl, rfl, rfl, by decide +kernel, rfl, by decide +kernel, by decide +kernel⟩
def d__law_cell_at : He.DefD := ⟨("_law_cell_at", none), "_law_cell_at", "_law_cell_at", defArgs s__law_cell_at, defBody s__law_cell_at, defScope s__law_cell_at, [], []⟩
abbrev s__law_begin : Stmt := top 31
abbrev ps__law_begin : List Str := ["_law_cell"]
abbrev ns__law_begin : List Str := ["_law_cell"]
theorem sc__law_begin : FnScope ["_law_cell"] ["_law_cell"] (defScope s__law_begin) := ⟨rfl, rfl, rfl, by decide +kernel, rfl, by decide +kernel, by decide +kernel⟩
def d__law_begin : He.DefD := ⟨("_law_begin", none), "_law_begin", "_law_begin", defArgs s__law_begin, defBody s__law_begin, defScope s__law_begin, [], []⟩
abbrev s__law_draw : Stmt := top 32
abbrev ps__law_draw : List Str := ["_law_source", "_law_many"]
abbrev ns__law_draw : List Str := ["_law_source", "_law_many", "_law_found", "_law_figure"]
theorem sc__law_draw : FnScope ["_law_source", "_law_many", "_law_found", "_law_figure"] ["_law_source", "_law_many"] (defScope s__law_draw) := ⟨rfl, rfl, rfl, by decide +kernel, rfl, by decide +kernel, by decide +kernel⟩
def d__law_draw : He.DefD := ⟨("_law_draw", none), "_law_draw", "_law_draw", defArgs s__law_draw, defBody s__law_draw, defScope s__law_draw, [], []⟩
abbrev s__law_pick : Stmt := top 33
abbrev ps__law_pick : List Str := ["_law_source", "_law_some"]
abbrev ns__law_pick : List Str := ["_law_source", "_law_some"]
theorem sc__law_pick : FnScope ["_law_source", "_law_some"] ["_law_source", "_law_some"] (defScope s__law_pick) := ⟨rfl, rfl, rfl, by decide +kernel, rfl, by decide +kernel, by decide +kernel⟩
def d__law_pick : He.DefD := ⟨("_law_pick", none), "_law_pick", "_law_pick", defArgs s__law_pick, defBody s__law_pick, defScope s__law_pick, [], []⟩
abbrev s__law_part : Stmt := top 34
abbrev ps__law_part : List Str := ["_law_source", "_law_some", "_law_rare"]
abbrev ns__law_part : List Str := ["_law_source", "_law_some", "_law_rare", "_law_left", "_law_found", "_law_one"]
theorem sc__law_part : FnScope ["_law_source", "_law_some", "_law_rare", "_law_left", "_law_found", "_law_one"] ["_law_source", "_law_some", "_law_rare"] (defScope s__law_part) := ⟨rfl, rfl, rfl, by decide +kernel, rfl, by decide +kernel, by decide +kernel⟩
def d__law_part : He.DefD := ⟨("_law_part", none), "_law_part", "_law_part", defArgs s__law_part, defBody s__law_part, defScope s__law_part, [], []⟩
abbrev s__law_spelled : Stmt := top 35
abbrev ps__law_spelled : List Str := ["_law_source", "_law_many"]
abbrev ns__law_spelled : List Str := ["_law_source", "_law_many", "_law_letters", "_law_first", "_law_found", "_law_k", "_law_word", "_law_j"]
theorem sc__law_spelled : FnScope ["_law_source", "_law_many", "_law_letters", "_law_first", "_law_found", "_law_k", "_law_word", "_law_j"] ["_law_source", "_law_many"] (defScope s__law_spelled) := ⟨rfl, rfl, rfl, by decide +kernel, rfl, by decide +kernel, by decide +kernel⟩
def d__law_spelled : He.DefD := ⟨("_law_spelled", none), "_law_spelled", "_law_spelled", defArgs s__law_spelled, defBody s__law_spelled, defScope s__law_spelled, [], []⟩
abbrev s__law_library : Stmt := top 36
abbrev ps__law_library : List Str := ["_law_source", "_law_word", "_law_words", "_law_gone", "_law_signs"]
abbrev ns__law_library : List Str := ["_law_source", "_law_word", "_law_words", "_law_gone", "_law_signs", "_law_below", "_law_spot", "_law_made", "_law_used", "_law_soft", "_law_kinds", "_law_one"]
theorem sc__law_library : FnScope ["_law_source", "_law_word", "_law_words", "_law_gone", "_law_signs", "_law_below", "_law_spot", "_law_made", "_law_used", "_law_soft", "_law_kinds", "_law_one"] ["_law_source", "_law_word", "_law_words", "_law_gone", "_law_signs"] (defScope s__law_library) := ⟨rfl, rfl, rfl, by decide +kernel, rfl, by decide +kernel, by decide +kernel⟩
def d__law_library : He.DefD := ⟨("_law_library", none), "_law_library", "_law_library", defArgs s__law_library, defBody s__law_library, defScope s__law_library, [], []⟩
abbrev s__law_libraries : Stmt := top 37
abbrev ps__law_libraries : List Str := ["_law_source", "_law_most", "_law_signs"]
abbrev ns__law_libraries : List Str := ["_law_source", "_law_most", "_law_signs", "_law_words", "_law_found", "_law_word"]
theorem sc__law_libraries : FnScope ["_law_source", "_law_most", "_law_signs", "_law_words", "_law_found", "_law_word"] ["_law_source", "_law_most", "_law_signs"] (defScope s__law_libraries) := ⟨rfl, rfl, rfl, by decide +kernel, rfl, by decide +kernel, by decide +kernel⟩
def d__law_libraries : He.DefD := ⟨("_law_libraries", none), "_law_libraries", "_law_libraries", defArgs s__law_libraries, defBody s__law_libraries, defScope s__law_libraries, [], []⟩
abbrev s__law_stored : Stmt := top 38
abbrev ps__law_stored : List Str := ["_law_table"]
abbrev ns__law_stored : List Str := ["_law_table", "_law_made", "_law_word", "_law_row", "_law_below", "_law_makes", "_law_asks", "_law_soft"]
theorem sc__law_stored : FnScope ["_law_table", "_law_made", "_law_word", "_law_row", "_law_below", "_law_makes", "_law_asks", "_law_soft"] ["_law_table"] (defScope s__law_stored) := ⟨rfl, rfl, rfl, by decide +kernel, rfl, by decide +kernel, by decide +kernel⟩
def d__law_stored : He.DefD := ⟨("_law_stored", none), "_law_stored", "_law_stored", defArgs s__law_stored, defBody s__law_stored, defScope s__law_stored, [], []⟩
abbrev s__law_closed : Stmt := top 39
abbrev ps__law_closed : List Str := ["_law_table", "_law_word"]
abbrev ns__law_closed : List Str := ["_law_table", "_law_word", "_law_found", "_law_k", "_law_one"]
theorem sc__law_closed : FnScope ["_law_table", "_law_word", "_law_found", "_law_k", "_law_one"] ["_law_table", "_law_word"] (defScope s__law_closed) := ⟨rfl, rfl, rfl, by decide +kernel, rfl, by decide +kernel, by decide +kernel⟩
def d__law_closed : He.DefD := ⟨("_law_closed", none), "_law_closed", "_law_closed", defArgs s__law_closed, defBody s__law_closed, defScope s__law_closed, [], []⟩
abbrev s__law_complete : Stmt := top 40
abbrev ps__law_complete : List Str := ["_law_table"]
abbrev ns__law_complete : List Str := ["_law_table", "_law_word"]
theorem sc__law_complete : FnScope ["_law_table", "_law_word"] ["_law_table"] (defScope s__law_complete) := ⟨rfl, rfl, rfl, by decide +kernel, rfl, by decide +kernel, by decide +kernel⟩
def d__law_complete : He.DefD := ⟨("_law_complete", none), "_law_complete", "_law_complete", defArgs s__law_complete, defBody s__law_complete, defScope s__law_complete, [], []⟩
abbrev s__law_definer : Stmt := top 41
abbrev ps__law_definer : List Str := ["_law_table", "_law_some", "_law_sign"]
abbrev ns__law_definer : List Str := ["_law_table", "_law_some", "_law_sign", "_law_word"]
theorem sc__law_definer : FnScope ["_law_table", "_law_some", "_law_sign", "_law_word"] ["_law_table", "_law_some", "_law_sign"] (defScope s__law_definer) := ⟨rfl, rfl, rfl, by decide +kernel, rfl, by decide +kernel, by decide +kernel⟩
def d__law_definer : He.DefD := ⟨("_law_definer", none), "_law_definer", "_law_definer", defArgs s__law_definer, defBody s__law_definer, defScope s__law_definer, [], []⟩
abbrev s__law_wishes : Stmt := top 42
abbrev ps__law_wishes : List Str := ["_law_source", "_law_table", "_law_signs"]
abbrev ns__law_wishes : List Str := ["_law_source", "_law_table", "_law_signs", "_law_found", "_law_sign", "_law_makers", "_law_word"]
theorem sc__law_wishes : FnScope ["_law_source", "_law_table", "_law_signs", "_law_found", "_law_sign", "_law_makers", "_law_word"] ["_law_source", "_law_table", "_law_signs"] (defScope s__law_wishes) := ⟨rfl, rfl, rfl, by decide +kernel, rfl, by decide +kernel, by decide +kernel⟩
def d__law_wishes : He.DefD := ⟨("_law_wishes", none), "_law_wishes", "_law_wishes", defArgs s__law_wishes, defBody s__law_wishes, defScope s__law_wishes, [], []⟩
abbrev s__law_global : Stmt := top 43
abbrev ps__law_global : List Str := ["_law_table", "_law_first", "_law_early"]
abbrev ns__law_global : List Str := ["_law_table", "_law_first", "_law_early", "_law_found", "_law_one"]
theorem sc__law_global : FnScope ["_law_table", "_law_first", "_law_early", "_law_found", "_law_one"] ["_law_table", "_law_first", "_law_early"] (defScope s__law_global) := ⟨rfl, rfl, rfl, by decide +kernel, rfl, by decide +kernel, by decide +kernel⟩
def d__law_global : He.DefD := ⟨("_law_global", none), "_law_global", "_law_global", defArgs s__law_global, defBody s__law_global, defScope s__law_global, [], []⟩
abbrev s__law_met : Stmt := top 44
abbrev ps__law_met : List Str := ["_law_table", "_law_some", "_law_asked"]
abbrev ns__law_met : List Str := ["_law_table", "_law_some", "_law_asked", "_law_sign", "_law_word"]
theorem sc__law_met : FnScope ["_law_table", "_law_some", "_law_asked", "_law_sign", "_law_word"] ["_law_table", "_law_some", "_law_asked"] (defScope s__law_met) := ⟨rfl, rfl, rfl, by decide +kernel, rfl, by decide +kernel, by decide +kernel⟩
def d__law_met : He.DefD := ⟨("_law_met", none), "_law_met", "_law_met", defArgs s__law_met, defBody s__law_met, defScope s__law_met, [], []⟩
abbrev s__law_ahead : Stmt := top 45
abbrev ps__law_ahead : List Str := ["_law_table", "_law_asked", "_law_some", "_law_word"]
abbrev ns__law_ahead : List Str := ["_law_table", "_law_asked", "_law_some", "_law_word", "_law_found", "_law_sign", "_law_other"]
theorem sc__law_ahead : FnScope ["_law_table", "_law_asked", "_law_some", "_law_word", "_law_found", "_law_sign", "_law_other"] ["_law_table", "_law_asked", "_law_some", "_law_word"] (defScope s__law_ahead) := ⟨rfl, rfl, rfl, by decide +kernel, rfl, by decide +kernel, by decide +kernel⟩
def d__law_ahead : He.DefD := ⟨("_law_ahead", none), "_law_ahead", "_law_ahead", defArgs s__law_ahead, defBody s__law_ahead, defScope s__law_ahead, [], []⟩
abbrev s__law_orders : Stmt := top 46
abbrev ps__law_orders : List Str := ["_law_some"]
abbrev ns__law_orders : List Str := ["_law_some", "_law_found", "_law_last", "_law_turn", "_law_longer", "_law_row", "_law_one"]
theorem sc__law_orders : FnScope ["_law_some", "_law_found", "_law_last", "_law_turn", "_law_longer", "_law_row", "_law_one"] ["_law_some"] (defScope s__law_orders) := ⟨rfl, rfl, rfl, by decide +kernel, rfl, by decide +kernel, by decide +kernel⟩
def d__law_orders : He.DefD := ⟨("_law_orders", none), "_law_orders", "_law_orders", defArgs s__law_orders, defBody s__law_orders, defScope s__law_orders, [], []⟩
abbrev s__law_order_right : Stmt := top 47
abbrev ps__law_order_right : List Str := ["_law_table", "_law_first", "_law_asked", "_law_some"]
abbrev ns__law_order_right : List Str := ["_law_table", "_law_first", "_law_asked", "_law_some", "_law_k", "_law_free", "_law_rows", "_law_word", "_law_row"]
theorem sc__law_order_right : FnScope ["_law_table", "_law_first", "_law_asked", "_law_some", "_law_k", "_law_free", "_law_rows", "_law_word", "_law_row"] ["_law_table", "_law_first", "_law_asked", "_law_some"] (defScope s__law_order_right) := ⟨rfl, rfl, rfl, by decide +kernel, rfl, by decide +kernel, by decide +kernel⟩
def d__law_order_right : He.DefD := ⟨("_law_order_right", none), "_law_order_right", "_law_order_right", defArgs s__law_order_right, defBody s__law_order_right, defScope s__law_order_right, [], []⟩
abbrev s__law_hoped : Stmt := top 48
abbrev ps__law_hoped : List Str := ["_law_source", "_law_table", "_law_first", "_law_signs"]
abbrev ns__law_hoped : List Str := ["_law_source", "_law_table", "_law_first", "_law_signs", "_law_early", "_law_wide", "_law_found", "_law_sign", "_law_word"]
theorem sc__law_hoped : FnScope ["_law_source", "_law_table", "_law_first", "_law_signs", "_law_early", "_law_wide", "_law_found", "_law_sign", "_law_word"] ["_law_source", "_law_table", "_law_first", "_law_signs"] (defScope s__law_hoped) := ⟨rfl, rfl, rfl, by decide +kernel, rfl, by decide +kernel, by decide +kernel⟩
def d__law_hoped : He.DefD := ⟨("_law_hoped", none), "_law_hoped", "_law_hoped", defArgs s__law_hoped, defBody s__law_hoped, defScope s__law_hoped, [], []⟩
abbrev s_law : Stmt := top 49
abbrev ps_law : List Str := ["_law_script"]
abbrev ns_law : List Str := ["_law_script", "_law_cell", "_law_source", "_law_signs", "_law_table", "_law_first", "_law_turn", "_law_asked", "_law_told"]
theorem sc_law : FnScope ["_law_script", "_law_cell", "_law_source", "_law_signs", "_law_table", "_law_first", "_law_turn", "_law_asked", "_law_told"] ["_law_script"] (defScope s_law) := ⟨rfl, rfl, rfl, by decide +kernel, rfl, by decide +kernel, by decide +kernel⟩
def d_law : He.DefD := ⟨("law", none), "law", "law", defArgs s_law, defBody s_law, defScope s_law, [], []⟩
def fn : List He.DefD := [d_NoLibrary___init__, d_NoStore___init__, d_NoName___init__, d_Missing___init__, d_NoWishes___init__, d_is_word, d_are_words, d_closure, d_first_definer, d_check_wishes, d_least_preloads, d_elders_of, d_required, d_arranged, d_ring_of, d_first_elder, d_Library___init__, d_Library___eq__, d_Store___init__, d_Store___contains__, d_Store___getitem__, d_Store___iter__, d_Store___len__, d__law_cell_at, d__law_begin, d__law_draw, d__law_pick, d__law_part, d__law_spelled, d__law_library, d__law_libraries, d__law_stored, d__law_closed, d__law_complete, d__law_definer, d__law_wishes, d__law_global, d__law_met, d__law_ahead, d__law_orders, d__law_order_right, d__law_hoped, d_law]
def fa : List He.Fa := [.glo "LoadError", .glo "NoLibrary", .glo "NoStore", .glo "NoName", .glo "Missing", .glo "NoWishes", .int "LONGEST" 12, .glo "is_word", .glo "are_words", .glo "closure", .glo "first_definer", .glo "check_wishes", .glo "least_preloads", .glo "elders_of", .glo "required", .glo "arranged", .glo "ring_of", .glo "first_elder", .int "MOST_NEEDS" 12, .int "MOST_SYMBOLS" 20, .int "MOST_LIBRARIES" 40, .glo "Library", .glo "Store", .glo "_law_cell_at", .glo "_law_begin", .glo "_law_draw", .glo "_law_pick", .glo "_law_part", .glo "_law_spelled", .glo "_law_library", .glo "_law_libraries", .glo "_law_stored", .glo "_law_closed", .glo "_law_complete", .glo "_law_definer", .glo "_law_wishes", .glo "_law_global", .glo "_law_met", .glo "_law_ahead", .glo "_law_orders", .glo "_law_order_right", .glo "_law_hoped", .glo "law", .free "TypeError", .free "ValueError", .free "all", .free "any", .free "bool", .free "dict", .free "enumerate", .free "int", .free "isinstance", .free "len", .free "list", .free "min", .free "range", .free "sorted", .free "str", .free "tuple", .free "zip", .meth "NoLibrary" "__init__", .meth "NoStore" "__init__", .meth "NoName" "__init__", .meth "Missing" "__init__", .meth "NoWishes" "__init__", .meth "Library" "__init__", .meth "Library" "__eq__", .cls "Library", .mkr "Library", .noat "Library" "name", .noat "Library" "needs", .noat "Library" "defines", .noat "Library" "uses", .noat "Library" "weak", .noat "Library" "eager", .noat "Library" "own_first", .meth "Store" "__init__", .meth "Store" "__contains__", .meth "Store" "__getitem__", .meth "Store" "__iter__", .meth "Store" "__len__", .cls "Store", .mkr "Store", .noat "Store" "_table", .noat "NoLibrary" "part", .noat "NoStore" "at", .noat "NoName" "name", .noat "Missing" "name", .noat "NoWishes" "symbol", .exm "LoadError" "LoadError" true, .exm "LoadError" "NoLibrary" false, .exm "LoadError" "NoStore" false, .exm "LoadError" "NoName" false, .exm "LoadError" "Missing" false, .exm "LoadError" "NoWishes" false, .exm "NoLibrary" "LoadError" true, .exm "NoLibrary" "NoLibrary" true, .exm "NoLibrary" "NoStore" false, .exm "NoLibrary" "NoName" false, .exm "NoLibrary" "Missing" false, .exm "NoLibrary" "NoWishes" false, .exm "NoStore" "LoadError" true, .exm "NoStore" "NoLibrary" false, .exm "NoStore" "NoStore" true, .exm "NoStore" "NoName" false, .exm "NoStore" "Missing" false, .exm "NoStore" "NoWishes" false, .exm "NoName" "LoadError" true, .exm "NoName" "NoLibrary" false, .exm "NoName" "NoStore" false, .exm "NoName" "NoName" true, .exm "NoName" "Missing" false, .exm "NoName" "NoWishes" false, .exm "Missing" "LoadError" true, .exm "Missing" "NoLibrary" false, .exm "Missing" "NoStore" false, .exm "Missing" "NoName" false, .exm "Missing" "Missing" true, .exm "Missing" "NoWishes" false, .exm "NoWishes" "LoadError" true, .exm "NoWishes" "NoLibrary" false, .exm "NoWishes" "NoStore" false, .exm "NoWishes" "NoName" false, .exm "NoWishes" "Missing" false, .exm "NoWishes" "NoWishes" true]
def exB (K : PySem.W.Frag) : Bool :=
  (["LoadError", "NoLibrary", "NoStore", "NoName", "Missing", "NoWishes"].all fun x => excB K (He.ga K x)) && ((["Library", "Store"].all fun x => ownB K (He.ga K x)) && ((["Library", "Store"].all fun x => ["Library", "Store"].all fun y => decide (PySem.W.kitOne K (.ref (He.ga K x)) (.ref (He.ga K y)) = some (decide (x = y)))) && (([kwAt ("Library", some "__init__") "needs", kwAt ("Library", some "__init__") "defines", kwAt ("Library", some "__init__") "uses", kwAt ("Library", some "__init__") "weak"].all fun p => emptyB K (p K)) && (([("LoadError", "LoadError", true), ("LoadError", "NoLibrary", false), ("LoadError", "NoStore", false), ("LoadError", "NoName", false), ("LoadError", "Missing", false), ("LoadError", "NoWishes", false), ("NoLibrary", "LoadError", true), ("NoLibrary", "NoLibrary", true), ("NoLibrary", "NoStore", false), ("NoLibrary", "NoName", false), ("NoLibrary", "Missing", false), ("NoLibrary", "NoWishes", false), ("NoStore", "LoadError", true), ("NoStore", "NoLibrary", false), ("NoStore", "NoStore", true), ("NoStore", "NoName", false), ("NoStore", "Missing", false), ("NoStore", "NoWishes", false), ("NoName", "LoadError", true), ("NoName", "NoLibrary", false), ("NoName", "NoStore", false), ("NoName", "NoName", true), ("NoName", "Missing", false), ("NoName", "NoWishes", false), ("Missing", "LoadError", true), ("Missing", "NoLibrary", false), ("Missing", "NoStore", false), ("Missing", "NoName", false), ("Missing", "Missing", true), ("Missing", "NoWishes", false), ("NoWishes", "LoadError", true), ("NoWishes", "NoLibrary", false), ("NoWishes", "NoStore", false), ("NoWishes", "NoName", false), ("NoWishes", "Missing", false), ("NoWishes", "NoWishes", true)].all fun p => decide (PySem.W.kitOne K (.ref (He.ga K p.1)) (.ref (He.ga K p.2.1)) = some p.2.2)) && ((["LoadError", "NoLibrary", "NoStore", "NoName", "Missing", "NoWishes"].all fun x => decide (PySem.W.kitOne K (.ref (He.ga K x)) (.type "ValueError") = some true)) && (PySem.W.fnIn K (He.ma K (He.ga K "Store") "__getitem__")))))))
/-- what the top says -/
structure Top (K : PySem.W.Frag) (mg : Str → Option Value) where
  fd_NoLibrary___init__ : FuncData
  F_NoLibrary___init__ : FunD K d_NoLibrary___init__.name d_NoLibrary___init__.qual (defArgs s_NoLibrary___init__) (defBody s_NoLibrary___init__) (defScope s_NoLibrary___init__) [] (d_NoLibrary___init__.kws K) (He.fAd K d_NoLibrary___init__.at_) fd_NoLibrary___init__
  fd_NoStore___init__ : FuncData
  F_NoStore___init__ : FunD K d_NoStore___init__.name d_NoStore___init__.qual (defArgs s_NoStore___init__) (defBody s_NoStore___init__) (defScope s_NoStore___init__) [] (d_NoStore___init__.kws K) (He.fAd K d_NoStore___init__.at_) fd_NoStore___init__
  fd_NoName___init__ : FuncData
  F_NoName___init__ : FunD K d_NoName___init__.name d_NoName___init__.qual (defArgs s_NoName___init__) (defBody s_NoName___init__) (defScope s_NoName___init__) [] (d_NoName___init__.kws K) (He.fAd K d_NoName___init__.at_) fd_NoName___init__
  fd_Missing___init__ : FuncData
  F_Missing___init__ : FunD K d_Missing___init__.name d_Missing___init__.qual (defArgs s_Missing___init__) (defBody s_Missing___init__) (defScope s_Missing___init__) [] (d_Missing___init__.kws K) (He.fAd K d_Missing___init__.at_) fd_Missing___init__
  fd_NoWishes___init__ : FuncData
  F_NoWishes___init__ : FunD K d_NoWishes___init__.name d_NoWishes___init__.qual (defArgs s_NoWishes___init__) (defBody s_NoWishes___init__) (defScope s_NoWishes___init__) [] (d_NoWishes___init__.kws K) (He.fAd K d_NoWishes___init__.at_) fd_NoWishes___init__
  fd_is_word : FuncData
  F_is_word : FunD K d_is_word.name d_is_word.qual (defArgs s_is_word) (defBody s_is_word) (defScope s_is_word) [] (d_is_word.kws K) (He.fAd K d_is_word.at_) fd_is_word
  fd_are_words : FuncData
  F_are_words : FunD K d_are_words.name d_are_words.qual (defArgs s_are_words) (defBody s_are_words) (defScope s_are_words) [] (d_are_words.kws K) (He.fAd K d_are_words.at_) fd_are_words
  fd_closure : FuncData
  F_closure : FunD K d_closure.name d_closure.qual (defArgs s_closure) (defBody s_closure) (defScope s_closure) [] (d_closure.kws K) (He.fAd K d_closure.at_) fd_closure
  fd_first_definer : FuncData
  F_first_definer : FunD K d_first_definer.name d_first_definer.qual (defArgs s_first_definer) (defBody s_first_definer) (defScope s_first_definer) [] (d_first_definer.kws K) (He.fAd K d_first_definer.at_) fd_first_definer
  fd_check_wishes : FuncData
  F_check_wishes : FunD K d_check_wishes.name d_check_wishes.qual (defArgs s_check_wishes) (defBody s_check_wishes) (defScope s_check_wishes) [] (d_check_wishes.kws K) (He.fAd K d_check_wishes.at_) fd_check_wishes
  fd_least_preloads : FuncData
  F_least_preloads : FunD K d_least_preloads.name d_least_preloads.qual (defArgs s_least_preloads) (defBody s_least_preloads) (defScope s_least_preloads) [] (d_least_preloads.kws K) (He.fAd K d_least_preloads.at_) fd_least_preloads
  fd_elders_of : FuncData
  F_elders_of : FunD K d_elders_of.name d_elders_of.qual (defArgs s_elders_of) (defBody s_elders_of) (defScope s_elders_of) [] (d_elders_of.kws K) (He.fAd K d_elders_of.at_) fd_elders_of
  fd_required : FuncData
  F_required : FunD K d_required.name d_required.qual (defArgs s_required) (defBody s_required) (defScope s_required) [] (d_required.kws K) (He.fAd K d_required.at_) fd_required
  fd_arranged : FuncData
  F_arranged : FunD K d_arranged.name d_arranged.qual (defArgs s_arranged) (defBody s_arranged) (defScope s_arranged) [] (d_arranged.kws K) (He.fAd K d_arranged.at_) fd_arranged
  fd_ring_of : FuncData
  F_ring_of : FunD K d_ring_of.name d_ring_of.qual (defArgs s_ring_of) (defBody s_ring_of) (defScope s_ring_of) [] (d_ring_of.kws K) (He.fAd K d_ring_of.at_) fd_ring_of
  fd_first_elder : FuncData
  F_first_elder : FunD K d_first_elder.name d_first_elder.qual (defArgs s_first_elder) (defBody s_first_elder) (defScope s_first_elder) [] (d_first_elder.kws K) (He.fAd K d_first_elder.at_) fd_first_elder
  fd_Library___init__ : FuncData
  F_Library___init__ : FunD K d_Library___init__.name d_Library___init__.qual (defArgs s_Library___init__) (defBody s_Library___init__) (defScope s_Library___init__) [] (d_Library___init__.kws K) (He.fAd K d_Library___init__.at_) fd_Library___init__
  fd_Library___eq__ : FuncData
  F_Library___eq__ : FunD K d_Library___eq__.name d_Library___eq__.qual (defArgs s_Library___eq__) (defBody s_Library___eq__) (defScope s_Library___eq__) [] (d_Library___eq__.kws K) (He.fAd K d_Library___eq__.at_) fd_Library___eq__
  fd_Store___init__ : FuncData
  F_Store___init__ : FunD K d_Store___init__.name d_Store___init__.qual (defArgs s_Store___init__) (defBody s_Store___init__) (defScope s_Store___init__) [] (d_Store___init__.kws K) (He.fAd K d_Store___init__.at_) fd_Store___init__
  fd_Store___contains__ : FuncData
  F_Store___contains__ : FunD K d_Store___contains__.name d_Store___contains__.qual (defArgs s_Store___contains__) (defBody s_Store___contains__) (defScope s_Store___contains__) [] (d_Store___contains__.kws K) (He.fAd K d_Store___contains__.at_) fd_Store___contains__
  fd_Store___getitem__ : FuncData
  F_Store___getitem__ : FunD K d_Store___getitem__.name d_Store___getitem__.qual (defArgs s_Store___getitem__) (defBody s_Store___getitem__) (defScope s_Store___getitem__) [] (d_Store___getitem__.kws K) (He.fAd K d_Store___getitem__.at_) fd_Store___getitem__
  fd_Store___iter__ : FuncData
  F_Store___iter__ : FunD K d_Store___iter__.name d_Store___iter__.qual (defArgs s_Store___iter__) (defBody s_Store___iter__) (defScope s_Store___iter__) [] (d_Store___iter__.kws K) (He.fAd K d_Store___iter__.at_) fd_Store___iter__
  fd_Store___len__ : FuncData
  F_Store___len__ : FunD K d_Store___len__.name d_Store___len__.qual (defArgs s_Store___len__) (defBody s_Store___len__) (defScope s_Store___len__) [] (d_Store___len__.kws K) (He.fAd K d_Store___len__.at_) fd_Store___len__
  fd__law_cell_at : FuncData
  F__law_cell_at : FunD K d__law_cell_at.name d__law_cell_at.qual (defArgs s__law_cell_at) (defBody s__law_cell_at) (defScope s__law_cell_at) [] (d__law_cell_at.kws K) (He.fAd K d__law_cell_at.at_) fd__law_cell_at
  fd__law_begin : FuncData
  F__law_begin : FunD K d__law_begin.name d__law_begin.qual (defArgs s__law_begin) (defBody s__law_begin) (defScope s__law_begin) [] (d__law_begin.kws K) (He.fAd K d__law_begin.at_) fd__law_begin
  fd__law_draw : FuncData
  F__law_draw : FunD K d__law_draw.name d__law_draw.qual (defArgs s__law_draw) (defBody s__law_draw) (defScope s__law_draw) [] (d__law_draw.kws K) (He.fAd K d__law_draw.at_) fd__law_draw
  fd__law_pick : FuncData
  F__law_pick : FunD K d__law_pick.name d__law_pick.qual (defArgs s__law_pick) (defBody s__law_pick) (defScope s__law_pick) [] (d__law_pick.kws K) (He.fAd K d__law_pick.at_) fd__law_pick
  fd__law_part : FuncData
  F__law_part : FunD K d__law_part.name d__law_part.qual (defArgs s__law_part) (defBody s__law_part) (defScope s__law_part) [] (d__law_part.kws K) (He.fAd K d__law_part.at_) fd__law_part
  fd__law_spelled : FuncData
  F__law_spelled : FunD K d__law_spelled.name d__law_spelled.qual (defArgs s__law_spelled) (defBody s__law_spelled) (defScope s__law_spelled) [] (d__law_spelled.kws K) (He.fAd K d__law_spelled.at_) fd__law_spelled
  fd__law_library : FuncData
  F__law_library : FunD K d__law_library.name d__law_library.qual (defArgs s__law_library) (defBody s__law_library) (defScope s__law_library) [] (d__law_library.kws K) (He.fAd K d__law_library.at_) fd__law_library
  fd__law_libraries : FuncData
  F__law_libraries : FunD K d__law_libraries.name d__law_libraries.qual (defArgs s__law_libraries) (defBody s__law_libraries) (defScope s__law_libraries) [] (d__law_libraries.kws K) (He.fAd K d__law_libraries.at_) fd__law_libraries
  fd__law_stored : FuncData
  F__law_stored : FunD K d__law_stored.name d__law_stored.qual (defArgs s__law_stored) (defBody s__law_stored) (defScope s__law_stored) [] (d__law_stored.kws K) (He.fAd K d__law_stored.at_) fd__law_stored
  fd__law_closed : FuncData
  F__law_closed : FunD K d__law_closed.name d__law_closed.qual (defArgs s__law_closed) (defBody s__law_closed) (defScope s__law_closed) [] (d__law_closed.kws K) (He.fAd K d__law_closed.at_) fd__law_closed
  fd__law_complete : FuncData
  F__law_complete : FunD K d__law_complete.name d__law_complete.qual (defArgs s__law_complete) (defBody s__law_complete) (defScope s__law_complete) [] (d__law_complete.kws K) (He.fAd K d__law_complete.at_) fd__law_complete
  fd__law_definer : FuncData
  F__law_definer : FunD K d__law_definer.name d__law_definer.qual (defArgs s__law_definer) (defBody s__law_definer) (defScope s__law_definer) [] (d__law_definer.kws K) (He.fAd K d__law_definer.at_) fd__law_definer
  fd__law_wishes : FuncData
  F__law_wishes : FunD K d__law_wishes.name d__law_wishes.qual (defArgs s__law_wishes) (defBody s__law_wishes) (defScope s__law_wishes) [] (d__law_wishes.kws K) (He.fAd K d__law_wishes.at_) fd__law_wishes
  fd__law_global : FuncData
  F__law_global : FunD K d__law_global.name d__law_global.qual (defArgs s__law_global) (defBody s__law_global) (defScope s__law_global) [] (d__law_global.kws K) (He.fAd K d__law_global.at_) fd__law_global
  fd__law_met : FuncData
  F__law_met : FunD K d__law_met.name d__law_met.qual (defArgs s__law_met) (defBody s__law_met) (defScope s__law_met) [] (d__law_met.kws K) (He.fAd K d__law_met.at_) fd__law_met
  fd__law_ahead : FuncData
  F__law_ahead : FunD K d__law_ahead.name d__law_ahead.qual (defArgs s__law_ahead) (defBody s__law_ahead) (defScope s__law_ahead) [] (d__law_ahead.kws K) (He.fAd K d__law_ahead.at_) fd__law_ahead
  fd__law_orders : FuncData
  F__law_orders : FunD K d__law_orders.name d__law_orders.qual (defArgs s__law_orders) (defBody s__law_orders) (defScope s__law_orders) [] (d__law_orders.kws K) (He.fAd K d__law_orders.at_) fd__law_orders
  fd__law_order_right : FuncData
  F__law_order_right : FunD K d__law_order_right.name d__law_order_right.qual (defArgs s__law_order_right) (defBody s__law_order_right) (defScope s__law_order_right) [] (d__law_order_right.kws K) (He.fAd K d__law_order_right.at_) fd__law_order_right
  fd__law_hoped : FuncData
  F__law_hoped : FunD K d__law_hoped.name d__law_hoped.qual (defArgs s__law_hoped) (defBody s__law_hoped) (defScope s__law_hoped) [] (d__law_hoped.kws K) (He.fAd K d__law_hoped.at_) fd__law_hoped
  fd_law : FuncData
  F_law : FunD K d_law.name d_law.qual (defArgs s_law) (defBody s_law) (defScope s_law) [] (d_law.kws K) (He.fAd K d_law.at_) fd_law
  g_LoadError : mg "LoadError" = some (.ref (He.ga K "LoadError"))
  g_NoLibrary : mg "NoLibrary" = some (.ref (He.ga K "NoLibrary"))
  g_NoStore : mg "NoStore" = some (.ref (He.ga K "NoStore"))
  g_NoName : mg "NoName" = some (.ref (He.ga K "NoName"))
  g_Missing : mg "Missing" = some (.ref (He.ga K "Missing"))
  g_NoWishes : mg "NoWishes" = some (.ref (He.ga K "NoWishes"))
  i_LONGEST : ∃ t, mg "LONGEST" = some (.int 12 t)
  g_is_word : mg "is_word" = some (.ref (He.ga K "is_word"))
  g_are_words : mg "are_words" = some (.ref (He.ga K "are_words"))
  g_closure : mg "closure" = some (.ref (He.ga K "closure"))
  g_first_definer : mg "first_definer" = some (.ref (He.ga K "first_definer"))
  g_check_wishes : mg "check_wishes" = some (.ref (He.ga K "check_wishes"))
  g_least_preloads : mg "least_preloads" = some (.ref (He.ga K "least_preloads"))
  g_elders_of : mg "elders_of" = some (.ref (He.ga K "elders_of"))
  g_required : mg "required" = some (.ref (He.ga K "required"))
  g_arranged : mg "arranged" = some (.ref (He.ga K "arranged"))
  g_ring_of : mg "ring_of" = some (.ref (He.ga K "ring_of"))
  g_first_elder : mg "first_elder" = some (.ref (He.ga K "first_elder"))
  i_MOST_NEEDS : ∃ t, mg "MOST_NEEDS" = some (.int 12 t)
  i_MOST_SYMBOLS : ∃ t, mg "MOST_SYMBOLS" = some (.int 20 t)
  i_MOST_LIBRARIES : ∃ t, mg "MOST_LIBRARIES" = some (.int 40 t)
  g_Library : mg "Library" = some (.ref (He.ga K "Library"))
  g_Store : mg "Store" = some (.ref (He.ga K "Store"))
  g__law_cell_at : mg "_law_cell_at" = some (.ref (He.ga K "_law_cell_at"))
  g__law_begin : mg "_law_begin" = some (.ref (He.ga K "_law_begin"))
  g__law_draw : mg "_law_draw" = some (.ref (He.ga K "_law_draw"))
  g__law_pick : mg "_law_pick" = some (.ref (He.ga K "_law_pick"))
  g__law_part : mg "_law_part" = some (.ref (He.ga K "_law_part"))
  g__law_spelled : mg "_law_spelled" = some (.ref (He.ga K "_law_spelled"))
  g__law_library : mg "_law_library" = some (.ref (He.ga K "_law_library"))
  g__law_libraries : mg "_law_libraries" = some (.ref (He.ga K "_law_libraries"))
  g__law_stored : mg "_law_stored" = some (.ref (He.ga K "_law_stored"))
  g__law_closed : mg "_law_closed" = some (.ref (He.ga K "_law_closed"))
  g__law_complete : mg "_law_complete" = some (.ref (He.ga K "_law_complete"))
  g__law_definer : mg "_law_definer" = some (.ref (He.ga K "_law_definer"))
  g__law_wishes : mg "_law_wishes" = some (.ref (He.ga K "_law_wishes"))
  g__law_global : mg "_law_global" = some (.ref (He.ga K "_law_global"))
  g__law_met : mg "_law_met" = some (.ref (He.ga K "_law_met"))
  g__law_ahead : mg "_law_ahead" = some (.ref (He.ga K "_law_ahead"))
  g__law_orders : mg "_law_orders" = some (.ref (He.ga K "_law_orders"))
  g__law_order_right : mg "_law_order_right" = some (.ref (He.ga K "_law_order_right"))
  g__law_hoped : mg "_law_hoped" = some (.ref (He.ga K "_law_hoped"))
  g_law : mg "law" = some (.ref (He.ga K "law"))
  n_TypeError : mg "TypeError" = none
  n_ValueError : mg "ValueError" = none
  n_all : mg "all" = none
  n_any : mg "any" = none
  n_bool : mg "bool" = none
  n_dict : mg "dict" = none
  n_enumerate : mg "enumerate" = none
  n_int : mg "int" = none
  n_isinstance : mg "isinstance" = none
  n_len : mg "len" = none
  n_list : mg "list" = none
  n_min : mg "min" = none
  n_range : mg "range" = none
  n_sorted : mg "sorted" = none
  n_str : mg "str" = none
  n_tuple : mg "tuple" = none
  n_zip : mg "zip" = none
  m_NoLibrary___init__ : Meth K (He.ga K "NoLibrary") "__init__" (He.ma K (He.ga K "NoLibrary") "__init__")
  m_NoStore___init__ : Meth K (He.ga K "NoStore") "__init__" (He.ma K (He.ga K "NoStore") "__init__")
  m_NoName___init__ : Meth K (He.ga K "NoName") "__init__" (He.ma K (He.ga K "NoName") "__init__")
  m_Missing___init__ : Meth K (He.ga K "Missing") "__init__" (He.ma K (He.ga K "Missing") "__init__")
  m_NoWishes___init__ : Meth K (He.ga K "NoWishes") "__init__" (He.ma K (He.ga K "NoWishes") "__init__")
  m_Library___init__ : Meth K (He.ga K "Library") "__init__" (He.ma K (He.ga K "Library") "__init__")
  m_Library___eq__ : Meth K (He.ga K "Library") "__eq__" (He.ma K (He.ga K "Library") "__eq__")
  c_Library : Cls K (He.ga K "Library")
  mk_Library : Mk K (He.ga K "Library") (He.ma K (He.ga K "Library") "__init__")
  na_Library_name : PySem.W.findIn K (.ref (He.ga K "Library")) "name" = some none
  na_Library_needs : PySem.W.findIn K (.ref (He.ga K "Library")) "needs" = some none
  na_Library_defines : PySem.W.findIn K (.ref (He.ga K "Library")) "defines" = some none
  na_Library_uses : PySem.W.findIn K (.ref (He.ga K "Library")) "uses" = some none
  na_Library_weak : PySem.W.findIn K (.ref (He.ga K "Library")) "weak" = some none
  na_Library_eager : PySem.W.findIn K (.ref (He.ga K "Library")) "eager" = some none
  na_Library_own_first : PySem.W.findIn K (.ref (He.ga K "Library")) "own_first" = some none
  m_Store___init__ : Meth K (He.ga K "Store") "__init__" (He.ma K (He.ga K "Store") "__init__")
  m_Store___contains__ : Meth K (He.ga K "Store") "__contains__" (He.ma K (He.ga K "Store") "__contains__")
  m_Store___getitem__ : Meth K (He.ga K "Store") "__getitem__" (He.ma K (He.ga K "Store") "__getitem__")
  m_Store___iter__ : Meth K (He.ga K "Store") "__iter__" (He.ma K (He.ga K "Store") "__iter__")
  m_Store___len__ : Meth K (He.ga K "Store") "__len__" (He.ma K (He.ga K "Store") "__len__")
  c_Store : Cls K (He.ga K "Store")
  mk_Store : Mk K (He.ga K "Store") (He.ma K (He.ga K "Store") "__init__")
  na_Store__table : PySem.W.findIn K (.ref (He.ga K "Store")) "_table" = some none
  na_NoLibrary_part : PySem.W.findIn K (.ref (He.ga K "NoLibrary")) "part" = some none
  na_NoStore_at : PySem.W.findIn K (.ref (He.ga K "NoStore")) "at" = some none
  na_NoName_name : PySem.W.findIn K (.ref (He.ga K "NoName")) "name" = some none
  na_Missing_name : PySem.W.findIn K (.ref (He.ga K "Missing")) "name" = some none
  na_NoWishes_symbol : PySem.W.findIn K (.ref (He.ga K "NoWishes")) "symbol" = some none
  exm_LoadError_LoadError : PySem.W.exmOne K (.ref (He.ga K "LoadError")) (.ref (He.ga K "LoadError")) = some true
  exm_LoadError_NoLibrary : PySem.W.exmOne K (.ref (He.ga K "LoadError")) (.ref (He.ga K "NoLibrary")) = some false
  exm_LoadError_NoStore : PySem.W.exmOne K (.ref (He.ga K "LoadError")) (.ref (He.ga K "NoStore")) = some false
  exm_LoadError_NoName : PySem.W.exmOne K (.ref (He.ga K "LoadError")) (.ref (He.ga K "NoName")) = some false
  exm_LoadError_Missing : PySem.W.exmOne K (.ref (He.ga K "LoadError")) (.ref (He.ga K "Missing")) = some false
  exm_LoadError_NoWishes : PySem.W.exmOne K (.ref (He.ga K "LoadError")) (.ref (He.ga K "NoWishes")) = some false
  exm_NoLibrary_LoadError : PySem.W.exmOne K (.ref (He.ga K "NoLibrary")) (.ref (He.ga K "LoadError")) = some true
  exm_NoLibrary_NoLibrary : PySem.W.exmOne K (.ref (He.ga K "NoLibrary")) (.ref (He.ga K "NoLibrary")) = some true
  exm_NoLibrary_NoStore : PySem.W.exmOne K (.ref (He.ga K "NoLibrary")) (.ref (He.ga K "NoStore")) = some false
  exm_NoLibrary_NoName : PySem.W.exmOne K (.ref (He.ga K "NoLibrary")) (.ref (He.ga K "NoName")) = some false
  exm_NoLibrary_Missing : PySem.W.exmOne K (.ref (He.ga K "NoLibrary")) (.ref (He.ga K "Missing")) = some false
  exm_NoLibrary_NoWishes : PySem.W.exmOne K (.ref (He.ga K "NoLibrary")) (.ref (He.ga K "NoWishes")) = some false
  exm_NoStore_LoadError : PySem.W.exmOne K (.ref (He.ga K "NoStore")) (.ref (He.ga K "LoadError")) = some true
  exm_NoStore_NoLibrary : PySem.W.exmOne K (.ref (He.ga K "NoStore")) (.ref (He.ga K "NoLibrary")) = some false
  exm_NoStore_NoStore : PySem.W.exmOne K (.ref (He.ga K "NoStore")) (.ref (He.ga K "NoStore")) = some true
  exm_NoStore_NoName : PySem.W.exmOne K (.ref (He.ga K "NoStore")) (.ref (He.ga K "NoName")) = some false
  exm_NoStore_Missing : PySem.W.exmOne K (.ref (He.ga K "NoStore")) (.ref (He.ga K "Missing")) = some false
  exm_NoStore_NoWishes : PySem.W.exmOne K (.ref (He.ga K "NoStore")) (.ref (He.ga K "NoWishes")) = some false
  exm_NoName_LoadError : PySem.W.exmOne K (.ref (He.ga K "NoName")) (.ref (He.ga K "LoadError")) = some true
  exm_NoName_NoLibrary : PySem.W.exmOne K (.ref (He.ga K "NoName")) (.ref (He.ga K "NoLibrary")) = some false
  exm_NoName_NoStore : PySem.W.exmOne K (.ref (He.ga K "NoName")) (.ref (He.ga K "NoStore")) = some false
  exm_NoName_NoName : PySem.W.exmOne K (.ref (He.ga K "NoName")) (.ref (He.ga K "NoName")) = some true
  exm_NoName_Missing : PySem.W.exmOne K (.ref (He.ga K "NoName")) (.ref (He.ga K "Missing")) = some false
  exm_NoName_NoWishes : PySem.W.exmOne K (.ref (He.ga K "NoName")) (.ref (He.ga K "NoWishes")) = some false
  exm_Missing_LoadError : PySem.W.exmOne K (.ref (He.ga K "Missing")) (.ref (He.ga K "LoadError")) = some true
  exm_Missing_NoLibrary : PySem.W.exmOne K (.ref (He.ga K "Missing")) (.ref (He.ga K "NoLibrary")) = some false
  exm_Missing_NoStore : PySem.W.exmOne K (.ref (He.ga K "Missing")) (.ref (He.ga K "NoStore")) = some false
  exm_Missing_NoName : PySem.W.exmOne K (.ref (He.ga K "Missing")) (.ref (He.ga K "NoName")) = some false
  exm_Missing_Missing : PySem.W.exmOne K (.ref (He.ga K "Missing")) (.ref (He.ga K "Missing")) = some true
  exm_Missing_NoWishes : PySem.W.exmOne K (.ref (He.ga K "Missing")) (.ref (He.ga K "NoWishes")) = some false
  exm_NoWishes_LoadError : PySem.W.exmOne K (.ref (He.ga K "NoWishes")) (.ref (He.ga K "LoadError")) = some true
  exm_NoWishes_NoLibrary : PySem.W.exmOne K (.ref (He.ga K "NoWishes")) (.ref (He.ga K "NoLibrary")) = some false
  exm_NoWishes_NoStore : PySem.W.exmOne K (.ref (He.ga K "NoWishes")) (.ref (He.ga K "NoStore")) = some false
  exm_NoWishes_NoName : PySem.W.exmOne K (.ref (He.ga K "NoWishes")) (.ref (He.ga K "NoName")) = some false
  exm_NoWishes_Missing : PySem.W.exmOne K (.ref (He.ga K "NoWishes")) (.ref (He.ga K "Missing")) = some false
  exm_NoWishes_NoWishes : PySem.W.exmOne K (.ref (He.ga K "NoWishes")) (.ref (He.ga K "NoWishes")) = some true
  e_LoadError : ExcK K (He.ga K "LoadError")
  kv_LoadError : PySem.W.kitOne K (.ref (He.ga K "LoadError")) (.type "ValueError") = some true
  e_NoLibrary : ExcK K (He.ga K "NoLibrary")
  kv_NoLibrary : PySem.W.kitOne K (.ref (He.ga K "NoLibrary")) (.type "ValueError") = some true
  e_NoStore : ExcK K (He.ga K "NoStore")
  kv_NoStore : PySem.W.kitOne K (.ref (He.ga K "NoStore")) (.type "ValueError") = some true
  e_NoName : ExcK K (He.ga K "NoName")
  kv_NoName : PySem.W.kitOne K (.ref (He.ga K "NoName")) (.type "ValueError") = some true
  e_Missing : ExcK K (He.ga K "Missing")
  kv_Missing : PySem.W.kitOne K (.ref (He.ga K "Missing")) (.type "ValueError") = some true
  e_NoWishes : ExcK K (He.ga K "NoWishes")
  kv_NoWishes : PySem.W.kitOne K (.ref (He.ga K "NoWishes")) (.type "ValueError") = some true
  o_Library : OwnK K (He.ga K "Library")
  o_Store : OwnK K (He.ga K "Store")
  k_Library_Library : PySem.W.kitOne K (.ref (He.ga K "Library")) (.ref (He.ga K "Library")) = some true
  k_Library_Store : PySem.W.kitOne K (.ref (He.ga K "Library")) (.ref (He.ga K "Store")) = some false
  k_Store_Library : PySem.W.kitOne K (.ref (He.ga K "Store")) (.ref (He.ga K "Library")) = some false
  k_Store_Store : PySem.W.kitOne K (.ref (He.ga K "Store")) (.ref (He.ga K "Store")) = some true
  kw_Library_needs : ∀ H, PT K H (kwAt ("Library", some "__init__") "needs" K) []
  kw_Library_defines : ∀ H, PT K H (kwAt ("Library", some "__init__") "defines" K) []
  kw_Library_uses : ∀ H, PT K H (kwAt ("Library", some "__init__") "uses" K) []
  kw_Library_weak : ∀ H, PT K H (kwAt ("Library", some "__init__") "weak" K) []
  ke_LoadError_LoadError : PySem.W.kitOne K (.ref (He.ga K "LoadError")) (.ref (He.ga K "LoadError")) = some true
  ke_LoadError_NoLibrary : PySem.W.kitOne K (.ref (He.ga K "LoadError")) (.ref (He.ga K "NoLibrary")) = some false
  ke_LoadError_NoStore : PySem.W.kitOne K (.ref (He.ga K "LoadError")) (.ref (He.ga K "NoStore")) = some false
  ke_LoadError_NoName : PySem.W.kitOne K (.ref (He.ga K "LoadError")) (.ref (He.ga K "NoName")) = some false
  ke_LoadError_Missing : PySem.W.kitOne K (.ref (He.ga K "LoadError")) (.ref (He.ga K "Missing")) = some false
  ke_LoadError_NoWishes : PySem.W.kitOne K (.ref (He.ga K "LoadError")) (.ref (He.ga K "NoWishes")) = some false
  ke_NoLibrary_LoadError : PySem.W.kitOne K (.ref (He.ga K "NoLibrary")) (.ref (He.ga K "LoadError")) = some true
  ke_NoLibrary_NoLibrary : PySem.W.kitOne K (.ref (He.ga K "NoLibrary")) (.ref (He.ga K "NoLibrary")) = some true
  ke_NoLibrary_NoStore : PySem.W.kitOne K (.ref (He.ga K "NoLibrary")) (.ref (He.ga K "NoStore")) = some false
  ke_NoLibrary_NoName : PySem.W.kitOne K (.ref (He.ga K "NoLibrary")) (.ref (He.ga K "NoName")) = some false
  ke_NoLibrary_Missing : PySem.W.kitOne K (.ref (He.ga K "NoLibrary")) (.ref (He.ga K "Missing")) = some false
  ke_NoLibrary_NoWishes : PySem.W.kitOne K (.ref (He.ga K "NoLibrary")) (.ref (He.ga K "NoWishes")) = some false
  ke_NoStore_LoadError : PySem.W.kitOne K (.ref (He.ga K "NoStore")) (.ref (He.ga K "LoadError")) = some true
  ke_NoStore_NoLibrary : PySem.W.kitOne K (.ref (He.ga K "NoStore")) (.ref (He.ga K "NoLibrary")) = some false
  ke_NoStore_NoStore : PySem.W.kitOne K (.ref (He.ga K "NoStore")) (.ref (He.ga K "NoStore")) = some true
  ke_NoStore_NoName : PySem.W.kitOne K (.ref (He.ga K "NoStore")) (.ref (He.ga K "NoName")) = some false
  ke_NoStore_Missing : PySem.W.kitOne K (.ref (He.ga K "NoStore")) (.ref (He.ga K "Missing")) = some false
  ke_NoStore_NoWishes : PySem.W.kitOne K (.ref (He.ga K "NoStore")) (.ref (He.ga K "NoWishes")) = some false
  ke_NoName_LoadError : PySem.W.kitOne K (.ref (He.ga K "NoName")) (.ref (He.ga K "LoadError")) = some true
  ke_NoName_NoLibrary : PySem.W.kitOne K (.ref (He.ga K "NoName")) (.ref (He.ga K "NoLibrary")) = some false
  ke_NoName_NoStore : PySem.W.kitOne K (.ref (He.ga K "NoName")) (.ref (He.ga K "NoStore")) = some false
  ke_NoName_NoName : PySem.W.kitOne K (.ref (He.ga K "NoName")) (.ref (He.ga K "NoName")) = some true
  ke_NoName_Missing : PySem.W.kitOne K (.ref (He.ga K "NoName")) (.ref (He.ga K "Missing")) = some false
  ke_NoName_NoWishes : PySem.W.kitOne K (.ref (He.ga K "NoName")) (.ref (He.ga K "NoWishes")) = some false
  ke_Missing_LoadError : PySem.W.kitOne K (.ref (He.ga K "Missing")) (.ref (He.ga K "LoadError")) = some true
  ke_Missing_NoLibrary : PySem.W.kitOne K (.ref (He.ga K "Missing")) (.ref (He.ga K "NoLibrary")) = some false
  ke_Missing_NoStore : PySem.W.kitOne K (.ref (He.ga K "Missing")) (.ref (He.ga K "NoStore")) = some false
  ke_Missing_NoName : PySem.W.kitOne K (.ref (He.ga K "Missing")) (.ref (He.ga K "NoName")) = some false
  ke_Missing_Missing : PySem.W.kitOne K (.ref (He.ga K "Missing")) (.ref (He.ga K "Missing")) = some true
  ke_Missing_NoWishes : PySem.W.kitOne K (.ref (He.ga K "Missing")) (.ref (He.ga K "NoWishes")) = some false
  ke_NoWishes_LoadError : PySem.W.kitOne K (.ref (He.ga K "NoWishes")) (.ref (He.ga K "LoadError")) = some true
  ke_NoWishes_NoLibrary : PySem.W.kitOne K (.ref (He.ga K "NoWishes")) (.ref (He.ga K "NoLibrary")) = some false
  ke_NoWishes_NoStore : PySem.W.kitOne K (.ref (He.ga K "NoWishes")) (.ref (He.ga K "NoStore")) = some false
  ke_NoWishes_NoName : PySem.W.kitOne K (.ref (He.ga K "NoWishes")) (.ref (He.ga K "NoName")) = some false
  ke_NoWishes_Missing : PySem.W.kitOne K (.ref (He.ga K "NoWishes")) (.ref (He.ga K "Missing")) = some false
  ke_NoWishes_NoWishes : PySem.W.kitOne K (.ref (He.ga K "NoWishes")) (.ref (He.ga K "NoWishes")) = some true
  fi_Store : PySem.W.fnIn K (He.ma K (He.ga K "Store") "__getitem__") = true
theorem top_ex {K : PySem.W.Frag} {h : Heap} {mg : Str → Option Value} (X : K.In h) (G : h.Ns mainGlobals mg) (c : He.SaysD fa fn K) (ex : exB K = true) : Nonempty (Top K mg) := by
  obtain ⟨x1, ex⟩ := and2 ex
  obtain ⟨x2, ex⟩ := and2 ex
  obtain ⟨x3, ex⟩ := and2 ex
  obtain ⟨x4, ex⟩ := and2 ex
  obtain ⟨x5, ex⟩ := and2 ex
  obtain ⟨x6, ex⟩ := and2 ex
  have x7 := ex
  obtain ⟨fd0, E0⟩ := c.def_ 0 (d := d_NoLibrary___init__) rfl
  obtain ⟨fd1, E1⟩ := c.def_ 1 (d := d_NoStore___init__) rfl
  obtain ⟨fd2, E2⟩ := c.def_ 2 (d := d_NoName___init__) rfl
  obtain ⟨fd3, E3⟩ := c.def_ 3 (d := d_Missing___init__) rfl
  obtain ⟨fd4, E4⟩ := c.def_ 4 (d := d_NoWishes___init__) rfl
  obtain ⟨fd5, E5⟩ := c.def_ 5 (d := d_is_word) rfl
  obtain ⟨fd6, E6⟩ := c.def_ 6 (d := d_are_words) rfl
  obtain ⟨fd7, E7⟩ := c.def_ 7 (d := d_closure) rfl
  obtain ⟨fd8, E8⟩ := c.def_ 8 (d := d_first_definer) rfl
  obtain ⟨fd9, E9⟩ := c.def_ 9 (d := d_check_wishes) rfl
  obtain ⟨fd10, E10⟩ := c.def_ 10 (d := d_least_preloads) rfl
  obtain ⟨fd11, E11⟩ := c.def_ 11 (d := d_elders_of) rfl
  obtain ⟨fd12, E12⟩ := c.def_ 12 (d := d_required) rfl
  obtain ⟨fd13, E13⟩ := c.def_ 13 (d := d_arranged) rfl
  obtain ⟨fd14, E14⟩ := c.def_ 14 (d := d_ring_of) rfl
  obtain ⟨fd15, E15⟩ := c.def_ 15 (d := d_first_elder) rfl
  obtain ⟨fd16, E16⟩ := c.def_ 16 (d := d_Library___init__) rfl
  obtain ⟨fd17, E17⟩ := c.def_ 17 (d := d_Library___eq__) rfl
  obtain ⟨fd18, E18⟩ := c.def_ 18 (d := d_Store___init__) rfl
  obtain ⟨fd19, E19⟩ := c.def_ 19 (d := d_Store___contains__) rfl
  obtain ⟨fd20, E20⟩ := c.def_ 20 (d := d_Store___getitem__) rfl
  obtain ⟨fd21, E21⟩ := c.def_ 21 (d := d_Store___iter__) rfl
  obtain ⟨fd22, E22⟩ := c.def_ 22 (d := d_Store___len__) rfl
  obtain ⟨fd23, E23⟩ := c.def_ 23 (d := d__law_cell_at) rfl
  obtain ⟨fd24, E24⟩ := c.def_ 24 (d := d__law_begin) rfl
  obtain ⟨fd25, E25⟩ := c.def_ 25 (d := d__law_draw) rfl
  obtain ⟨fd26, E26⟩ := c.def_ 26 (d := d__law_pick) rfl
  obtain ⟨fd27, E27⟩ := c.def_ 27 (d := d__law_part) rfl
  obtain ⟨fd28, E28⟩ := c.def_ 28 (d := d__law_spelled) rfl
  obtain ⟨fd29, E29⟩ := c.def_ 29 (d := d__law_library) rfl
  obtain ⟨fd30, E30⟩ := c.def_ 30 (d := d__law_libraries) rfl
  obtain ⟨fd31, E31⟩ := c.def_ 31 (d := d__law_stored) rfl
  obtain ⟨fd32, E32⟩ := c.def_ 32 (d := d__law_closed) rfl
  obtain ⟨fd33, E33⟩ := c.def_ 33 (d := d__law_complete) rfl
  obtain ⟨fd34, E34⟩ := c.def_ 34 (d := d__law_definer) rfl
  obtain ⟨fd35, E35⟩ := c.def_ 35 (d := d__law_wishes) rfl
  obtain ⟨fd36, E36⟩ := c.def_ 36 (d := d__law_global) rfl
  obtain ⟨fd37, E37⟩ := c.def_ 37 (d := d__law_met) rfl
  obtain ⟨fd38, E38⟩ := c.def_ 38 (d := d__law_ahead) rfl
  obtain ⟨fd39, E39⟩ := c.def_ 39 (d := d__law_orders) rfl
  obtain ⟨fd40, E40⟩ := c.def_ 40 (d := d__law_order_right) rfl
  obtain ⟨fd41, E41⟩ := c.def_ 41 (d := d__law_hoped) rfl
  obtain ⟨fd42, E42⟩ := c.def_ 42 (d := d_law) rfl
  exact ⟨{
    fd_NoLibrary___init__ := fd0
    F_NoLibrary___init__ := E0
    fd_NoStore___init__ := fd1
    F_NoStore___init__ := E1
    fd_NoName___init__ := fd2
    F_NoName___init__ := E2
    fd_Missing___init__ := fd3
    F_Missing___init__ := E3
    fd_NoWishes___init__ := fd4
    F_NoWishes___init__ := E4
    fd_is_word := fd5
    F_is_word := E5
    fd_are_words := fd6
    F_are_words := E6
    fd_closure := fd7
    F_closure := E7
    fd_first_definer := fd8
    F_first_definer := E8
    fd_check_wishes := fd9
    F_check_wishes := E9
    fd_least_preloads := fd10
    F_least_preloads := E10
    fd_elders_of := fd11
    F_elders_of := E11
    fd_required := fd12
    F_required := E12
    fd_arranged := fd13
    F_arranged := E13
    fd_ring_of := fd14
    F_ring_of := E14
    fd_first_elder := fd15
    F_first_elder := E15
    fd_Library___init__ := fd16
    F_Library___init__ := E16
    fd_Library___eq__ := fd17
    F_Library___eq__ := E17
    fd_Store___init__ := fd18
    F_Store___init__ := E18
    fd_Store___contains__ := fd19
    F_Store___contains__ := E19
    fd_Store___getitem__ := fd20
    F_Store___getitem__ := E20
    fd_Store___iter__ := fd21
    F_Store___iter__ := E21
    fd_Store___len__ := fd22
    F_Store___len__ := E22
    fd__law_cell_at := fd23
    F__law_cell_at := E23
    fd__law_begin := fd24
    F__law_begin := E24
    fd__law_draw := fd25
    F__law_draw := E25
    fd__law_pick := fd26
    F__law_pick := E26
    fd__law_part := fd27
    F__law_part := E27
    fd__law_spelled := fd28
    F__law_spelled := E28
    fd__law_library := fd29
    F__law_library := E29
    fd__law_libraries := fd30
    F__law_libraries := E30
    fd__law_stored := fd31
    F__law_stored := E31
    fd__law_closed := fd32
    F__law_closed := E32
    fd__law_complete := fd33
    F__law_complete := E33
    fd__law_definer := fd34
    F__law_definer := E34
    fd__law_wishes := fd35
    F__law_wishes := E35
    fd__law_global := fd36
    F__law_global := E36
    fd__law_met := fd37
    F__law_met := E37
    fd__law_ahead := fd38
    F__law_ahead := E38
    fd__law_orders := fd39
    F__law_orders := E39
    fd__law_order_right := fd40
    F__law_order_right := E40
    fd__law_hoped := fd41
    F__law_hoped := E41
    fd_law := fd42
    F_law := E42
    g_LoadError := He.glo_ok X G (c.fact 0 (f := .glo "LoadError") rfl)
    g_NoLibrary := He.glo_ok X G (c.fact 1 (f := .glo "NoLibrary") rfl)
    g_NoStore := He.glo_ok X G (c.fact 2 (f := .glo "NoStore") rfl)
    g_NoName := He.glo_ok X G (c.fact 3 (f := .glo "NoName") rfl)
    g_Missing := He.glo_ok X G (c.fact 4 (f := .glo "Missing") rfl)
    g_NoWishes := He.glo_ok X G (c.fact 5 (f := .glo "NoWishes") rfl)
    i_LONGEST := He.int_ok X G (c.fact 6 (f := .int "LONGEST" 12) rfl)
    g_is_word := He.glo_ok X G (c.fact 7 (f := .glo "is_word") rfl)
    g_are_words := He.glo_ok X G (c.fact 8 (f := .glo "are_words") rfl)
    g_closure := He.glo_ok X G (c.fact 9 (f := .glo "closure") rfl)
    g_first_definer := He.glo_ok X G (c.fact 10 (f := .glo "first_definer") rfl)
    g_check_wishes := He.glo_ok X G (c.fact 11 (f := .glo "check_wishes") rfl)
    g_least_preloads := He.glo_ok X G (c.fact 12 (f := .glo "least_preloads") rfl)
    g_elders_of := He.glo_ok X G (c.fact 13 (f := .glo "elders_of") rfl)
    g_required := He.glo_ok X G (c.fact 14 (f := .glo "required") rfl)
    g_arranged := He.glo_ok X G (c.fact 15 (f := .glo "arranged") rfl)
    g_ring_of := He.glo_ok X G (c.fact 16 (f := .glo "ring_of") rfl)
    g_first_elder := He.glo_ok X G (c.fact 17 (f := .glo "first_elder") rfl)
    i_MOST_NEEDS := He.int_ok X G (c.fact 18 (f := .int "MOST_NEEDS" 12) rfl)
    i_MOST_SYMBOLS := He.int_ok X G (c.fact 19 (f := .int "MOST_SYMBOLS" 20) rfl)
    i_MOST_LIBRARIES := He.int_ok X G (c.fact 20 (f := .int "MOST_LIBRARIES" 40) rfl)
    g_Library := He.glo_ok X G (c.fact 21 (f := .glo "Library") rfl)
    g_Store := He.glo_ok X G (c.fact 22 (f := .glo "Store") rfl)
    g__law_cell_at := He.glo_ok X G (c.fact 23 (f := .glo "_law_cell_at") rfl)
    g__law_begin := He.glo_ok X G (c.fact 24 (f := .glo "_law_begin") rfl)
    g__law_draw := He.glo_ok X G (c.fact 25 (f := .glo "_law_draw") rfl)
    g__law_pick := He.glo_ok X G (c.fact 26 (f := .glo "_law_pick") rfl)
    g__law_part := He.glo_ok X G (c.fact 27 (f := .glo "_law_part") rfl)
    g__law_spelled := He.glo_ok X G (c.fact 28 (f := .glo "_law_spelled") rfl)
    g__law_library := He.glo_ok X G (c.fact 29 (f := .glo "_law_library") rfl)
    g__law_libraries := He.glo_ok X G (c.fact 30 (f := .glo "_law_libraries") rfl)
    g__law_stored := He.glo_ok X G (c.fact 31 (f := .glo "_law_stored") rfl)
    g__law_closed := He.glo_ok X G (c.fact 32 (f := .glo "_law_closed") rfl)
    g__law_complete := He.glo_ok X G (c.fact 33 (f := .glo "_law_complete") rfl)
    g__law_definer := He.glo_ok X G (c.fact 34 (f := .glo "_law_definer") rfl)
    g__law_wishes := He.glo_ok X G (c.fact 35 (f := .glo "_law_wishes") rfl)
    g__law_global := He.glo_ok X G (c.fact 36 (f := .glo "_law_global") rfl)
    g__law_met := He.glo_ok X G (c.fact 37 (f := .glo "_law_met") rfl)
    g__law_ahead := He.glo_ok X G (c.fact 38 (f := .glo "_law_ahead") rfl)
    g__law_orders := He.glo_ok X G (c.fact 39 (f := .glo "_law_orders") rfl)
    g__law_order_right := He.glo_ok X G (c.fact 40 (f := .glo "_law_order_right") rfl)
    g__law_hoped := He.glo_ok X G (c.fact 41 (f := .glo "_law_hoped") rfl)
    g_law := He.glo_ok X G (c.fact 42 (f := .glo "law") rfl)
    n_TypeError := He.free_ok X G (c.fact 43 (f := .free "TypeError") rfl)
    n_ValueError := He.free_ok X G (c.fact 44 (f := .free "ValueError") rfl)
    n_all := He.free_ok X G (c.fact 45 (f := .free "all") rfl)
    n_any := He.free_ok X G (c.fact 46 (f := .free "any") rfl)
    n_bool := He.free_ok X G (c.fact 47 (f := .free "bool") rfl)
    n_dict := He.free_ok X G (c.fact 48 (f := .free "dict") rfl)
    n_enumerate := He.free_ok X G (c.fact 49 (f := .free "enumerate") rfl)
    n_int := He.free_ok X G (c.fact 50 (f := .free "int") rfl)
    n_isinstance := He.free_ok X G (c.fact 51 (f := .free "isinstance") rfl)
    n_len := He.free_ok X G (c.fact 52 (f := .free "len") rfl)
    n_list := He.free_ok X G (c.fact 53 (f := .free "list") rfl)
    n_min := He.free_ok X G (c.fact 54 (f := .free "min") rfl)
    n_range := He.free_ok X G (c.fact 55 (f := .free "range") rfl)
    n_sorted := He.free_ok X G (c.fact 56 (f := .free "sorted") rfl)
    n_str := He.free_ok X G (c.fact 57 (f := .free "str") rfl)
    n_tuple := He.free_ok X G (c.fact 58 (f := .free "tuple") rfl)
    n_zip := He.free_ok X G (c.fact 59 (f := .free "zip") rfl)
    m_NoLibrary___init__ := He.meth_ok (c.fact 60 (f := .meth "NoLibrary" "__init__") rfl)
    m_NoStore___init__ := He.meth_ok (c.fact 61 (f := .meth "NoStore" "__init__") rfl)
    m_NoName___init__ := He.meth_ok (c.fact 62 (f := .meth "NoName" "__init__") rfl)
    m_Missing___init__ := He.meth_ok (c.fact 63 (f := .meth "Missing" "__init__") rfl)
    m_NoWishes___init__ := He.meth_ok (c.fact 64 (f := .meth "NoWishes" "__init__") rfl)
    m_Library___init__ := He.meth_ok (c.fact 65 (f := .meth "Library" "__init__") rfl)
    m_Library___eq__ := He.meth_ok (c.fact 66 (f := .meth "Library" "__eq__") rfl)
    c_Library := He.cls_ok (c.fact 67 (f := .cls "Library") rfl)
    mk_Library := He.mkr_ok (c.fact 68 (f := .mkr "Library") rfl)
    na_Library_name := He.noat_ok (c.fact 69 (f := .noat "Library" "name") rfl)
    na_Library_needs := He.noat_ok (c.fact 70 (f := .noat "Library" "needs") rfl)
    na_Library_defines := He.noat_ok (c.fact 71 (f := .noat "Library" "defines") rfl)
    na_Library_uses := He.noat_ok (c.fact 72 (f := .noat "Library" "uses") rfl)
    na_Library_weak := He.noat_ok (c.fact 73 (f := .noat "Library" "weak") rfl)
    na_Library_eager := He.noat_ok (c.fact 74 (f := .noat "Library" "eager") rfl)
    na_Library_own_first := He.noat_ok (c.fact 75 (f := .noat "Library" "own_first") rfl)
    m_Store___init__ := He.meth_ok (c.fact 76 (f := .meth "Store" "__init__") rfl)
    m_Store___contains__ := He.meth_ok (c.fact 77 (f := .meth "Store" "__contains__") rfl)
    m_Store___getitem__ := He.meth_ok (c.fact 78 (f := .meth "Store" "__getitem__") rfl)
    m_Store___iter__ := He.meth_ok (c.fact 79 (f := .meth "Store" "__iter__") rfl)
    m_Store___len__ := He.meth_ok (c.fact 80 (f := .meth "Store" "__len__") rfl)
    c_Store := He.cls_ok (c.fact 81 (f := .cls "Store") rfl)
    mk_Store := He.mkr_ok (c.fact 82 (f := .mkr "Store") rfl)
    na_Store__table := He.noat_ok (c.fact 83 (f := .noat "Store" "_table") rfl)
    na_NoLibrary_part := He.noat_ok (c.fact 84 (f := .noat "NoLibrary" "part") rfl)
    na_NoStore_at := He.noat_ok (c.fact 85 (f := .noat "NoStore" "at") rfl)
    na_NoName_name := He.noat_ok (c.fact 86 (f := .noat "NoName" "name") rfl)
    na_Missing_name := He.noat_ok (c.fact 87 (f := .noat "Missing" "name") rfl)
    na_NoWishes_symbol := He.noat_ok (c.fact 88 (f := .noat "NoWishes" "symbol") rfl)
    exm_LoadError_LoadError := He.exm_ok (c.fact 89 (f := .exm "LoadError" "LoadError" true) rfl)
    exm_LoadError_NoLibrary := He.exm_ok (c.fact 90 (f := .exm "LoadError" "NoLibrary" false) rfl)
    exm_LoadError_NoStore := He.exm_ok (c.fact 91 (f := .exm "LoadError" "NoStore" false) rfl)
    exm_LoadError_NoName := He.exm_ok (c.fact 92 (f := .exm "LoadError" "NoName" false) rfl)
    exm_LoadError_Missing := He.exm_ok (c.fact 93 (f := .exm "LoadError" "Missing" false) rfl)
    exm_LoadError_NoWishes := He.exm_ok (c.fact 94 (f := .exm "LoadError" "NoWishes" false) rfl)
    exm_NoLibrary_LoadError := He.exm_ok (c.fact 95 (f := .exm "NoLibrary" "LoadError" true) rfl)
    exm_NoLibrary_NoLibrary := He.exm_ok (c.fact 96 (f := .exm "NoLibrary" "NoLibrary" true) rfl)
    exm_NoLibrary_NoStore := He.exm_ok (c.fact 97 (f := .exm "NoLibrary" "NoStore" false) rfl)
    exm_NoLibrary_NoName := He.exm_ok (c.fact 98 (f := .exm "NoLibrary" "NoName" false) rfl)
    exm_NoLibrary_Missing := He.exm_ok (c.fact 99 (f := .exm "NoLibrary" "Missing" false) rfl)
    exm_NoLibrary_NoWishes := He.exm_ok (c.fact 100 (f := .exm "NoLibrary" "NoWishes" false) rfl)
    exm_NoStore_LoadError := He.exm_ok (c.fact 101 (f := .exm "NoStore" "LoadError" true) rfl)
    exm_NoStore_NoLibrary := He.exm_ok (c.fact 102 (f := .exm "NoStore" "NoLibrary" false) rfl)
    exm_NoStore_NoStore := He.exm_ok (c.fact 103 (f := .exm "NoStore" "NoStore" true) rfl)
    exm_NoStore_NoName := He.exm_ok (c.fact 104 (f := .exm "NoStore" "NoName" false) rfl)
    exm_NoStore_Missing := He.exm_ok (c.fact 105 (f := .exm "NoStore" "Missing" false) rfl)
    exm_NoStore_NoWishes := He.exm_ok (c.fact 106 (f := .exm "NoStore" "NoWishes" false) rfl)
    exm_NoName_LoadError := He.exm_ok (c.fact 107 (f := .exm "NoName" "LoadError" true) rfl)
    exm_NoName_NoLibrary := He.exm_ok (c.fact 108 (f := .exm "NoName" "NoLibrary" false) rfl)
    exm_NoName_NoStore := He.exm_ok (c.fact 109 (f := .exm "NoName" "NoStore" false) rfl)
    exm_NoName_NoName := He.exm_ok (c.fact 110 (f := .exm "NoName" "NoName" true) rfl)
    exm_NoName_Missing := He.exm_ok (c.fact 111 (f := .exm "NoName" "Missing" false) rfl)
    exm_NoName_NoWishes := He.exm_ok (c.fact 112 (f := .exm "NoName" "NoWishes" false) rfl)
    exm_Missing_LoadError := He.exm_ok (c.fact 113 (f := .exm "Missing" "LoadError" true) rfl)
    exm_Missing_NoLibrary := He.exm_ok (c.fact 114 (f := .exm "Missing" "NoLibrary" false) rfl)
    exm_Missing_NoStore := He.exm_ok (c.fact 115 (f := .exm "Missing" "NoStore" false) rfl)
    exm_Missing_NoName := He.exm_ok (c.fact 116 (f := .exm "Missing" "NoName" false) rfl)
    exm_Missing_Missing := He.exm_ok (c.fact 117 (f := .exm "Missing" "Missing" true) rfl)
    exm_Missing_NoWishes := He.exm_ok (c.fact 118 (f := .exm "Missing" "NoWishes" false) rfl)
    exm_NoWishes_LoadError := He.exm_ok (c.fact 119 (f := .exm "NoWishes" "LoadError" true) rfl)
    exm_NoWishes_NoLibrary := He.exm_ok (c.fact 120 (f := .exm "NoWishes" "NoLibrary" false) rfl)
    exm_NoWishes_NoStore := He.exm_ok (c.fact 121 (f := .exm "NoWishes" "NoStore" false) rfl)
    exm_NoWishes_NoName := He.exm_ok (c.fact 122 (f := .exm "NoWishes" "NoName" false) rfl)
    exm_NoWishes_Missing := He.exm_ok (c.fact 123 (f := .exm "NoWishes" "Missing" false) rfl)
    exm_NoWishes_NoWishes := He.exm_ok (c.fact 124 (f := .exm "NoWishes" "NoWishes" true) rfl)
    e_LoadError := excB_ok (List.all_eq_true.mp x1 "LoadError" (by simp))
    kv_LoadError := of_decide_eq_true (List.all_eq_true.mp x6 "LoadError" (by simp))
    e_NoLibrary := excB_ok (List.all_eq_true.mp x1 "NoLibrary" (by simp))
    kv_NoLibrary := of_decide_eq_true (List.all_eq_true.mp x6 "NoLibrary" (by simp))
    e_NoStore := excB_ok (List.all_eq_true.mp x1 "NoStore" (by simp))
    kv_NoStore := of_decide_eq_true (List.all_eq_true.mp x6 "NoStore" (by simp))
    e_NoName := excB_ok (List.all_eq_true.mp x1 "NoName" (by simp))
    kv_NoName := of_decide_eq_true (List.all_eq_true.mp x6 "NoName" (by simp))
    e_Missing := excB_ok (List.all_eq_true.mp x1 "Missing" (by simp))
    kv_Missing := of_decide_eq_true (List.all_eq_true.mp x6 "Missing" (by simp))
    e_NoWishes := excB_ok (List.all_eq_true.mp x1 "NoWishes" (by simp))
    kv_NoWishes := of_decide_eq_true (List.all_eq_true.mp x6 "NoWishes" (by simp))
    o_Library := ownB_ok (List.all_eq_true.mp x2 "Library" (by simp))
    o_Store := ownB_ok (List.all_eq_true.mp x2 "Store" (by simp))
    k_Library_Library := of_decide_eq_true (List.all_eq_true.mp (List.all_eq_true.mp x3 "Library" (by simp)) "Library" (by simp))
    k_Library_Store := of_decide_eq_true (List.all_eq_true.mp (List.all_eq_true.mp x3 "Library" (by simp)) "Store" (by simp))
    k_Store_Library := of_decide_eq_true (List.all_eq_true.mp (List.all_eq_true.mp x3 "Store" (by simp)) "Library" (by simp))
    k_Store_Store := of_decide_eq_true (List.all_eq_true.mp (List.all_eq_true.mp x3 "Store" (by simp)) "Store" (by simp))
    kw_Library_needs := fun H => emptyB_pt (List.all_eq_true.mp x4 (kwAt ("Library", some "__init__") "needs") (by simp)) H
    kw_Library_defines := fun H => emptyB_pt (List.all_eq_true.mp x4 (kwAt ("Library", some "__init__") "defines") (by simp)) H
    kw_Library_uses := fun H => emptyB_pt (List.all_eq_true.mp x4 (kwAt ("Library", some "__init__") "uses") (by simp)) H
    kw_Library_weak := fun H => emptyB_pt (List.all_eq_true.mp x4 (kwAt ("Library", some "__init__") "weak") (by simp)) H
    ke_LoadError_LoadError := of_decide_eq_true (List.all_eq_true.mp x5 ("LoadError", "LoadError", true) (by simp))
    ke_LoadError_NoLibrary := of_decide_eq_true (List.all_eq_true.mp x5 ("LoadError", "NoLibrary", false) (by simp))
    ke_LoadError_NoStore := of_decide_eq_true (List.all_eq_true.mp x5 ("LoadError", "NoStore", false) (by simp))
    ke_LoadError_NoName := of_decide_eq_true (List.all_eq_true.mp x5 ("LoadError", "NoName", false) (by simp))
    ke_LoadError_Missing := of_decide_eq_true (List.all_eq_true.mp x5 ("LoadError", "Missing", false) (by simp))
    ke_LoadError_NoWishes := of_decide_eq_true (List.all_eq_true.mp x5 ("LoadError", "NoWishes", false) (by simp))
    ke_NoLibrary_LoadError := of_decide_eq_true (List.all_eq_true.mp x5 ("NoLibrary", "LoadError", true) (by simp))
    ke_NoLibrary_NoLibrary := of_decide_eq_true (List.all_eq_true.mp x5 ("NoLibrary", "NoLibrary", true) (by simp))
    ke_NoLibrary_NoStore := of_decide_eq_true (List.all_eq_true.mp x5 ("NoLibrary", "NoStore", false) (by simp))
    ke_NoLibrary_NoName := of_decide_eq_true (List.all_eq_true.mp x5 ("NoLibrary", "NoName", false) (by simp))
    ke_NoLibrary_Missing := of_decide_eq_true (List.all_eq_true.mp x5 ("NoLibrary", "Missing", false) (by simp))
    ke_NoLibrary_NoWishes := of_decide_eq_true (List.all_eq_true.mp x5 ("NoLibrary", "NoWishes", false) (by simp))
    ke_NoStore_LoadError := of_decide_eq_true (List.all_eq_true.mp x5 ("NoStore", "LoadError", true) (by simp))
    ke_NoStore_NoLibrary := of_decide_eq_true (List.all_eq_true.mp x5 ("NoStore", "NoLibrary", false) (by simp))
    ke_NoStore_NoStore := of_decide_eq_true (List.all_eq_true.mp x5 ("NoStore", "NoStore", true) (by simp))
    ke_NoStore_NoName := of_decide_eq_true (List.all_eq_true.mp x5 ("NoStore", "NoName", false) (by simp))
    ke_NoStore_Missing := of_decide_eq_true (List.all_eq_true.mp x5 ("NoStore", "Missing", false) (by simp))
    ke_NoStore_NoWishes := of_decide_eq_true (List.all_eq_true.mp x5 ("NoStore", "NoWishes", false) (by simp))
    ke_NoName_LoadError := of_decide_eq_true (List.all_eq_true.mp x5 ("NoName", "LoadError", true) (by simp))
    ke_NoName_NoLibrary := of_decide_eq_true (List.all_eq_true.mp x5 ("NoName", "NoLibrary", false) (by simp))
    ke_NoName_NoStore := of_decide_eq_true (List.all_eq_true.mp x5 ("NoName", "NoStore", false) (by simp))
    ke_NoName_NoName := of_decide_eq_true (List.all_eq_true.mp x5 ("NoName", "NoName", true) (by simp))
    ke_NoName_Missing := of_decide_eq_true (List.all_eq_true.mp x5 ("NoName", "Missing", false) (by simp))
    ke_NoName_NoWishes := of_decide_eq_true (List.all_eq_true.mp x5 ("NoName", "NoWishes", false) (by simp))
    ke_Missing_LoadError := of_decide_eq_true (List.all_eq_true.mp x5 ("Missing", "LoadError", true) (by simp))
    ke_Missing_NoLibrary := of_decide_eq_true (List.all_eq_true.mp x5 ("Missing", "NoLibrary", false) (by simp))
    ke_Missing_NoStore := of_decide_eq_true (List.all_eq_true.mp x5 ("Missing", "NoStore", false) (by simp))
    ke_Missing_NoName := of_decide_eq_true (List.all_eq_true.mp x5 ("Missing", "NoName", false) (by simp))
    ke_Missing_Missing := of_decide_eq_true (List.all_eq_true.mp x5 ("Missing", "Missing", true) (by simp))
    ke_Missing_NoWishes := of_decide_eq_true (List.all_eq_true.mp x5 ("Missing", "NoWishes", false) (by simp))
    ke_NoWishes_LoadError := of_decide_eq_true (List.all_eq_true.mp x5 ("NoWishes", "LoadError", true) (by simp))
    ke_NoWishes_NoLibrary := of_decide_eq_true (List.all_eq_true.mp x5 ("NoWishes", "NoLibrary", false) (by simp))
    ke_NoWishes_NoStore := of_decide_eq_true (List.all_eq_true.mp x5 ("NoWishes", "NoStore", false) (by simp))
    ke_NoWishes_NoName := of_decide_eq_true (List.all_eq_true.mp x5 ("NoWishes", "NoName", false) (by simp))
    ke_NoWishes_Missing := of_decide_eq_true (List.all_eq_true.mp x5 ("NoWishes", "Missing", false) (by simp))
    ke_NoWishes_NoWishes := of_decide_eq_true (List.all_eq_true.mp x5 ("NoWishes", "NoWishes", true) (by simp))
    fi_Store := x7
  }⟩
theorem b_NoLibrary___init__ {K : PySem.W.Frag} {mg : Str → Option Value} (T : Top K mg) : Binds K T.fd_NoLibrary___init__ ps_NoLibrary___init__ [] := T.F_NoLibrary___init__.bindsN fun _ _ _ _ _ _ us hl => match us, hl with | [_, _], _ => rfl
theorem b_NoStore___init__ {K : PySem.W.Frag} {mg : Str → Option Value} (T : Top K mg) : Binds K T.fd_NoStore___init__ ps_NoStore___init__ [] := T.F_NoStore___init__.bindsN fun _ _ _ _ _ _ us hl => match us, hl with | [_, _], _ => rfl
theorem b_NoName___init__ {K : PySem.W.Frag} {mg : Str → Option Value} (T : Top K mg) : Binds K T.fd_NoName___init__ ps_NoName___init__ [] := T.F_NoName___init__.bindsN fun _ _ _ _ _ _ us hl => match us, hl with | [_, _], _ => rfl
theorem b_Missing___init__ {K : PySem.W.Frag} {mg : Str → Option Value} (T : Top K mg) : Binds K T.fd_Missing___init__ ps_Missing___init__ [] := T.F_Missing___init__.bindsN fun _ _ _ _ _ _ us hl => match us, hl with | [_, _], _ => rfl
theorem b_NoWishes___init__ {K : PySem.W.Frag} {mg : Str → Option Value} (T : Top K mg) : Binds K T.fd_NoWishes___init__ ps_NoWishes___init__ [] := T.F_NoWishes___init__.bindsN fun _ _ _ _ _ _ us hl => match us, hl with | [_, _], _ => rfl
theorem b_is_word {K : PySem.W.Frag} {mg : Str → Option Value} (T : Top K mg) : Binds K T.fd_is_word ps_is_word [] := T.F_is_word.bindsN fun _ _ _ _ _ _ us hl => match us, hl with | [_], _ => rfl
theorem b_are_words {K : PySem.W.Frag} {mg : Str → Option Value} (T : Top K mg) : Binds K T.fd_are_words ps_are_words [] := T.F_are_words.bindsN fun _ _ _ _ _ _ us hl => match us, hl with | [_, _], _ => rfl
theorem b_closure {K : PySem.W.Frag} {mg : Str → Option Value} (T : Top K mg) : Binds K T.fd_closure ps_closure [] := T.F_closure.bindsN fun _ _ _ _ _ _ us hl => match us, hl with | [_, _], _ => rfl
theorem b_first_definer {K : PySem.W.Frag} {mg : Str → Option Value} (T : Top K mg) : Binds K T.fd_first_definer ps_first_definer [] := T.F_first_definer.bindsN fun _ _ _ _ _ _ us hl => match us, hl with | [_, _, _], _ => rfl
theorem b_check_wishes {K : PySem.W.Frag} {mg : Str → Option Value} (T : Top K mg) : Binds K T.fd_check_wishes ps_check_wishes [] := T.F_check_wishes.bindsN fun _ _ _ _ _ _ us hl => match us, hl with | [_, _], _ => rfl
theorem b_least_preloads {K : PySem.W.Frag} {mg : Str → Option Value} (T : Top K mg) : Binds K T.fd_least_preloads ps_least_preloads [] := T.F_least_preloads.bindsN fun _ _ _ _ _ _ us hl => match us, hl with | [_, _, _], _ => rfl
theorem b_elders_of {K : PySem.W.Frag} {mg : Str → Option Value} (T : Top K mg) : Binds K T.fd_elders_of ps_elders_of [] := T.F_elders_of.bindsN fun _ _ _ _ _ _ us hl => match us, hl with | [_, _, _, _], _ => rfl
theorem b_required {K : PySem.W.Frag} {mg : Str → Option Value} (T : Top K mg) : Binds K T.fd_required ps_required [] := T.F_required.bindsN fun _ _ _ _ _ _ us hl => match us, hl with | [_, _, _, _], _ => rfl
theorem b_arranged {K : PySem.W.Frag} {mg : Str → Option Value} (T : Top K mg) : Binds K T.fd_arranged ps_arranged [] := T.F_arranged.bindsN fun _ _ _ _ _ _ us hl => match us, hl with | [_], _ => rfl
theorem b_ring_of {K : PySem.W.Frag} {mg : Str → Option Value} (T : Top K mg) : Binds K T.fd_ring_of ps_ring_of [] := T.F_ring_of.bindsN fun _ _ _ _ _ _ us hl => match us, hl with | [_, _], _ => rfl
theorem b_first_elder {K : PySem.W.Frag} {mg : Str → Option Value} (T : Top K mg) : Binds K T.fd_first_elder ps_first_elder [] := T.F_first_elder.bindsN fun _ _ _ _ _ _ us hl => match us, hl with | [_, _, _], _ => rfl
theorem b_Library___eq__ {K : PySem.W.Frag} {mg : Str → Option Value} (T : Top K mg) : Binds K T.fd_Library___eq__ ps_Library___eq__ [] := T.F_Library___eq__.bindsN fun _ _ _ _ _ _ us hl => match us, hl with | [_, _], _ => rfl
theorem b_Store___init__ {K : PySem.W.Frag} {mg : Str → Option Value} (T : Top K mg) : Binds K T.fd_Store___init__ ps_Store___init__ [] := T.F_Store___init__.bindsN fun _ _ _ _ _ _ us hl => match us, hl with | [_, _], _ => rfl
theorem b_Store___contains__ {K : PySem.W.Frag} {mg : Str → Option Value} (T : Top K mg) : Binds K T.fd_Store___contains__ ps_Store___contains__ [] := T.F_Store___contains__.bindsN fun _ _ _ _ _ _ us hl => match us, hl with | [_, _], _ => rfl
theorem b_Store___getitem__ {K : PySem.W.Frag} {mg : Str → Option Value} (T : Top K mg) : Binds K T.fd_Store___getitem__ ps_Store___getitem__ [] := T.F_Store___getitem__.bindsN fun _ _ _ _ _ _ us hl => match us, hl with | [_, _], _ => rfl
theorem b_Store___iter__ {K : PySem.W.Frag} {mg : Str → Option Value} (T : Top K mg) : Binds K T.fd_Store___iter__ ps_Store___iter__ [] := T.F_Store___iter__.bindsN fun _ _ _ _ _ _ us hl => match us, hl with | [_], _ => rfl
theorem b_Store___len__ {K : PySem.W.Frag} {mg : Str → Option Value} (T : Top K mg) : Binds K T.fd_Store___len__ ps_Store___len__ [] := T.F_Store___len__.bindsN fun _ _ _ _ _ _ us hl => match us, hl with | [_], _ => rfl
theorem b__law_cell_at {K : PySem.W.Frag} {mg : Str → Option Value} (T : Top K mg) : Binds K T.fd__law_cell_at ps__law_cell_at [] := T.F__law_cell_at.bindsN fun _ _ _ _ _ _ us hl => match us, hl with | [_, _], _ => rfl
theorem b__law_begin {K : PySem.W.Frag} {mg : Str → Option Value} (T : Top K mg) : Binds K T.fd__law_begin ps__law_begin [] := T.F__law_begin.bindsN fun _ _ _ _ _ _ us hl => match us, hl with | [_], _ => rfl
theorem b__law_draw {K : PySem.W.Frag} {mg : Str → Option Value} (T : Top K mg) : Binds K T.fd__law_draw ps__law_draw [] := T.F__law_draw.bindsN fun _ _ _ _ _ _ us hl => match us, hl with | [_, _], _ => rfl
theorem b__law_pick {K : PySem.W.Frag} {mg : Str → Option Value} (T : Top K mg) : Binds K T.fd__law_pick ps__law_pick [] := T.F__law_pick.bindsN fun _ _ _ _ _ _ us hl => match us, hl with | [_, _], _ => rfl
theorem b__law_part {K : PySem.W.Frag} {mg : Str → Option Value} (T : Top K mg) : Binds K T.fd__law_part ps__law_part [] := T.F__law_part.bindsN fun _ _ _ _ _ _ us hl => match us, hl with | [_, _, _], _ => rfl
theorem b__law_spelled {K : PySem.W.Frag} {mg : Str → Option Value} (T : Top K mg) : Binds K T.fd__law_spelled ps__law_spelled [] := T.F__law_spelled.bindsN fun _ _ _ _ _ _ us hl => match us, hl with | [_, _], _ => rfl
theorem b__law_library {K : PySem.W.Frag} {mg : Str → Option Value} (T : Top K mg) : Binds K T.fd__law_library ps__law_library [] := T.F__law_library.bindsN fun _ _ _ _ _ _ us hl => match us, hl with | [_, _, _, _, _], _ => rfl
theorem b__law_libraries {K : PySem.W.Frag} {mg : Str → Option Value} (T : Top K mg) : Binds K T.fd__law_libraries ps__law_libraries [] := T.F__law_libraries.bindsN fun _ _ _ _ _ _ us hl => match us, hl with | [_, _, _], _ => rfl
theorem b__law_stored {K : PySem.W.Frag} {mg : Str → Option Value} (T : Top K mg) : Binds K T.fd__law_stored ps__law_stored [] := T.F__law_stored.bindsN fun _ _ _ _ _ _ us hl => match us, hl with | [_], _ => rfl
theorem b__law_closed {K : PySem.W.Frag} {mg : Str → Option Value} (T : Top K mg) : Binds K T.fd__law_closed ps__law_closed [] := T.F__law_closed.bindsN fun _ _ _ _ _ _ us hl => match us, hl with | [_, _], _ => rfl
theorem b__law_complete {K : PySem.W.Frag} {mg : Str → Option Value} (T : Top K mg) : Binds K T.fd__law_complete ps__law_complete [] := T.F__law_complete.bindsN fun _ _ _ _ _ _ us hl => match us, hl with | [_], _ => rfl
theorem b__law_definer {K : PySem.W.Frag} {mg : Str → Option Value} (T : Top K mg) : Binds K T.fd__law_definer ps__law_definer [] := T.F__law_definer.bindsN fun _ _ _ _ _ _ us hl => match us, hl with | [_, _, _], _ => rfl
theorem b__law_wishes {K : PySem.W.Frag} {mg : Str → Option Value} (T : Top K mg) : Binds K T.fd__law_wishes ps__law_wishes [] := T.F__law_wishes.bindsN fun _ _ _ _ _ _ us hl => match us, hl with | [_, _, _], _ => rfl
theorem b__law_global {K : PySem.W.Frag} {mg : Str → Option Value} (T : Top K mg) : Binds K T.fd__law_global ps__law_global [] := T.F__law_global.bindsN fun _ _ _ _ _ _ us hl => match us, hl with | [_, _, _], _ => rfl
theorem b__law_met {K : PySem.W.Frag} {mg : Str → Option Value} (T : Top K mg) : Binds K T.fd__law_met ps__law_met [] := T.F__law_met.bindsN fun _ _ _ _ _ _ us hl => match us, hl with | [_, _, _], _ => rfl
theorem b__law_ahead {K : PySem.W.Frag} {mg : Str → Option Value} (T : Top K mg) : Binds K T.fd__law_ahead ps__law_ahead [] := T.F__law_ahead.bindsN fun _ _ _ _ _ _ us hl => match us, hl with | [_, _, _, _], _ => rfl
theorem b__law_orders {K : PySem.W.Frag} {mg : Str → Option Value} (T : Top K mg) : Binds K T.fd__law_orders ps__law_orders [] := T.F__law_orders.bindsN fun _ _ _ _ _ _ us hl => match us, hl with | [_], _ => rfl
theorem b__law_order_right {K : PySem.W.Frag} {mg : Str → Option Value} (T : Top K mg) : Binds K T.fd__law_order_right ps__law_order_right [] := T.F__law_order_right.bindsN fun _ _ _ _ _ _ us hl => match us, hl with | [_, _, _, _], _ => rfl
theorem b__law_hoped {K : PySem.W.Frag} {mg : Str → Option Value} (T : Top K mg) : Binds K T.fd__law_hoped ps__law_hoped [] := T.F__law_hoped.bindsN fun _ _ _ _ _ _ us hl => match us, hl with | [_, _, _, _], _ => rfl
theorem b_law {K : PySem.W.Frag} {mg : Str → Option Value} (T : Top K mg) : Binds K T.fd_law ps_law [] := T.F_law.bindsN fun _ _ _ _ _ _ us hl => match us, hl with | [_], _ => rfl
end Sb


set_option Elab.async false
set_option linter.all false
set_option maxRecDepth 100000
set_option maxHeartbeats 8000000
namespace Sb
open PySem L2
local macro_rules | `(tactic| walk_at "nrm") => `(tactic| try dsimp only [L2.start, List.map, List.length_cons, List.length_nil, List.cons_append, List.nil_append, List.replicate, Nat.reduceAdd, Nat.reduceSub, List.set_cons_zero, List.set_cons_succ, wipe])
theorem look_hit {f : Str} {v : V} {r : List (Str × V)} : ((f, v) :: r).lookup f = some v := by simp [List.lookup]
theorem look_skip {f g : Str} {v : V} {r : List (Str × V)} {o : Option V} (h : decide (f = g) = false) (q : r.lookup f = o) : ((g, v) :: r).lookup f = o := by
  have h' : (f == g) = false := by simpa using h
  simp [List.lookup, h', q]
section
variable {l : Lib} {a1 a2 a3 a4 : Addr}
theorem lk_name : (libFs l a1 a2 a3 a4).lookup ("name" : Str) = some (.str l.name) := look_hit
theorem lk_needs : (libFs l a1 a2 a3 a4).lookup ("needs" : Str) = some (.ref a1) := look_skip (by decide +kernel) look_hit
theorem lk_defines : (libFs l a1 a2 a3 a4).lookup ("defines" : Str) = some (.ref a2) := look_skip (by decide +kernel) (look_skip (by decide +kernel) look_hit)
theorem lk_uses : (libFs l a1 a2 a3 a4).lookup ("uses" : Str) = some (.ref a3) := look_skip (by decide +kernel) (look_skip (by decide +kernel) (look_skip (by decide +kernel) look_hit))
theorem lk_weak : (libFs l a1 a2 a3 a4).lookup ("weak" : Str) = some (.ref a4) := look_skip (by decide +kernel) (look_skip (by decide +kernel) (look_skip (by decide +kernel) (look_skip (by decide +kernel) look_hit)))
theorem lk_eager : (libFs l a1 a2 a3 a4).lookup ("eager" : Str) = some (.bl l.eager) := look_skip (by decide +kernel) (look_skip (by decide +kernel) (look_skip (by decide +kernel) (look_skip (by decide +kernel) (look_skip (by decide +kernel) look_hit))))
theorem lk_own : (libFs l a1 a2 a3 a4).lookup ("own_first" : Str) = some (.bl l.own) := look_skip (by decide +kernel) (look_skip (by decide +kernel) (look_skip (by decide +kernel) (look_skip (by decide +kernel) (look_skip (by decide +kernel) (look_skip (by decide +kernel) look_hit)))))
end
/-! ### is_word, are_words -/
section
variable {P : Program} {w : World} {K : PySem.W.Frag} {mg : Str → Option Value} {base : Heap}
theorem ok_is_word (T : Top K mg) : FnOk P w K mg base CX0 1 (He.ga K "is_word") T.fd_is_word ps_is_word (spIsWord K) := by
  obtain ⟨tL, hL⟩ := T.i_LONGEST
  refine T.F_is_word.ok sc_is_word (fun vs H Q E h => ?_) (fun cdv A outer s H vs Q E hr h => ?_)
  · obtain ⟨F, L, x, rfl, _⟩ := h
    rfl
  · obtain ⟨F, L, x, rfl, S, ⟨t, b, hty, hk, hb1, hb0⟩, k⟩ := h
    refine ⟨_, PSs.nox (pss_cons (ps_if (PW.pt (pw_or (pt_not (pt_val (pe_callB call_isi (by rfl) T.n_isinstance (by decide +kernel) (pa_cons (pv 0) (pa_cons (pe_bltn (v := .ty "str") (by rfl) T.n_str (by decide +kernel) rfl) pa_nil)))))
        (pw_or1 (pt_not (pt_chain op_le op_le pe_int (pe_callB call_len (by rfl) T.n_len PySem.boot_len (pa_cons (pv 0) pa_nil)) (pe_glob (v := .int 12) rfl hL ⟨_, rfl⟩)))))) (pss_one (ps_ret pe_bl)) pss_nil)
      (pss_one (ps_ret (pe_callB (cr_all rfl) (by rfl) T.n_all (by decide +kernel) (pa_cons (pe_lc (own := [("letter", 1)]) (g := gName 1) rfl sc_is_word.nd (pi_str (pv 0))
        (blkOk_by (N := ["thing", "letter"]) (sc := defScope s_is_word) (by decide +kernel)) (fun _ _ _ _ _ => pg_name (i := 1) sc_is_word.nd rfl (Or.inl rfl)) (fun _ _ _ _ _ => pts_nil) (fun _ _ _ _ _ => pe_chain op_le_str op_le_str pe_str (pv 1) pe_str)) pa_nil))))), ?_⟩
    walk_at "nrm"
    refine ⟨_, rfl, x, _, t, _, b, rfl, .ty _, Gr.tyX S.fr hty, hk, _, rfl, ?_⟩
    cases b with
    | false =>
      have e := hb0 rfl
      have q := k H S
      rw [e] at q
      exact q
    | true =>
      obtain ⟨z, rfl, hz⟩ := hb1 rfl
      refine iteF ?_
      refine ⟨_, rfl, _, z.length, rfl, ⟨sz hz, rfl⟩, _, _, rfl, rfl, _, rfl, ?_⟩
      have e1 : decide ((1 : Int) ≤ (z.length : Int)) = decide (1 ≤ z.length) := by congr 1; exact propext ⟨fun h => by omega, fun h => by omega⟩
      have e2 : decide ((z.length : Int) ≤ 12) = decide (z.length ≤ 12) := by congr 1; exact propext ⟨fun h => by omega, fun h => by omega⟩
      have qF : (decide (1 ≤ z.length) && decide (z.length ≤ 12)) = false → Q (.bl false) H := fun e => by
        have q := k H S
        have e' : isW (.str z) = false := by
          show (decide (1 ≤ z.length) && decide (z.length ≤ 12) && z.cps.toList.all letB) = false
          rw [e]
          rfl
        rw [e'] at q
        exact q
      rw [e1]
      by_cases h1 : 1 ≤ z.length
      · rw [decide_eq_true h1]
        refine ⟨_, _, rfl, rfl, ?_⟩
        refine ⟨_, congrArg V.bl e2, ?_⟩
        by_cases h2 : z.length ≤ 12
        · rw [decide_eq_true h2]
          refine iteF ?_
          refine ⟨_, rfl, z, rfl, fun D hD => ?_⟩
          have hn : z.cps.size = z.cps.toList.length := by simp
          refine lc_it walk_str (fun i H' => Sta F ((D, .lst ((z.cps.toList.take i).map fun c => V.bl (letB c))) :: L) H') (by
            rw [List.take_zero]
            exact S.newL hD (.lst [])) (fun _ _ _ _ => True.intro) ?_ ?_
          · rintro i y H1 H2 hi S1 ⟨rfl, c, hc, rfl⟩
            refine ⟨rfl, ?_⟩
            walk_at "nrm"
            have hcl : z.cps.toList[i]? = some c := by simpa using hc
            have et : (z.cps.toList.take (i + 1)).map (fun c => V.bl (letB c)) = (z.cps.toList.take i).map (fun c => V.bl (letB c)) ++ [V.bl (letB c)] := by
              rw [List.take_add_one, hcl, List.map_append]
              rfl
            have hlen : ((z.cps.toList.take i).map fun c => V.bl (letB c)).length < sizeLine := by
              rw [List.length_map, List.length_take]
              have : z.cps.toList.length ≤ 12 := by rw [← hn]; exact h2
              exact szl (by omega)
            have nx : ∀ v : Bool, v = letB c → Sta F ((D, .lst ((z.cps.toList.take (i + 1)).map fun c => V.bl (letB c))) :: L) (upd H2 D (.lst ((z.cps.toList.take i).map (fun c => V.bl (letB c)) ++ [V.bl v]))) := fun v e => by
              rw [e, et]
              exact S1.set _
            refine ⟨_, rfl, _, _, rfl, rfl, _, rfl, ?_⟩
            refine ite2 (fun hx => ?_) (fun hx => ?_)
            · refine ⟨_, _, rfl, rfl, _, S1.hd, hlen, nx _ ?_⟩
              unfold letB
              rw [show (!decide ([c] < ("a" : Str).cps.toList)) = true from hx, Bool.true_and]
            · refine ⟨_, S1.hd, hlen, nx _ ?_⟩
              unfold letB
              rw [show (!decide ([c] < ("a" : Str).cps.toList)) = false from Bool.eq_false_iff.mpr hx, Bool.false_and]
          · intro H1 S1
            rw [hn, List.take_length] at S1
            refine ⟨D, z.cps.toList.map letB, rfl, ?_, ?_⟩
            · have e : (z.cps.toList.map letB).map V.bl = z.cps.toList.map fun c => V.bl (letB c) := by rw [List.map_map]; rfl
              rw [e]
              exact sq S1.hd
            · have q := k H1 S1.tl
              have e' : isW (.str z) = (z.cps.toList.map letB).all id := by
                show (decide (1 ≤ z.length) && decide (z.length ≤ 12) && z.cps.toList.all letB) = _
                rw [decide_eq_true h1, decide_eq_true h2, all_map]
                rfl
              rw [e'] at q
              exact q
        · rw [decide_eq_false h2]
          exact qF (by rw [decide_eq_false h2, Bool.and_false])
      · rw [decide_eq_false h1]
        refine iteF ?_
        refine ⟨_, rfl, ?_⟩
        exact qF (by rw [decide_eq_false h1, Bool.false_and])
theorem ok_are_words (T : Top K mg) : FnOk P w K mg base CX0 2 (He.ga K "are_words") T.fd_are_words ps_are_words (spAreWords K) := by
  refine T.F_are_words.ok sc_are_words (fun vs H Q E h => ?_) (fun cdv A outer s H vs Q E hr h => ?_)
  · obtain ⟨F, L, x, m, r, rfl, _⟩ := h
    rfl
  · obtain ⟨F, L, x, m, r, rfl, S, ⟨t, b, hty, hk, hb0, hb1⟩, k⟩ := h
    refine ⟨_, PSs.nox (pss_cons (ps_if (PW.pt (pw_or (pt_not (pt_val (pe_callB call_isi (by rfl) T.n_isinstance (by decide +kernel) (pa_cons (pv 0) (pa_cons (pe_bltn (v := .ty "tuple") (by rfl) T.n_tuple (by decide +kernel) rfl) pa_nil)))))
        (pw_or1 (pt_cmpR op_gt (pe_callB call_len (by rfl) T.n_len PySem.boot_len (pa_cons (pv 0) pa_nil)) (pv 1) (nomark _))))) (pss_one (ps_ret pe_bl)) pss_nil)
      (pss_cons (ps_if (pt_not (pt_val (pe_callB (cr_all rfl) (by rfl) T.n_all (by decide +kernel) (pa_cons (pe_lc (own := [("item", 2)]) (g := gName 2) rfl sc_are_words.nd (pi_tup (pv 0))
        (blkOk_by (N := ["thing", "most", "item", "word"]) (sc := defScope s_are_words) (by decide +kernel)) (fun _ _ _ _ _ => pg_name (i := 2) sc_are_words.nd rfl (Or.inl rfl)) (fun _ _ _ _ _ => pts_nil)
        (fun _ _ _ _ _ => pe_call (ok_is_word T) (hr.mono (by decide)) rfl T.g_is_word T.F_is_word.kp (b_is_word T) .nil pass0 (pa_cons (pv 2) pa_nil))) pa_nil)))) (pss_one (ps_ret pe_bl)) pss_nil)
      (pss_one (ps_ret (pe_callB (cr_all rfl) (by rfl) T.n_all (by decide +kernel) (pa_cons (pe_lc (own := [("word", 3)]) (g := gName 3) (te := tOp rEq (tBMP K (rTCount K) (tVar 0) (tCons (tVar 3) tNil)) (tC (.int 1))) rfl sc_are_words.nd (pi_tup (pv 0))
        (blkOk_by (N := ["thing", "most", "item", "word"]) (sc := defScope s_are_words) (by decide +kernel)) (fun _ _ _ _ _ => pg_name (i := 3) sc_are_words.nd rfl (Or.inl rfl)) (fun _ _ _ _ _ => pts_nil)
        (fun _ _ _ _ _ => pe_cmpR op_eq (pe_bmP PySem.F.plainAttrs_tuple PySem.F.slot_tuple_count PySem.F.type_tuple_count (mt_tcount (by exact room65 hr)) (pv 0) (pa_cons (pv 3) pa_nil)) pe_int (nomark _))) pa_nil)))))), ?_⟩
    walk_at "nrm"
    refine ⟨_, rfl, x, _, t, _, b, rfl, .ty _, Gr.tyX S.fr hty, hk, _, rfl, ?_⟩
    cases b with
    | false =>
      have q := k H S
      rw [hb0 rfl] at q
      exact q
    | true =>
      obtain ⟨a, xs, rfl, hx, hl, hw, hr1⟩ := hb1 rfl
      refine iteF ?_
      refine ⟨_, rfl, _, xs.length, rfl, .inr ⟨_, (hx.at S).sqT, rfl⟩, _, rfl, _, _, rfl, rfl, _, rfl, ?_⟩
      refine ite2 (fun h0 => ?_) (fun h0 => ?_)
      · have q := k H S
        have h1 : m < (xs.length : Int) := of_decide_eq_true h0
        have e : r = false := by rw [hr1]; unfold areW; rw [decide_eq_false (by omega)]; rfl
        rw [e] at q
        exact q
      · have h1 : ¬ m < (xs.length : Int) := fun z => h0 (decide_eq_true z)
        walk_at "nrm"
        refine ⟨_, rfl, a, rfl, ⟨_, (hx.at S).sqT⟩, fun D hD => ?_⟩
        refine lc_tup (xs := xs) (fun i H' => Sta F ((D, .lst ((xs.take i).map fun y => V.bl (isW y))) :: L) H') (S.newL hD (.lst [])) (fun i H' _ S' => (hx.at S').sqT) ?_ ?_
        · intro i y H1 hy S1
          refine ⟨rfl, ?_⟩
          walk_at "nrm"
          have hi : i < xs.length := (List.getElem?_eq_some_iff.mp hy).1
          refine ⟨_, rfl, F, _, y, rfl, S1, hw y (List.mem_of_getElem? hy), fun H2 S2 => ⟨_, S2.hd, ?_, ?_⟩⟩
          · rw [List.length_map, List.length_take]
            exact szl (by omega)
          · have et : (xs.take (i + 1)).map (fun y => V.bl (isW y)) = (xs.take i).map (fun y => V.bl (isW y)) ++ [V.bl (isW y)] := by
              rw [List.take_add_one, hy, List.map_append]
              rfl
            rw [et]
            exact S2.set _
        · intro H1 S1
          rw [List.take_length] at S1
          have em : (xs.map isW).map V.bl = xs.map fun y => V.bl (isW y) := by rw [List.map_map]; rfl
          refine ⟨D, xs.map isW, rfl, by rw [em]; exact sq S1.hd, _, rfl, ?_⟩
          have e0 : (xs.map isW).all id = xs.all isW := take_map_all _ _
          rw [e0]
          cases hall : xs.all isW with
          | false =>
            have q := k H1 S1.tl
            have e : r = false := by rw [hr1]; unfold areW; rw [hall, Bool.false_and, Bool.and_false]
            rw [e] at q
            exact q
          | true =>
            refine iteF ?_
            obtain ⟨ws, hws⟩ := words_strs hall
            have S2 := S1.tl
            walk_at "nrm"
            refine ⟨_, rfl, a, rfl, ⟨_, (hx.at S2).sqT⟩, fun D2 hD2 => ?_⟩
            refine lc_tup (xs := xs) (fun i H' => Sta F ((D2, .lst ((xs.take i).map fun y => V.bl (decide (xs.count y = 1)))) :: L) H') (S2.newL hD2 (.lst [])) (fun i H' _ S' => (hx.at S').sqT) ?_ ?_
            · intro i y H3 hy S3
              refine ⟨rfl, ?_⟩
              walk_at "nrm"
              have hi : i < xs.length := (List.getElem?_eq_some_iff.mp hy).1
              obtain ⟨z, hz, rfl⟩ : ∃ z, z ∈ ws ∧ V.str z = y := by
                have hm := List.mem_of_getElem? hy
                rw [hws] at hm
                exact List.mem_map.mp hm
              refine ⟨_, rfl, ⟨a, xs, rfl, hx.at S3⟩, _, rfl, a, z, ws, rfl, rfl, by rw [← hws]; exact (hx.at S3).sqT, rfl, _, S3.hd, ?_, ?_⟩
              · rw [List.length_map, List.length_take]
                exact szl (by omega)
              · have ec : decide (V.int ((ws.count z : Nat) : Int) = V.int 1) = decide (xs.count (.str z) = 1) := by
                  rw [hws, count_str]
                  congr 1
                  rw [V.int.injEq]
                  exact propext ⟨fun h => by omega, fun h => by omega⟩
                have et : (xs.take (i + 1)).map (fun y => V.bl (decide (xs.count y = 1))) = (xs.take i).map (fun y => V.bl (decide (xs.count y = 1))) ++ [V.bl (decide (xs.count (.str z) = 1))] := by
                  rw [List.take_add_one, hy, List.map_append]
                  rfl
                rw [et, ← ec]
                exact S3.set _
            · intro H3 S3
              rw [List.take_length] at S3
              have em2 : (xs.map fun y => decide (xs.count y = 1)).map V.bl = xs.map fun y => V.bl (decide (xs.count y = 1)) := by rw [List.map_map]; rfl
              refine ⟨D2, xs.map fun y => decide (xs.count y = 1), rfl, by rw [em2]; exact sq S3.hd, ?_⟩
              have q := k H3 S3.tl
              have e : r = (xs.map fun y => decide (xs.count y = 1)).all id := by
                rw [hr1, take_map_all]
                unfold areW
                rw [hall, Bool.true_and, decide_eq_true (by omega), Bool.true_and]
              rw [e] at q
              exact q
end

/-! ### Library -/
section
variable {P : Program} {w : World} {K : PySem.W.Frag} {mg : Str → Option Value} {base : Heap}
theorem ok_lib_init (T : Top K mg) : FnOk P w K mg base CX0 3 (He.ma K (He.ga K "Library") "__init__") T.fd_Library___init__ ps_Library___init__ (spLibInit K) := by
  obtain ⟨t1, h12⟩ := T.i_MOST_NEEDS
  obtain ⟨t2, h20⟩ := T.i_MOST_SYMBOLS
  refine T.F_Library___init__.ok sc_Library___init__ (fun vs H Q E h => ?_) (fun cdv A outer s H vs Q E hr h => ?_)
  · obtain ⟨F, L, p, dx, a1, a2, a3, a4, l, rfl, _⟩ := h
    rfl
  · obtain ⟨F, L, p, dx, a1, a2, a3, a4, l, rfl, S, hok, p1, p2, p3, p4, k⟩ := h
    refine ⟨_, PSs.nox
      (pss_cons (ps_if (pt_not (pt_val (pe_call (ok_is_word T) (hr.mono (by decide)) rfl T.g_is_word T.F_is_word.kp (b_is_word T) .nil pass0 (pa_cons (pv 1) pa_nil)))) (pss_one ps_never) pss_nil)
      (pss_cons (ps_if (PW.pt (pw_or (pt_not (pt_val (pe_call (ok_are_words T) (hr.mono (by decide)) rfl T.g_are_words T.F_are_words.kp (b_are_words T) .nil pass0 (pa_cons (pv 2) (pa_cons (pe_glob (v := .int 12) rfl h12 ⟨_, rfl⟩) pa_nil))))) (pw_or1 (pt_cmpR op_in_seq (pv 1) (pv 2) (by rfl))))) (pss_one ps_never) pss_nil)
      (pss_cons (ps_if (pt_not (pt_val (pe_call (ok_are_words T) (hr.mono (by decide)) rfl T.g_are_words T.F_are_words.kp (b_are_words T) .nil pass0 (pa_cons (pv 3) (pa_cons (pe_glob (v := .int 20) rfl h20 ⟨_, rfl⟩) pa_nil))))) (pss_one ps_never) pss_nil)
      (pss_cons (ps_if (pt_not (pt_val (pe_call (ok_are_words T) (hr.mono (by decide)) rfl T.g_are_words T.F_are_words.kp (b_are_words T) .nil pass0 (pa_cons (pv 4) (pa_cons (pe_glob (v := .int 20) rfl h20 ⟨_, rfl⟩) pa_nil))))) (pss_one ps_never) pss_nil)
      (pss_cons (ps_if (PW.pt (pw_or (pt_not (pt_val (pe_call (ok_are_words T) (hr.mono (by decide)) rfl T.g_are_words T.F_are_words.kp (b_are_words T) .nil pass0 (pa_cons (pv 5) (pa_cons (pe_glob (v := .int 20) rfl h20 ⟨_, rfl⟩) pa_nil)))))
        (pw_or1 (pt_not (pt_val (pe_callB (cr_all rfl) (by rfl) T.n_all (by decide +kernel) (pa_cons (pe_lc (own := [("symbol", 8)]) (g := gName 8) (te := tOp (rIn K false) (tVar 8) (tVar 4)) rfl sc_Library___init__.nd (pi_tup (pv 5))
          (blkOk_by (N := ["self", "name", "needs", "defines", "uses", "weak", "eager", "own_first", "symbol"]) (sc := defScope s_Library___init__) (by decide +kernel)) (fun _ _ _ _ _ => pg_name (i := 8) sc_Library___init__.nd rfl (Or.inl rfl)) (fun _ _ _ _ _ => pts_nil)
          (fun _ _ _ _ _ => pe_cmpR op_in_seq (pv 8) (pv 4) (by rfl))) pa_nil))))))) (pss_one ps_never) pss_nil)
      (pss_cons (ps_if (pt_not (pt_val (pe_callB call_isi (by rfl) T.n_isinstance (by decide +kernel) (pa_cons (pv 6) (pa_cons (pe_bltn (v := .ty "bool") (by rfl) T.n_bool (by decide +kernel) rfl) pa_nil))))) (pss_one ps_never) pss_nil)
      (pss_cons (ps_if (pt_not (pt_val (pe_callB call_isi (by rfl) T.n_isinstance (by decide +kernel) (pa_cons (pv 7) (pa_cons (pe_bltn (v := .ty "bool") (by rfl) T.n_bool (by decide +kernel) rfl) pa_nil))))) (pss_one ps_never) pss_nil)
      (pss_cons (ps_fld (pv 0) (pv 1) rfl) (pss_cons (ps_fld (pv 0) (pv 2) rfl) (pss_cons (ps_fld (pv 0) (pv 3) rfl) (pss_cons (ps_fld (pv 0) (pv 4) rfl) (pss_cons (ps_fld (pv 0) (pv 5) rfl) (pss_cons (ps_fld (pv 0) (pv 6) rfl) (pss_one (ps_fld (pv 0) (pv 7) rfl))))))))))))))), ?_⟩
    have hok0 := hok
    unfold Lib.ok at hok
    obtain ⟨w1, hok⟩ := and2 hok
    obtain ⟨w2, hok⟩ := and2 hok
    obtain ⟨w3, hok⟩ := and2 hok
    obtain ⟨w4, hok⟩ := and2 hok
    obtain ⟨w5, hok⟩ := and2 hok
    obtain ⟨w6, w7⟩ := and2 hok
    walk_at "nrm"
    refine ⟨_, rfl, F, _, _, rfl, S, wt_name w1, fun H1 S1 => ⟨_, rfl, ?_⟩⟩
    have e1 : isW (.str l.name) = true := w1
    rw [e1]
    refine iteF ?_
    refine ⟨_, rfl, F, _, _, _, _, rfl, S1, aw_of p1 w2 (by decide), fun H2 S2 => ⟨_, rfl, ?_⟩⟩
    refine iteF ?_
    refine ⟨_, rfl, _, rfl, a1, _, rfl, .inr (p1.at S2).sqT, rfl, flat_strs _, _, rfl, ?_⟩
    rw [inV_strs]
    have e3 : decide (l.name ∈ l.needs) = false := by simpa using w3
    rw [e3]
    refine iteF ?_
    refine ⟨_, rfl, F, _, _, _, _, rfl, S2, aw_of p2 w4 (by decide), fun H3 S3 => ⟨_, rfl, ?_⟩⟩
    refine iteF ?_
    refine ⟨_, rfl, F, _, _, _, _, rfl, S3, aw_of p3 w5 (by decide), fun H4 S4 => ⟨_, rfl, ?_⟩⟩
    refine iteF ?_
    refine ⟨_, rfl, F, _, _, _, _, rfl, S4, aw_of p4 w6 (by decide), fun H5 S5 => ⟨_, rfl, ?_⟩⟩
    refine iteF ?_
    walk_at "nrm"
    refine ⟨_, rfl, a4, rfl, ⟨_, (p4.at S5).sqT⟩, fun D hD => ?_⟩
    refine lc_tup (xs := sv l.weak) (fun i H' => Sta F ((D, .lst ((l.weak.take i).map fun z => V.bl (decide (z ∈ l.uses)))) :: (p, .ins (libC K) dx []) :: L) H') (S5.newL hD (.lst [])) (fun i H' _ S' => (p4.at S').sqT) ?_ ?_
    · intro i y H6 hy S6
      refine ⟨rfl, ?_⟩
      walk_at "nrm"
      obtain ⟨z, hz, rfl⟩ : ∃ z, l.weak[i]? = some z ∧ V.str z = y := by
        have hm : (l.weak.map V.str)[i]? = some y := hy
        rw [List.getElem?_map] at hm
        cases e : l.weak[i]? with
        | none => rw [e] at hm; cases hm
        | some z => rw [e] at hm; exact ⟨z, rfl, Option.some.inj hm⟩
      have hw : l.weak.length ≤ 20 := by
        unfold areW at w6
        obtain ⟨q, _⟩ := and2 w6
        have := of_decide_eq_true q
        rw [List.length_map] at this
        omega
      refine ⟨_, rfl, _, rfl, a3, _, rfl, .inr (p3.at S6).sqT, rfl, flat_strs _, _, S6.hd, ?_, ?_⟩
      · rw [List.length_map, List.length_take]
        exact szl (by omega)
      · rw [inV_strs]
        have et : (l.weak.take (i + 1)).map (fun z => V.bl (decide (z ∈ l.uses))) = (l.weak.take i).map (fun z => V.bl (decide (z ∈ l.uses))) ++ [V.bl (decide (z ∈ l.uses))] := by
          rw [List.take_add_one, hz, List.map_append]
          rfl
        rw [et]
        exact S6.set _
    · intro H6 S6
      rw [show (sv l.weak).length = l.weak.length from List.length_map .., List.take_length] at S6
      have em : (l.weak.map fun z => decide (z ∈ l.uses)).map V.bl = l.weak.map fun z => V.bl (decide (z ∈ l.uses)) := by rw [List.map_map]; rfl
      refine ⟨D, l.weak.map fun z => decide (z ∈ l.uses), rfl, by rw [em]; exact sq S6.hd, _, rfl, ?_⟩
      rw [take_map_all, w7]
      refine iteF ?_
      have S7 := S6.tl
      walk_at "nrm"
      refine ⟨_, rfl, _, _, _, _, true, rfl, .ty _, .base (.bl _), kit_ty (by decide +kernel), _, rfl, ?_⟩
      refine iteF ?_
      refine ⟨_, rfl, _, _, _, _, true, rfl, .ty _, .base (.bl _), kit_ty (by decide +kernel), _, rfl, ?_⟩
      refine iteF ?_
      refine ⟨_, rfl, _, rfl, p, _, dx, _, rfl, S7.hd, T.c_Library, T.na_Library_name, by show 0 < 1000; decide, ?_⟩
      have e0 : putF "name" (.str l.name) [] = ([("name", .str l.name)] : List (Str × V)) := by
        rw [putF_k [] rfl (by decide +kernel)]
        rfl
      rw [e0]
      have S8 := S7.set (.ins (libC K) dx ([("name", .str l.name)] : List (Str × V)))
      generalize upd _ p _ = H8 at S8 ⊢
      refine ⟨_, rfl, _, rfl, p, _, dx, _, rfl, S8.hd, T.c_Library, T.na_Library_needs, by show 1 < 1000; decide, ?_⟩
      have e1 : putF "needs" (.ref a1) ([("name", .str l.name)] : List (Str × V)) = ([("name", .str l.name), ("needs", .ref a1)] : List (Str × V)) := by
        rw [putF_k ["name"] rfl (by decide +kernel)]
        rfl
      rw [e1]
      have S9 := S8.set (.ins (libC K) dx ([("name", .str l.name), ("needs", .ref a1)] : List (Str × V)))
      generalize upd _ p _ = H9 at S9 ⊢
      refine ⟨_, rfl, _, rfl, p, _, dx, _, rfl, S9.hd, T.c_Library, T.na_Library_defines, by show 2 < 1000; decide, ?_⟩
      have e2 : putF "defines" (.ref a2) ([("name", .str l.name), ("needs", .ref a1)] : List (Str × V)) = ([("name", .str l.name), ("needs", .ref a1), ("defines", .ref a2)] : List (Str × V)) := by
        rw [putF_k ["name", "needs"] rfl (by decide +kernel)]
        rfl
      rw [e2]
      have S10 := S9.set (.ins (libC K) dx ([("name", .str l.name), ("needs", .ref a1), ("defines", .ref a2)] : List (Str × V)))
      generalize upd _ p _ = H10 at S10 ⊢
      refine ⟨_, rfl, _, rfl, p, _, dx, _, rfl, S10.hd, T.c_Library, T.na_Library_uses, by show 3 < 1000; decide, ?_⟩
      have e3 : putF "uses" (.ref a3) ([("name", .str l.name), ("needs", .ref a1), ("defines", .ref a2)] : List (Str × V)) = ([("name", .str l.name), ("needs", .ref a1), ("defines", .ref a2), ("uses", .ref a3)] : List (Str × V)) := by
        rw [putF_k ["name", "needs", "defines"] rfl (by decide +kernel)]
        rfl
      rw [e3]
      have S11 := S10.set (.ins (libC K) dx ([("name", .str l.name), ("needs", .ref a1), ("defines", .ref a2), ("uses", .ref a3)] : List (Str × V)))
      generalize upd _ p _ = H11 at S11 ⊢
      refine ⟨_, rfl, _, rfl, p, _, dx, _, rfl, S11.hd, T.c_Library, T.na_Library_weak, by show 4 < 1000; decide, ?_⟩
      have e4 : putF "weak" (.ref a4) ([("name", .str l.name), ("needs", .ref a1), ("defines", .ref a2), ("uses", .ref a3)] : List (Str × V)) = ([("name", .str l.name), ("needs", .ref a1), ("defines", .ref a2), ("uses", .ref a3), ("weak", .ref a4)] : List (Str × V)) := by
        rw [putF_k ["name", "needs", "defines", "uses"] rfl (by decide +kernel)]
        rfl
      rw [e4]
      have S12 := S11.set (.ins (libC K) dx ([("name", .str l.name), ("needs", .ref a1), ("defines", .ref a2), ("uses", .ref a3), ("weak", .ref a4)] : List (Str × V)))
      generalize upd _ p _ = H12 at S12 ⊢
      refine ⟨_, rfl, _, rfl, p, _, dx, _, rfl, S12.hd, T.c_Library, T.na_Library_eager, by show 5 < 1000; decide, ?_⟩
      have e5 : putF "eager" (.bl l.eager) ([("name", .str l.name), ("needs", .ref a1), ("defines", .ref a2), ("uses", .ref a3), ("weak", .ref a4)] : List (Str × V)) = ([("name", .str l.name), ("needs", .ref a1), ("defines", .ref a2), ("uses", .ref a3), ("weak", .ref a4), ("eager", .bl l.eager)] : List (Str × V)) := by
        rw [putF_k ["name", "needs", "defines", "uses", "weak"] rfl (by decide +kernel)]
        rfl
      rw [e5]
      have S13 := S12.set (.ins (libC K) dx ([("name", .str l.name), ("needs", .ref a1), ("defines", .ref a2), ("uses", .ref a3), ("weak", .ref a4), ("eager", .bl l.eager)] : List (Str × V)))
      generalize upd _ p _ = H13 at S13 ⊢
      refine ⟨_, rfl, _, rfl, p, _, dx, _, rfl, S13.hd, T.c_Library, T.na_Library_own_first, by show 6 < 1000; decide, ?_⟩
      have e6 : putF "own_first" (.bl l.own) ([("name", .str l.name), ("needs", .ref a1), ("defines", .ref a2), ("uses", .ref a3), ("weak", .ref a4), ("eager", .bl l.eager)] : List (Str × V)) = ([("name", .str l.name), ("needs", .ref a1), ("defines", .ref a2), ("uses", .ref a3), ("weak", .ref a4), ("eager", .bl l.eager), ("own_first", .bl l.own)] : List (Str × V)) := by
        rw [putF_k ["name", "needs", "defines", "uses", "weak", "eager"] rfl (by decide +kernel)]
        rfl
      rw [e6]
      have S14 := S13.set (.ins (libC K) dx ([("name", .str l.name), ("needs", .ref a1), ("defines", .ref a2), ("uses", .ref a3), ("weak", .ref a4), ("eager", .bl l.eager), ("own_first", .bl l.own)] : List (Str × V)))
      generalize upd _ p _ = H14 at S14 ⊢
      obtain ⟨F', S15, g, hp⟩ := S14.frz
      exact k F' _ g ⟨hok0, dx, a1, a2, a3, a4, hp.1, p1.up g, p2.up g, p3.up g, p4.up g⟩ S15
end
theorem LibAt.ty {K : PySem.W.Frag} {mg : Str → Option Value} {F : Hp} {a : Addr} {l : Lib} (h : LibAt K F a l) (T : Top K mg) : TyX K F (.ref a) (.ref (libC K)) := by
  obtain ⟨_, dx, a1, a2, a3, a4, h1, _⟩ := h
  exact .base (.ins h1 T.c_Library T.o_Library.ha T.o_Library.hn T.o_Library.ht T.o_Library.hm)

section
variable {P : Program} {w : World} {K : PySem.W.Frag} {mg : Str → Option Value} {base : Heap}
/-- Library(name, needs=.., .., own_first=..): all values written -/
theorem b_lib_all (T : Top K mg) : ∃ mv : List Value, KBn K T.fd_Library___init__ ps_Library___init__ 2 ["needs", "defines", "uses", "weak", "eager", "own_first"] (fun us ws => us ++ (mv ++ ws)) (fun vs zs => vs ++ ([] ++ zs)) :=
  FunD.kbinds0 T.F_Library___init__ 2 ["needs", "defines", "uses", "weak", "eager", "own_first"] [] (fun vs mz zs => vs ++ (mz ++ zs)) (by simp [He.DefD.kws, d_Library___init__]) (fun q hq => by cases hq) (fun r1 r2 r3 => r1.append (r2.append r3))
    (fun D doc pm an cdv ct us mv ws h1 h2 h3 => match us, h1, mv, h2, ws, h3 with
      | [_, _], _, [], _, [_, _, _, _, _, _], _ => rfl)
end
/-! ### a store -/
section
variable {P : Program} {w : World} {K : PySem.W.Frag} {mg : Str → Option Value} {base : Heap}
theorem ok_NoStore_init (T : Top K mg) : FnOk P w K mg base CX0 1 (He.ma K (He.ga K "NoStore") "__init__") T.fd_NoStore___init__ ps_NoStore___init__ (spIni K "at") := by
  refine T.F_NoStore___init__.ok sc_NoStore___init__ (fun vs H Q E h => ?_) (fun cdv A outer s H vs Q E hr h => ?_)
  · obtain ⟨a, C, y, rfl, _⟩ := h
    rfl
  · obtain ⟨a, C, y, rfl, T, hn, ha, k⟩ := h
    exact ⟨_, PSs.nox (pss_one (ps_ost (pv 0) (pv 1))), _, rfl, _, rfl, a, C, rfl, T, hn, .inl ⟨ha, fun dx h1 h2 => k dx h1 h2⟩⟩
theorem ok_store_init (T : Top K mg) : FnOk P w K mg base (L2.CX P w) 3 (He.ma K (He.ga K "Store") "__init__") T.fd_Store___init__ ps_Store___init__ (spStoreInit K) := by
  obtain ⟨t1, h40⟩ := T.i_MOST_LIBRARIES
  refine T.F_Store___init__.ok sc_Store___init__ (fun vs H Q E h => ?_) (fun cdv A outer s H vs Q E hr h => ?_)
  · obtain ⟨F, L, p, dx, y, rfl, _⟩ := h
    rfl
  · obtain ⟨F, L, p, dx, y, rfl, S, hc⟩ := h
    refine ⟨_, (pss_cons ((ps_if (pt_not (pt_val (pe_callB call_isi (by rfl) T.n_isinstance (by decide +kernel) (pa_cons (pv 1) (pa_cons (pe_bltn (v := .ty "list") (by rfl) T.n_list (by decide +kernel) rfl) pa_nil))))) (pss_one ((ps_raise rfl (takes_of rfl rfl rfl rfl) (pmk_oex T.e_NoStore.ox T.m_NoStore___init__.at_ (beq_iff_eq.mp T.m_NoStore___init__.fn) (ok_NoStore_init T) (hr.mono (by decide)) (b_NoStore___init__ T) .nil pass0 rfl T.g_NoStore (pa_cons pe_non pa_nil))))) pss_nil))
      (pss_cons ((ps_set (i := 2) sc_Store___init__.nd rfl (Or.inl rfl) (pe_dnewK)))
      (pss_cons (ps_for (passes_of rfl) rfl (pi_enum (by rfl) T.n_enumerate (pa_cons (pv 1) pa_nil)) (pg_tup rfl (pgs_cons (pg_name (i := 3) sc_Store___init__.nd rfl (Or.inl rfl)) (pgs_cons (pg_name (i := 4) sc_Store___init__.nd rfl (Or.inl rfl)) pgs_nil)))
        (pss_cons ((ps_if ((PW.pt (pw_or (pt_cmpR op_eq (pv 3) (pe_glob (v := .int 40) rfl h40 ⟨_, rfl⟩) (nomark _)) (pw_or (pt_not (pt_val (pe_callB call_isi (by rfl) T.n_isinstance (by decide +kernel) (pa_cons (pv 4) (pa_cons (pe_glob (v := .ref (libC K)) rfl T.g_Library rfl) pa_nil))))) (pw_or1 (pt_cmp (pc_din (Nat.lt_of_le_of_lt (Nat.add_le_add_left (by decide) _) hr.units) (pe_fld (pv 4) rfl) (pv 2)))))))) (pss_one ((ps_raise rfl (takes_of rfl rfl rfl rfl) (pmk_oex T.e_NoStore.ox T.m_NoStore___init__.at_ (beq_iff_eq.mp T.m_NoStore___init__.fn) (ok_NoStore_init T) (hr.mono (by decide)) (b_NoStore___init__ T) .nil pass0 rfl T.g_NoStore (pa_cons (pv 3) pa_nil))))) pss_nil))
      (pss_one (ps_dput (Nat.lt_of_le_of_lt (Nat.add_le_add_left (by decide) _) hr.units) (pv 2) (pe_fld (pv 4) rfl) (pv 4) rfl))))
      (pss_one (ps_fld (pv 0) (pv 2) rfl))))), ?_⟩
    have ox := T.e_NoStore.ox
    have np := T.na_NoStore_at
    walk_at "nrm"
    rcases hc with ⟨t, ht, hk, kE⟩ | ⟨q, xs, os, rfl, hq, hlen, hit, kE, kQ⟩
    · refine ⟨_, rfl, y, _, t, _, false, rfl, .ty _, S.fr.tyX ht, hk, _, rfl, ?_⟩
      refine er_read ox np fun d hd => ?_
      obtain ⟨F', S2, g, h⟩ := S.mkF hd (.xd [("at", .non)])
      exact kE d F' _ g h.1 S2.tl
    · obtain ⟨hq1, hq2⟩ := hq F H (Gr.refl _) S.tl
      refine ⟨_, rfl, .ref q, _, _, _, true, rfl, .ty _, hq2, kit_ty (by decide +kernel), _, rfl, ?_⟩
      refine iteF ?_
      intro td htd
      have S1 := S.newL htd (.dK [])
      generalize upd _ td _ = H1 at S1 ⊢
      walk_at "nrm"
      obtain ⟨hq3, _⟩ := hq F H1 (Gr.refl _) S1.tl.tl
      have er : ∀ (k : Nat) (H2 : Hp) (L2 : List (Addr × HO)), dueS [] 0 os = some k → Sta F L H2 → ∀ d, H2 d = none → E (.ref (He.ga K "NoStore")) (some d) (upd H2 d (.xd [("at", .int (k : Int))])) := fun k H2 _ e S2 d hd => by
        obtain ⟨F', S3, g, h⟩ := S2.mkF hd (.xd [("at", .int (k : Int))])
        exact kE k e d F' _ g h.1 S3
      refine ⟨_, rfl, q, xs, rfl, hq3, for_it walk_enum (fun i σ H' => ∃ (ls : List (Addr × Lib)) (v3 v4 : Option V), σ = [some (.ref p), some (.ref q), some (.ref td), v3, v4] ∧ dueS [] 0 os = dueS (stN ls) i (os.drop i) ∧ ls = (os.take i).filterMap id ∧ ls.length = i ∧ i ≤ 40 ∧ (stN ls).Nodup ∧ (∀ r ∈ ls, LibAt K F r.1 r.2) ∧
          Sta F ((td, .dK (stK ls)) :: (p, .ins (storeC K) dx []) :: L) H')
        ⟨[], none, none, rfl, rfl, rfl, rfl, by decide, by simp, (fun r hr => by cases hr), S1⟩ (fun i σ H' _ ⟨_, _, _, _, _, _, _, _, _, _, S⟩ => (hq F H' (Gr.refl _) S.tl.tl).1) ?_ ?_⟩
      · rintro i v σ H2 H3 hi ⟨ls, v3, v4, rfl, hdue, hls, hll, hi40, hnd, hlib, S2⟩ ⟨T0, e1, e2, rfl, hT0, rfl, e3, e4⟩
        cases e3
        have S3 := S2.newX hT0 (.tup [.int (i : Nat), e2])
        refine ⟨T0, _, rfl, st upd_same, rfl, _, _, rfl, _, _, rfl, rfl, ?_⟩
        generalize upd _ T0 _ = H4 at S3 ⊢
        walk_at "nrm"
        have e4 : xs[i]? = some e2 := e4
        have hio : i < os.length := by rw [← hlen]; exact hi
        have eo : os[i]? = some os[i] := List.getElem?_eq_getElem hio
        have ed : os.drop i = os[i] :: os.drop (i + 1) := List.drop_eq_getElem_cons hio
        have et : os.take (i + 1) = os.take i ++ [os[i]] := by rw [List.take_add_one, eo]; rfl
        have hI := hit i e2 _ e4 eo
        rw [ed] at hdue
        generalize os[i] = o at eo ed et hI hdue
        refine ⟨_, rfl, rfl, _, rfl, ?_⟩
        refine ite2 (fun e40 => ?_) (fun e40 => ?_)
        · obtain rfl : i = 40 := by
            have := V.int.inj (of_decide_eq_true e40)
            omega
          have hk : dueS [] 0 os = some 40 := by
            rw [hdue]
            cases o with
            | none => rfl
            | some r => simp [dueS]
          exact ⟨_, rfl, er_read ox np (er 40 _ [] hk S3.tl.tl)⟩
        · have h40 : i ≠ 40 := fun e => e40 (by rw [e]; rfl)
          cases o with
          | none =>
            obtain ⟨t, ht, hk⟩ := hI
            refine ⟨_, rfl, e2, _, t, _, false, rfl, .own _, S3.fr.tyX ht, hk, _, rfl, ?_⟩
            exact ⟨_, rfl, er_read ox np (er i _ [] hdue S3.tl.tl)⟩
          | some r =>
            obtain ⟨rfl, hl⟩ := hI
            obtain ⟨_, dx', a1, a2, a3, a4, h1, _⟩ := id hl
            have j := S3.f h1
            refine ⟨_, rfl, .ref r.1, _, _, _, true, rfl, .own _, S3.fr.tyX (hl.ty T), kit_self, _, rfl, ?_⟩
            refine iteF ?_
            refine ⟨_, rfl, r.1, _, dx', _, _, rfl, j, T.c_Library, T.na_Library_name, lk_name, _, rfl, td, _, rfl, DGet.k (k := .inr r.2.name) S3.hd, _, rfl, ?_⟩
            refine ite2 (fun hin => ?_) (fun hin => ?_)
            · have hin : (valV (stK ls) (.inr r.2.name)).isSome = true := hin
              rw [stK_val] at hin
              have hin := of_decide_eq_true hin
              refine ⟨_, rfl, er_read ox np (er i _ [] ?_ S3.tl.tl)⟩
              rw [hdue]
              simp [dueS, hin]
            · have hin : ¬ (valV (stK ls) (.inr r.2.name)).isSome = true := hin
              rw [stK_val] at hin
              have hin : r.2.name ∉ stN ls := fun e => hin (decide_eq_true e)
              refine ⟨_, rfl, _, rfl, _, rfl, r.1, _, dx', _, _, rfl, j, T.c_Library, T.na_Library_name, lk_name, td, _, rfl, DPut.k (k := .inr r.2.name) S3.hd ?_, ?_⟩
              · show (ls.map _).length < sizeLine
                rw [List.length_map]
                exact szl (by omega)
              · rw [stK_put hin]
                refine ⟨ls ++ [r], _, _, rfl, ?_, ?_, ?_, by omega, ?_, ?_, S3.set _⟩
                · rw [hdue]
                  simp [dueS, h40, hin, stN]
                · rw [et, List.filterMap_append, ← hls]
                  rfl
                · rw [List.length_append, hll]
                  rfl
                · show ((ls ++ [r]).map _).Nodup
                  rw [List.map_append]
                  refine List.nodup_append.mpr ⟨hnd, by simp, ?_⟩
                  intro x hx y hy e
                  have hy : y = r.2.name := by simpa using hy
                  exact hin (by rw [← hy, ← e]; exact hx)
                · intro z hz
                  rcases List.mem_append.mp hz with hz | hz
                  · exact hlib z hz
                  · rw [List.mem_singleton.mp hz]
                    exact hl
      · rintro σ H2 ⟨ls, v3, v4, rfl, hdue, hls, hll, hi40, hnd, hlib, S2⟩
        rw [hlen] at hdue hls
        rw [List.drop_length] at hdue
        rw [List.take_length] at hls
        have S2 := S2.swap
        refine ⟨_, rfl, _, rfl, p, _, dx, _, rfl, S2.hd, T.c_Store, T.na_Store__table, by show 0 < 1000; decide, ?_⟩
        have e0 : putF "_table" (.ref td) [] = ([("_table", .ref td)] : List (Str × V)) := by
          rw [putF_k [] rfl (by decide +kernel)]
          rfl
        rw [e0]
        have S3 := S2.set (.ins (storeC K) dx ([("_table", .ref td)] : List (Str × V)))
        generalize upd _ p _ = H3 at S3 ⊢
        obtain ⟨F4, S4, g4, h4⟩ := S3.frz
        obtain ⟨F5, S5, g5, h5⟩ := S4.frz
        refine kQ hdue F5 H3 (g4.trans g5) ⟨⟨dx, td, (h4.up g5).1, ?_⟩, ?_, ?_, ?_⟩ S5
        · rw [← hls]
          exact h5.1
        · rw [← hls]
          exact fun r hr => (hlib r hr).up (g4.trans g5)
        · rw [← hls]
          exact hnd
        · rw [← hls, hll]
          exact hi40
end
section
variable {P : Program} {w : World} {K : PySem.W.Frag} {mg : Str → Option Value} {base : Heap}
theorem ok_store_in (T : Top K mg) : FnOk P w K mg base CX0 1 (He.ma K (He.ga K "Store") "__contains__") T.fd_Store___contains__ ps_Store___contains__ (spStoreIn K) := by
  refine T.F_Store___contains__.ok sc_Store___contains__ (fun vs H Q E h => ?_) (fun cdv A outer s H vs Q E hr h => ?_)
  · obtain ⟨F, L, a, ls, x, r, rfl, _⟩ := h
    rfl
  · obtain ⟨F, L, a, ls, x, r, rfl, S, ⟨⟨dx, td, h1, h2⟩, hl, hn, h40⟩, ⟨t, b, ht, hk, hb1, hb0⟩, k⟩ := h
    refine ⟨_, PSs.nox (pss_one (ps_ret (pe_and (pe_callB call_isi (by rfl) T.n_isinstance (by decide +kernel) (pa_cons (pv 1) (pa_cons (pe_bltn (v := .ty "str") (by rfl) T.n_str (by decide +kernel) rfl) pa_nil)))
      (pe_one (pe_cmp (pc_din (Nat.lt_of_le_of_lt (Nat.add_le_add_left (by decide) _) hr.units) (pv 1) (pe_fld (pv 0) rfl))))))), ?_⟩
    walk_at "nrm"
    refine ⟨_, rfl, x, _, t, _, b, rfl, .ty _, S.fr.tyX ht, hk, _, rfl, ?_⟩
    cases b with
    | false =>
      have q := k H S
      rw [hb0 rfl] at q
      exact q
    | true =>
      obtain ⟨z, rfl, rfl⟩ := hb1 rfl
      refine ⟨_, rfl, _, rfl, a, _, dx, _, _, rfl, S.f h1, T.c_Store, T.na_Store__table, look_hit, td, _, rfl, DGet.k (k := .inr z) (S.f h2), ?_⟩
      rw [stK_val]
      exact k H S
theorem ok_NoName_init (T : Top K mg) : FnOk P w K mg base CX0 1 (He.ma K (He.ga K "NoName") "__init__") T.fd_NoName___init__ ps_NoName___init__ (spIni K "name") := by
  refine T.F_NoName___init__.ok sc_NoName___init__ (fun vs H Q E h => ?_) (fun cdv A outer s H vs Q E hr h => ?_)
  · obtain ⟨a, C, y, rfl, _⟩ := h
    rfl
  · obtain ⟨a, C, y, rfl, T, hn, ha, k⟩ := h
    exact ⟨_, PSs.nox (pss_one (ps_ost (pv 0) (pv 1))), _, rfl, _, rfl, a, C, rfl, T, hn, .inl ⟨ha, fun dx h1 h2 => k dx h1 h2⟩⟩
theorem ok_store_get (T : Top K mg) : FnOk P w K mg base (L2.CX P w) 3 (He.ma K (He.ga K "Store") "__getitem__") T.fd_Store___getitem__ ps_Store___getitem__ (spStoreGet K) := by
  refine T.F_Store___getitem__.ok sc_Store___getitem__ (fun vs H Q E h => ?_) (fun cdv A outer s H vs Q E hr h => ?_)
  · obtain ⟨F, L, a, ls, x, r, rfl, _⟩ := h
    rfl
  · obtain ⟨F, L, a, ls, x, r, rfl, S, hst, hin, kE, kQ⟩ := h
    refine ⟨_, (pss_cons ((ps_if (pt_cmpR (op_notinO (ok_store_in T) (hr.mono (by decide)) (b_Store___contains__ T) (E := E0) pass0) (pv 1) (pv 0) (by rfl)) (pss_one ((ps_raise rfl (takes_of rfl rfl rfl rfl) (pmk_oex T.e_NoName.ox T.m_NoName___init__.at_ (beq_iff_eq.mp T.m_NoName___init__.fn) (ok_NoName_init T) (hr.mono (by decide)) (b_NoName___init__ T) .nil pass0 rfl T.g_NoName (pa_cons (pv 1) pa_nil))))) pss_nil))
      (pss_one (ps_ret (pe_dget (Nat.lt_of_le_of_lt (Nat.add_le_add_left (by decide) _) hr.units) (pe_fld (pv 0) rfl) (pv 1) (fun _ _ => rfl))))), ?_⟩
    obtain ⟨⟨dx, td, h1, h2⟩, hl, hn, h40⟩ := id hst
    walk_at "nrm"
    refine ⟨_, rfl, _, rfl, a, storeC K, dx, _, rfl, S.f h1, T.m_Store___contains__.at_, T.m_Store___contains__.fn, F, L, a, ls, x, r, rfl, S, hst, hin, fun H1 S1 => ⟨r, rfl, _, rfl, ?_⟩⟩
    cases r with
    | false =>
      refine ⟨_, rfl, er_read T.e_NoName.ox T.na_NoName_name fun d hd => ?_⟩
      obtain ⟨F', S2, g, h⟩ := S1.mkF hd (.xd [("name", x)])
      exact kE rfl d F' _ g h.1 S2
    | true =>
      refine ite2 (fun e => by cases e) (fun _ => ?_)
      obtain ⟨t, b, ht, hk, hb1, hb0⟩ := hin
      cases b with
      | false => cases hb0 rfl
      | true =>
        obtain ⟨z, rfl, hz⟩ := hb1 rfl
        obtain ⟨p, hp, rfl, hv⟩ := stK_get (of_decide_eq_true hz.symm)
        refine ⟨_, rfl, a, _, dx, _, _, rfl, S1.f h1, T.c_Store, T.na_Store__table, look_hit, _, rfl, td, _, rfl, ?_, kQ p hp rfl H1 S1⟩
        have q := DGet.k (k := .inr p.2.name) (S1.f h2)
        rw [hv] at q
        exact q
end
/-! ### len(store), names(store) -/
section
variable {P : Program} {w : World} {K : PySem.W.Frag} {mg : Str → Option Value} {base : Heap}
theorem ok_store_len (T : Top K mg) : FnOk P w K mg base CX0 1 (He.ma K (He.ga K "Store") "__len__") T.fd_Store___len__ ps_Store___len__ (spStoreLen K) := by
  refine T.F_Store___len__.ok sc_Store___len__ (fun vs H Q E h => ?_) (fun cdv A outer s H vs Q E hr h => ?_)
  · obtain ⟨F, L, a, ls, rfl, _⟩ := h
    rfl
  · obtain ⟨F, L, a, ls, rfl, S, ⟨⟨dx, td, h1, h2⟩, hl, hn, h40⟩, k⟩ := h
    refine ⟨_, PSs.nox (pss_one (ps_ret (pe_callB call_lenD (by rfl) T.n_len (by decide +kernel) (pa_cons (pe_fld (pv 0) rfl) pa_nil)))), ?_⟩
    walk_at "nrm"
    refine ⟨_, rfl, a, _, dx, _, _, rfl, S.f h1, T.c_Store, T.na_Store__table, look_hit, td, _, rfl, S.f h2, ?_⟩
    have e : (stK ls).length = ls.length := List.length_map ..
    rw [e]
    exact k H S
end
end Sb


set_option Elab.async false
set_option linter.all false
set_option maxRecDepth 100000
set_option maxHeartbeats 8000000
namespace Sb
open PySem L2 Mf
section
variable {P : Program} {w : World} {K : PySem.W.Frag} {mg : Str → Option Value} {base : Heap}
theorem ok_Missing_init (T : Top K mg) : FnOk P w K mg base CX0 1 (He.ma K (He.ga K "Missing") "__init__") T.fd_Missing___init__ ps_Missing___init__ (spIni K "name") := by
  refine T.F_Missing___init__.ok sc_Missing___init__ (fun vs H Q E h => ?_) (fun cdv A outer s H vs Q E hr h => ?_)
  · obtain ⟨a, C, y, rfl, _⟩ := h
    rfl
  · obtain ⟨a, C, y, rfl, T, hn, ha, k⟩ := h
    exact ⟨_, PSs.nox (pss_one (ps_ost (pv 0) (pv 1))), _, rfl, _, rfl, a, C, rfl, T, hn, .inl ⟨ha, fun dx h1 h2 => k dx h1 h2⟩⟩
theorem ok_NoWishes_init (T : Top K mg) : FnOk P w K mg base CX0 1 (He.ma K (He.ga K "NoWishes") "__init__") T.fd_NoWishes___init__ ps_NoWishes___init__ (spIni K "symbol") := by
  refine T.F_NoWishes___init__.ok sc_NoWishes___init__ (fun vs H Q E h => ?_) (fun cdv A outer s H vs Q E hr h => ?_)
  · obtain ⟨a, C, y, rfl, _⟩ := h
    rfl
  · obtain ⟨a, C, y, rfl, T, hn, ha, k⟩ := h
    exact ⟨_, PSs.nox (pss_one (ps_ost (pv 0) (pv 1))), _, rfl, _, rfl, a, C, rfl, T, hn, .inl ⟨ha, fun dx h1 h2 => k dx h1 h2⟩⟩
theorem ok_closure (T : Top K mg) : FnOk P w K mg base (L2.CX P w) 5 (He.ga K "closure") T.fd_closure ps_closure (spM K 2 m_closure) := by
  refine T.F_closure.ok sc_closure (fun vs H Q E h => h.len) (fun cdv A outer s H vs Q E hr h => ?_)
  refine ⟨_, (pss_cons (ps_if (pt_cmpR (op_notinO (ok_store_in T) (hr.mono (by decide)) (b_Store___contains__ T) (E := C8.E0) pass0) (pv 1) (pv 0) (by rfl)) (pss_one (ps_raise rfl (takes_of rfl rfl rfl rfl) (pmk_oex T.e_NoName.ox T.m_NoName___init__.at_ (beq_iff_eq.mp T.m_NoName___init__.fn) (ok_NoName_init T) (hr.mono (by decide)) (b_NoName___init__ T) .nil pass0 rfl T.g_NoName (pa_cons (pv 1) pa_nil)))) pss_nil)
      (pss_cons (ps_set (i := 2) sc_closure.nd rfl (Or.inl rfl) (pe_lst (pa_cons (pv 1) pa_nil)))
      (pss_cons (ps_set (i := 3) sc_closure.nd rfl (Or.inl rfl) pe_int)
      (pss_cons (ps_while (passes_of rfl) (pt_cmpR op_lt (pv 3) (pe_callB call_len (by rfl) T.n_len PySem.boot_len (pa_cons (pv 2) pa_nil)) (nomark _))
      (pss_cons (ps_set (i := 4) sc_closure.nd rfl (Or.inl rfl) (pe_ixO (ok_store_get T) (hr.mono (by decide)) (b_Store___getitem__ T) (passes_call (takes_of rfl rfl rfl rfl) (fun _ _ _ _ h => h)) (pv 0) (pe_ix ix_list (pv 2) (pv 3) (fun _ _ => rfl))))
      (pss_cons (ps_for (passes_of rfl) rfl (pi_tup (pe_fld (pv 4) rfl)) (pg_name (i := 5) sc_closure.nd rfl (Or.inl rfl))
      (pss_cons (ps_if (pt_cmpR (op_notinO (ok_store_in T) (hr.mono (by decide)) (b_Store___contains__ T) (E := C8.E0) pass0) (pv 5) (pv 0) (by rfl)) (pss_one (ps_raise rfl (takes_of rfl rfl rfl rfl) (pmk_oex T.e_Missing.ox T.m_Missing___init__.at_ (beq_iff_eq.mp T.m_Missing___init__.fn) (ok_Missing_init T) (hr.mono (by decide)) (b_Missing___init__ T) .nil pass0 rfl T.g_Missing (pa_cons (pv 5) pa_nil)))) pss_nil)
      (pss_one (ps_if (pt_cmpR op_notIn_seq (pv 5) (pv 2) (by rfl)) (pss_one (ps_expr (pe_bm PySem.F.plainAttrs_list PySem.F.slot_list_append PySem.F.type_list_append mt_append (pv 2) (pa_cons (pv 5) pa_nil)))) pss_nil))))
      (pss_one (ps_aug (i := 3) sc_closure.nd rfl (Or.inl rfl) pe_int ip_add)))))
      (pss_one (ps_ret (pv 2))))))), body_ok rfl ?_ h⟩
  exact (ss_seq (ss_if (tt_T (ev_V (ee_op2 (vo_inSto T.m_Store___contains__.at_ T.m_Store___contains__.fn) (ev_var 1) (ev_var 0)))) (ss_raise T.e_NoName.ox T.na_NoName_name (by decide) (ev_var 1)) ss_nil)
      (ss_seq (ss_set (ev_O (ee_lst (aa_cons (ev_var 1) aa_nil))))
      (ss_seq (ss_set (ev_int 0))
      (ss_seq (ss_while (tt_T (ev_V (ee_op2 vo_lt (ev_var 3) (ev_V (ee_op vo_len (aa_cons (ev_var 2) aa_nil))))))
      (ss_seq (ss_set (ev_V (ee_getSto T.m_Store___getitem__.at_ T.m_Store___getitem__.fn T.fi_Store (ev_var 0) (ev_V (ee_op2 vo_ixL (ev_var 2) (ev_var 3))))))
      (ss_seq (ss_for (ii_tup (ev_V (ee_libF T.c_Library T.na_Library_needs (ev_var 4)))) (gg_name 5)
      (ss_seq (ss_if (tt_T (ev_V (ee_op2 (vo_inSto T.m_Store___contains__.at_ T.m_Store___contains__.fn) (ev_var 5) (ev_var 0)))) (ss_raise T.e_Missing.ox T.na_Missing_name (by decide) (ev_var 5)) ss_nil)
      (ss_if (tt_T (ev_V (ee_op2 (vo_in true) (ev_var 5) (ev_var 2)))) (ss_drop (ee_meth vo_append (ev_var 2) (aa_cons (ev_var 5) aa_nil))) ss_nil)))
      (ss_aug_add (ev_int 1)))))
      (ss_ret (ee_v (ev_var 2)))))))
theorem ok_first_definer (T : Top K mg) : FnOk P w K mg base (L2.CX P w) 5 (He.ga K "first_definer") T.fd_first_definer ps_first_definer (spM K 3 m_first_definer) := by
  refine T.F_first_definer.ok sc_first_definer (fun vs H Q E h => h.len) (fun cdv A outer s H vs Q E hr h => ?_)
  refine ⟨_, (pss_cons (ps_for (passes_of rfl) rfl (pi_list (pv 1)) (pg_name (i := 3) sc_first_definer.nd rfl (Or.inl rfl))
      (pss_one (ps_if (pt_cmpR op_in_seq (pv 2) (pe_fld (pe_ixO (ok_store_get T) (hr.mono (by decide)) (b_Store___getitem__ T) (passes_call (takes_of rfl rfl rfl rfl) (fun _ _ _ _ h => h)) (pv 0) (pv 3)) rfl) (by rfl)) (pss_one (ps_ret (pv 3))) pss_nil)))
      (pss_one (ps_ret pe_non))), body_ok rfl ?_ h⟩
  exact (ss_seq (ss_for (ii_list (ev_var 1)) (gg_name 3)
      (ss_if (tt_T (ev_V (ee_op2 (vo_in false) (ev_var 2) (ev_V (ee_libF T.c_Library T.na_Library_defines (ev_V (ee_getSto T.m_Store___getitem__.at_ T.m_Store___getitem__.fn T.fi_Store (ev_var 0) (ev_var 3)))))))) (ss_ret (ee_v (ev_var 3))) ss_nil))
      (ss_ret (ee_v ev_non)))
theorem ok_check_wishes (T : Top K mg) : FnOk P w K mg base (L2.CX P w) 3 (He.ga K "check_wishes") T.fd_check_wishes ps_check_wishes (spM K 2 m_check_wishes) := by
  refine T.F_check_wishes.ok sc_check_wishes (fun vs H Q E h => h.len) (fun cdv A outer s H vs Q E hr h => ?_)
  refine ⟨_, (pss_cons (ps_if (PW.pt (pw_or (pt_not (pt_val (pe_callB call_isi (by rfl) T.n_isinstance (by decide +kernel) (pa_cons (pv 1) (pa_cons (pe_bltn (v := .ty "dict") (by rfl) T.n_dict (by decide +kernel) rfl) pa_nil))))) (pw_or1 (pt_not (pt_val (pe_callB (cr_all rfl) (by rfl) T.n_all (by decide +kernel) (pa_cons (pe_lc (own := [("symbol", 2)]) rfl sc_check_wishes.nd (pi_keys (pv 1)) (blkOk_by (N := ns_check_wishes) (sc := defScope s_check_wishes) (by decide +kernel)) (fun _ _ _ _ _ => (pg_name (i := 2) sc_check_wishes.nd rfl (Or.inl rfl))) (fun _ _ _ _ _ => pts_nil) (fun _ _ _ _ _ => (pe_callB (call_isiK (K := K) rfl) (by rfl) T.n_isinstance (by decide +kernel) (pa_cons (pv 2) (pa_cons (pe_bltn (v := .ty "str") (by rfl) T.n_str (by decide +kernel) rfl) pa_nil))))) pa_nil))))))) (pss_one (ps_raise rfl (takes_of rfl rfl rfl rfl) (pmk_oex T.e_NoWishes.ox T.m_NoWishes___init__.at_ (beq_iff_eq.mp T.m_NoWishes___init__.fn) (ok_NoWishes_init T) (hr.mono (by decide)) (b_NoWishes___init__ T) .nil pass0 rfl T.g_NoWishes (pa_cons pe_non pa_nil)))) pss_nil)
      (pss_one (ps_for (passes_of rfl) rfl (pi_list (pe_callB cr_sortedS (by rfl) T.n_sorted (by decide +kernel) (pa_cons (pe_callTy (call_listD rfl) (by rfl) T.n_list (by decide +kernel) (pa_cons (pv 1) pa_nil)) pa_nil))) (pg_name (i := 2) sc_check_wishes.nd rfl (Or.inl rfl))
      (pss_one (ps_if (PW.pt (pw_or (pt_not (pt_val (pe_call (ok_is_word T) (hr.mono (by decide)) rfl T.g_is_word T.F_is_word.kp (b_is_word T) .nil pass0 (pa_cons (pv 2) pa_nil)))) (pw_or1 (pt_cmpR (op_notinO (ok_store_in T) (hr.mono (by decide)) (b_Store___contains__ T) (E := C8.E0) pass0) (pe_dget (Nat.lt_of_le_of_lt (Nat.add_le_add_left (by decide) _) hr.units) (pv 1) (pv 2) (fun _ _ => rfl)) (pv 0) (by rfl))))) (pss_one (ps_raise rfl (takes_of rfl rfl rfl rfl) (pmk_oex T.e_NoWishes.ox T.m_NoWishes___init__.at_ (beq_iff_eq.mp T.m_NoWishes___init__.fn) (ok_NoWishes_init T) (hr.mono (by decide)) (b_NoWishes___init__ T) .nil pass0 rfl T.g_NoWishes (pa_cons (pv 2) pa_nil)))) pss_nil))))), body_ok rfl ?_ h⟩
  exact (ss_seq (ss_if (tt_or (tt_not (tt_B (ev_V (ee_isi (ev_var 1))))) (tt_not (tt_B (ev_V (ee_op vo_all (aa_cons (ev_T (ee_comp (by decide) (ii_keys (ev_var 1)) (gg_name 2) tt_yes (ev_V (ee_isi (ev_var 2))))) aa_nil)))))) (ss_raise T.e_NoWishes.ox T.na_NoWishes_symbol (by decide) ev_non) ss_nil)
      (ss_for (ii_list (ev_T (ee_op vo_sorted (aa_cons (ev_T (ee_op vo_listD (aa_cons (ev_var 1) aa_nil))) aa_nil)))) (gg_name 2)
      (ss_if (tt_or (tt_not (tt_B (ev_V (ee_op vo_isWord (aa_cons (ev_var 2) aa_nil))))) (tt_T (ev_V (ee_op2 (vo_inSto T.m_Store___contains__.at_ T.m_Store___contains__.fn) (ev_V (ee_dget (ev_var 1) (ev_var 2))) (ev_var 0))))) (ss_raise T.e_NoWishes.ox T.na_NoWishes_symbol (by decide) (ev_var 2)) ss_nil)))
theorem ok_elders_of (T : Top K mg) : FnOk P w K mg base (L2.CX P w) 5 (He.ga K "elders_of") T.fd_elders_of ps_elders_of (spM K 4 m_elders_of) := by
  refine T.F_elders_of.ok sc_elders_of (fun vs H Q E h => h.len) (fun cdv A outer s H vs Q E hr h => ?_)
  refine ⟨_, (pss_cons (ps_set (i := 4) sc_elders_of.nd rfl (Or.inl rfl) pe_dnewK)
      (pss_cons (ps_for (passes_of rfl) rfl (pi_list (pe_callB cr_sortedS (by rfl) T.n_sorted (by decide +kernel) (pa_cons (pe_callTy (call_listD rfl) (by rfl) T.n_list (by decide +kernel) (pa_cons (pv 2) pa_nil)) pa_nil))) (pg_name (i := 5) sc_elders_of.nd rfl (Or.inl rfl))
      (pss_cons (ps_set (i := 6) sc_elders_of.nd rfl (Or.inl rfl) (pe_dget (Nat.lt_of_le_of_lt (Nat.add_le_add_left (by decide) _) hr.units) (pv 2) (pv 5) (fun _ _ => rfl)))
      (pss_one (ps_if (PW.pt (pw_and (pt_cmpR op_in_seq (pv 5) (pe_fld (pe_ixO (ok_store_get T) (hr.mono (by decide)) (b_Store___getitem__ T) (passes_call (takes_of rfl rfl rfl rfl) (fun _ _ _ _ h => h)) (pv 0) (pv 3)) rfl) (by rfl)) (pw_and1 (pt_cmpR op_notIn_seq (pv 6) (pe_tupZ (pa_cons (pv 3) (pa_cons (pv 1) pa_nil))) (by rfl))))) (pss_one (ps_expr (pe_dsetd (pv 4) (pv 6) (pv 5) ⟨rfl, rfl, rfl, rfl⟩))) pss_nil))))
      (pss_one (ps_ret (pv 4))))), body_ok rfl ?_ h⟩
  exact (ss_seq (ss_set (ev_O ee_dnew))
      (ss_seq (ss_for (ii_list (ev_T (ee_op vo_sorted (aa_cons (ev_T (ee_op vo_listD (aa_cons (ev_var 2) aa_nil))) aa_nil)))) (gg_name 5)
      (ss_seq (ss_set (ev_V (ee_dget (ev_var 2) (ev_var 5))))
      (ss_if (tt_and (tt_T (ev_V (ee_op2 (vo_in false) (ev_var 5) (ev_V (ee_libF T.c_Library T.na_Library_defines (ev_V (ee_getSto T.m_Store___getitem__.at_ T.m_Store___getitem__.fn T.fi_Store (ev_var 0) (ev_var 3)))))))) (tt_T (ev_V (ee_op2 (vo_in true) (ev_var 6) (ev_V (ee_tup (aa_cons (ev_var 3) (aa_cons (ev_var 1) aa_nil)))))))) (ss_drop (ee_dsetd (ev_var 4) (ev_var 6) (ev_var 5))) ss_nil)))
      (ss_ret (ee_v (ev_var 4)))))
theorem ok_required (T : Top K mg) : FnOk P w K mg base (L2.CX P w) 6 (He.ga K "required") T.fd_required ps_required (spM K 4 m_required) := by
  refine T.F_required.ok sc_required (fun vs H Q E h => h.len) (fun cdv A outer s H vs Q E hr h => ?_)
  refine ⟨_, (pss_cons (ps_set (i := 4) sc_required.nd rfl (Or.inl rfl) (pe_lst pa_nil))
      (pss_cons (ps_for (passes_of rfl) rfl (pi_keys (pv 3)) (pg_name (i := 5) sc_required.nd rfl (Or.inl rfl))
      (pss_one (ps_if (PW.pt (pw_and (pt_cmpR (op_neP hr.units) (pe_call (ok_first_definer T) (hr.mono (by decide)) rfl T.g_first_definer T.F_first_definer.kp (b_first_definer T) .nil (passes_call (takes_of rfl rfl rfl rfl) (fun _ _ _ _ h => h)) (pa_cons (pv 0) (pa_cons (pv 2) (pa_cons (pv 5) pa_nil)))) (pe_dget (Nat.lt_of_le_of_lt (Nat.add_le_add_left (by decide) _) hr.units) (pv 3) (pv 5) (fun _ _ => rfl)) (nomark _)) (pw_and1 (pt_cmpR op_notIn_seq (pe_dget (Nat.lt_of_le_of_lt (Nat.add_le_add_left (by decide) _) hr.units) (pv 3) (pv 5) (fun _ _ => rfl)) (pv 4) (by rfl))))) (pss_one (ps_expr (pe_bm PySem.F.plainAttrs_list PySem.F.slot_list_append PySem.F.type_list_append mt_append (pv 4) (pa_cons (pe_dget (Nat.lt_of_le_of_lt (Nat.add_le_add_left (by decide) _) hr.units) (pv 3) (pv 5) (fun _ _ => rfl)) pa_nil)))) pss_nil)))
      (pss_cons (ps_set (i := 6) sc_required.nd rfl (Or.inl rfl) pe_int)
      (pss_cons (ps_while (passes_of rfl) (pt_cmpR op_lt (pv 6) (pe_callB call_len (by rfl) T.n_len PySem.boot_len (pa_cons (pv 4) pa_nil)) (nomark _))
      (pss_cons (ps_set (i := 7) sc_required.nd rfl (Or.inl rfl) (pe_ix ix_list (pv 4) (pv 6) (fun _ _ => rfl)))
      (pss_cons (ps_for (passes_of rfl) rfl (pi_keys (pe_seal (pe_call (ok_elders_of T) (hr.mono (by decide)) rfl T.g_elders_of T.F_elders_of.kp (b_elders_of T) .nil (passes_call (takes_of rfl rfl rfl rfl) (fun _ _ _ _ h => h)) (pa_cons (pv 0) (pa_cons (pv 1) (pa_cons (pv 3) (pa_cons (pv 7) pa_nil))))))) (pg_name (i := 8) sc_required.nd rfl (Or.inl rfl))
      (pss_one (ps_if (pt_cmpR op_notIn_seq (pv 8) (pv 4) (by rfl)) (pss_one (ps_expr (pe_bm PySem.F.plainAttrs_list PySem.F.slot_list_append PySem.F.type_list_append mt_append (pv 4) (pa_cons (pv 8) pa_nil)))) pss_nil)))
      (pss_one (ps_aug (i := 6) sc_required.nd rfl (Or.inl rfl) pe_int ip_add)))))
      (pss_one (ps_ret (pv 4))))))), body_ok rfl ?_ h⟩
  exact (ss_seq (ss_set (ev_O (ee_lst aa_nil)))
      (ss_seq (ss_for (ii_keys (ev_var 3)) (gg_name 5)
      (ss_if (tt_and (tt_T (ev_V (ee_op2 (vo_eq true) (ev_V (ee_call (aa_cons (ev_var 0) (aa_cons (ev_var 2) (aa_cons (ev_var 5) aa_nil))))) (ev_V (ee_dget (ev_var 3) (ev_var 5)))))) (tt_T (ev_V (ee_op2 (vo_in true) (ev_V (ee_dget (ev_var 3) (ev_var 5))) (ev_var 4))))) (ss_drop (ee_meth vo_append (ev_var 4) (aa_cons (ev_V (ee_dget (ev_var 3) (ev_var 5))) aa_nil))) ss_nil))
      (ss_seq (ss_set (ev_int 0))
      (ss_seq (ss_while (tt_T (ev_V (ee_op2 vo_lt (ev_var 6) (ev_V (ee_op vo_len (aa_cons (ev_var 4) aa_nil))))))
      (ss_seq (ss_set (ev_V (ee_op2 vo_ixL (ev_var 4) (ev_var 6))))
      (ss_seq (ss_for (ii_keys (ev_TD (ee_call (aa_cons (ev_var 0) (aa_cons (ev_var 1) (aa_cons (ev_var 3) (aa_cons (ev_var 7) aa_nil))))))) (gg_name 8)
      (ss_if (tt_T (ev_V (ee_op2 (vo_in true) (ev_var 8) (ev_var 4)))) (ss_drop (ee_meth vo_append (ev_var 4) (aa_cons (ev_var 8) aa_nil))) ss_nil))
      (ss_aug_add (ev_int 1)))))
      (ss_ret (ee_v (ev_var 4)))))))
theorem ok_first_elder (T : Top K mg) : FnOk P w K mg base (L2.CX P w) 1 (He.ga K "first_elder") T.fd_first_elder ps_first_elder (spM K 3 m_first_elder) := by
  refine T.F_first_elder.ok sc_first_elder (fun vs H Q E h => h.len) (fun cdv A outer s H vs Q E hr h => ?_)
  refine ⟨_, (pss_one (ps_ret (pe_ix ix_list (pe_lc (own := [("elder", 3)]) rfl sc_first_elder.nd (pi_keys (pe_dget (Nat.lt_of_le_of_lt (Nat.add_le_add_left (by decide) _) hr.units) (pv 0) (pv 2) (fun _ _ => rfl))) (blkOk_by (N := ns_first_elder) (sc := defScope s_first_elder) (by decide +kernel)) (fun _ _ _ _ _ => (pg_name (i := 3) sc_first_elder.nd rfl (Or.inl rfl))) (fun _ _ _ _ _ => (pts_one (pt_cmpR (op_in_seqK (K := K) rfl) (pv 3) (pv 1) (by rfl)))) (fun _ _ _ _ _ => (pv 3))) pe_int (fun _ _ => rfl)))), body_ok rfl ?_ h⟩
  exact (ss_ret (ee_v (ev_V (ee_op2 vo_ixL (ev_T (ee_comp (by decide) (ii_keys (ev_V (ee_dget (ev_var 0) (ev_var 2)))) (gg_name 3) (tt_T (ev_V (ee_op2 (vo_in false) (ev_var 3) (ev_var 1)))) (ev_var 3))) (ev_int 0)))))
theorem ok_ring_of (T : Top K mg) : FnOk P w K mg base (L2.CX P w) 2 (He.ga K "ring_of") T.fd_ring_of ps_ring_of (spM K 2 m_ring_of) := by
  refine T.F_ring_of.ok sc_ring_of (fun vs H Q E h => h.len) (fun cdv A outer s H vs Q E hr h => ?_)
  refine ⟨_, (pss_cons (ps_set (i := 2) sc_ring_of.nd rfl (Or.inl rfl) (pe_lst (pa_cons (pe_ix ix_list (pv 1) pe_int (fun _ _ => rfl)) pa_nil)))
      (pss_cons (ps_set (i := 3) sc_ring_of.nd rfl (Or.inl rfl) (pe_call (ok_first_elder T) (hr.mono (by decide)) rfl T.g_first_elder T.F_first_elder.kp (b_first_elder T) .nil (passes_call (takes_of rfl rfl rfl rfl) (fun _ _ _ _ h => h)) (pa_cons (pv 0) (pa_cons (pv 1) (pa_cons (pe_ix ix_list (pv 2) pe_int (fun _ _ => rfl)) pa_nil)))))
      (pss_cons (ps_while (passes_of rfl) (pt_cmpR op_notIn_seq (pv 3) (pv 2) (by rfl))
      (pss_cons (ps_expr (pe_bm PySem.F.plainAttrs_list PySem.F.slot_list_append PySem.F.type_list_append mt_append (pv 2) (pa_cons (pv 3) pa_nil)))
      (pss_one (ps_set (i := 3) sc_ring_of.nd rfl (Or.inl rfl) (pe_call (ok_first_elder T) (hr.mono (by decide)) rfl T.g_first_elder T.F_first_elder.kp (b_first_elder T) .nil (passes_call (takes_of rfl rfl rfl rfl) (fun _ _ _ _ h => h)) (pa_cons (pv 0) (pa_cons (pv 1) (pa_cons (pv 3) pa_nil))))))))
      (pss_cons (ps_set (i := 4) sc_ring_of.nd rfl (Or.inl rfl) (pe_revL (pe_slice sl_list (pv 2) (po_some (pe_bm PySem.F.plainAttrs_list PySem.F.slot_list_index PySem.F.type_list_index mt_index (pv 2) (pa_cons (pv 3) pa_nil))) po_none)))
      (pss_one (ps_ret (pe_lc (own := [("name", 5), ("younger", 6)]) rfl sc_ring_of.nd (pi_zip (by rfl) T.n_zip (pa_cons (pv 4) (pa_cons (pe_op op_cat (pe_slice sl_list (pv 4) (po_some pe_int) po_none) (pe_slice sl_list (pv 4) po_none (po_some pe_int))) pa_nil))) (blkOk_by (N := ns_ring_of) (sc := defScope s_ring_of) (by decide +kernel)) (fun _ _ _ _ _ => (pg_tupK (K := K) rfl (n := 2) rfl (pgs_cons (pg_name (i := 5) sc_ring_of.nd rfl (Or.inl rfl)) (pgs_cons (pg_name (i := 6) sc_ring_of.nd rfl (Or.inl rfl)) pgs_nil)))) (fun _ _ _ _ _ => pts_nil) (fun _ _ _ _ _ => (pe_tupZ (pa_cons (pv 5) (pa_cons (pe_dget (Nat.lt_of_le_of_lt (Nat.add_le_add_left (by decide) _) hr.units) (pe_dget (Nat.lt_of_le_of_lt (Nat.add_le_add_left (by decide) _) hr.units) (pv 0) (pv 6) (fun _ _ => rfl)) (pv 5) (fun _ _ => rfl)) pa_nil))))))))))), body_ok rfl ?_ h⟩
  exact (ss_seq (ss_set (ev_O (ee_lst (aa_cons (ev_V (ee_op2 vo_ixL (ev_var 1) (ev_int 0))) aa_nil))))
      (ss_seq (ss_set (ev_V (ee_call (aa_cons (ev_var 0) (aa_cons (ev_var 1) (aa_cons (ev_V (ee_op2 vo_ixL (ev_var 2) (ev_int 0))) aa_nil))))))
      (ss_seq (ss_while (tt_T (ev_V (ee_op2 (vo_in true) (ev_var 3) (ev_var 2))))
      (ss_seq (ss_drop (ee_meth vo_append (ev_var 2) (aa_cons (ev_var 3) aa_nil)))
      (ss_set (ev_V (ee_call (aa_cons (ev_var 0) (aa_cons (ev_var 1) (aa_cons (ev_var 3) aa_nil))))))))
      (ss_seq (ss_set (ev_T (ee_rev (ev_T (ee_sl so_l (ev_var 2) (oo_some (ev_V (ee_meth vo_index (ev_var 2) (aa_cons (ev_var 3) aa_nil)))) oo_none)))))
      (ss_ret (ee_comp (by decide) (ii_zip (aa_cons (ev_var 4) (aa_cons (ev_T (ee_op2 vo_cat (ev_T (ee_sl so_l (ev_var 4) (oo_some (ev_int 1)) oo_none)) (ev_T (ee_sl so_l (ev_var 4) oo_none (oo_some (ev_int 1)))))) aa_nil))) (gg_tup (ggs_cons (gg_name 5) (ggs_cons (gg_name 6) ggs_nil)) (gs_len_cons (gs_len_cons gs_len_nil))) tt_yes (ev_V (ee_tup (aa_cons (ev_var 5) (aa_cons (ev_V (ee_dget (ev_V (ee_dget (ev_var 0) (ev_var 6))) (ev_var 5))) aa_nil))))))))))
theorem ok_arranged (T : Top K mg) : FnOk P w K mg base (L2.CX P w) 3 (He.ga K "arranged") T.fd_arranged ps_arranged (spM K 1 m_arranged) := by
  refine T.F_arranged.ok sc_arranged (fun vs H Q E h => h.len) (fun cdv A outer s H vs Q E hr h => ?_)
  refine ⟨_, (pss_cons (ps_set (i := 1) sc_arranged.nd rfl (Or.inr rfl) (pe_callB cr_sortedS (by rfl) T.n_sorted (by decide +kernel) (pa_cons (pe_callTy (call_listD rfl) (by rfl) T.n_list (by decide +kernel) (pa_cons (pv 0) pa_nil)) pa_nil)))
      (pss_cons (ps_set (i := 2) sc_arranged.nd rfl (Or.inl rfl) (pe_lst pa_nil))
      (pss_cons (ps_while (passes_of rfl) (pt_truth (pv 1) (by intro _; rfl))
      (pss_cons (ps_setLc (i := 3) (own := [("name", 4)]) rfl sc_arranged.nd rfl rfl (sw_true rfl rfl rfl (by decide +kernel)) (pi_list (pv 1)) (blkOk_by (N := ns_arranged) (sc := defScope s_arranged) (by decide +kernel)) (fun _ _ _ _ _ => (pg_name (i := 4) sc_arranged.nd rfl (Or.inl rfl))) (fun _ _ _ _ _ => (pts_one (pt_not (pt_val (pe_callB (cr_anyK (K := K) rfl rfl) (by rfl) T.n_any (by decide +kernel) (pa_cons (pe_lc (own := [("elder", 5)]) rfl sc_arranged.nd (pi_keys (pe_dget (Nat.lt_of_le_of_lt (Nat.add_le_add_left (by decide) _) hr.units) (pv 0) (pv 4) (fun _ _ => rfl))) (rel_ok (blkOk_by (N := ns_arranged) (by decide +kernel))) (fun _ _ _ _ _ => (pg_name (i := 5) sc_arranged.nd rfl (Or.inl rfl))) (fun _ _ _ _ _ => pts_nil) (fun _ _ _ _ _ => (pe_cmpR (op_in_seqK (K := K) rfl) (pv 5) (pv 1) (by rfl)))) pa_nil)))))) (fun _ _ _ _ _ => (pv 4)))
      (pss_cons (ps_if (pt_not (pt_truth (pv 3) (by intro _; rfl))) (pss_one (ps_ret (pe_tupZ (pa_cons pe_str (pa_cons (pe_call (ok_ring_of T) (hr.mono (by decide)) rfl T.g_ring_of T.F_ring_of.kp (b_ring_of T) .nil (passes_call (takes_of rfl rfl rfl rfl) (fun _ _ _ _ h => h)) (pa_cons (pv 0) (pa_cons (pv 1) pa_nil))) pa_nil))))) pss_nil)
      (pss_cons (ps_expr (pe_bm PySem.F.plainAttrs_list PySem.F.slot_list_append PySem.F.type_list_append mt_append (pv 2) (pa_cons (pe_ix ix_list (pv 3) pe_int (fun _ _ => rfl)) pa_nil)))
      (pss_one (ps_expr (pe_bm PySem.F.plainAttrs_list PySem.F.slot_list_remove PySem.F.type_list_remove mt_removeV (pv 1) (pa_cons (pe_ix ix_list (pv 3) pe_int (fun _ _ => rfl)) pa_nil))))))))
      (pss_one (ps_ret (pe_tupZ (pa_cons pe_str (pa_cons (pv 2) pa_nil)))))))), body_ok rfl ?_ h⟩
  exact (ss_seq (ss_set (ev_O (ee_op vo_sorted (aa_cons (ev_T (ee_op vo_listD (aa_cons (ev_var 0) aa_nil))) aa_nil))))
      (ss_seq (ss_set (ev_O (ee_lst aa_nil)))
      (ss_seq (ss_while (tt_tru (ev_var 1))
      (ss_seq (ss_set (ev_T (ee_compO (by decide) (ev_var 1) (gg_name 4) (tt_not (tt_B (ev_V (ee_op vo_any (aa_cons (ev_T (ee_comp (by decide) (ii_keys (ev_V (ee_dget (ev_var 0) (ev_var 4)))) (gg_name 5) tt_yes (ev_V (ee_op2 (vo_in false) (ev_var 5) (ev_var 1))))) aa_nil))))) (ev_var 4))))
      (ss_seq (ss_if (tt_not (tt_tru (ev_var 3))) (ss_ret (ee_tup (aa_cons (ev_str "ring") (aa_cons (ev_T (ee_call (aa_cons (ev_var 0) (aa_cons (ev_T (ee_v (ev_var 1))) aa_nil)))) aa_nil)))) ss_nil)
      (ss_seq (ss_drop (ee_meth vo_append (ev_var 2) (aa_cons (ev_V (ee_op2 vo_ixL (ev_var 3) (ev_int 0))) aa_nil)))
      (ss_drop (ee_meth vo_remove (ev_var 1) (aa_cons (ev_V (ee_op2 vo_ixL (ev_var 3) (ev_int 0))) aa_nil)))))))
      (ss_ret (ee_tup (aa_cons (ev_str "order") (aa_cons (ev_T (ee_v (ev_var 2))) aa_nil)))))))
theorem ok_least_preloads (T : Top K mg) : FnOk P w K mg base (L2.CX P w) 7 (He.ga K "least_preloads") T.fd_least_preloads ps_least_preloads (spM K 3 m_least_preloads) := by
  refine T.F_least_preloads.ok sc_least_preloads (fun vs H Q E h => h.len) (fun cdv A outer s H vs Q E hr h => ?_)
  refine ⟨_, (pss_cons (ps_set (i := 3) sc_least_preloads.nd rfl (Or.inl rfl) (pe_call (ok_closure T) (hr.mono (by decide)) rfl T.g_closure T.F_closure.kp (b_closure T) .nil (passes_call (takes_of rfl rfl rfl rfl) (fun _ _ _ _ h => h)) (pa_cons (pv 0) (pa_cons (pv 1) pa_nil))))
      (pss_cons (ps_expr (pe_call (ok_check_wishes T) (hr.mono (by decide)) rfl T.g_check_wishes T.F_check_wishes.kp (b_check_wishes T) .nil (passes_call (takes_of rfl rfl rfl rfl) (fun _ _ _ _ h => h)) (pa_cons (pv 0) (pa_cons (pv 2) pa_nil))))
      (pss_cons (ps_for (passes_of rfl) rfl (pi_list (pe_callB cr_sortedS (by rfl) T.n_sorted (by decide +kernel) (pa_cons (pe_callTy (call_listD rfl) (by rfl) T.n_list (by decide +kernel) (pa_cons (pv 2) pa_nil)) pa_nil))) (pg_name (i := 4) sc_least_preloads.nd rfl (Or.inl rfl))
      (pss_one (ps_if (pt_cmpR op_notIn_seq (pv 4) (pe_fld (pe_ixO (ok_store_get T) (hr.mono (by decide)) (b_Store___getitem__ T) (passes_call (takes_of rfl rfl rfl rfl) (fun _ _ _ _ h => h)) (pv 0) (pe_dget (Nat.lt_of_le_of_lt (Nat.add_le_add_left (by decide) _) hr.units) (pv 2) (pv 4) (fun _ _ => rfl))) rfl) (by rfl)) (pss_one (ps_ret (pe_tupZ (pa_cons pe_str (pa_cons (pv 4) pa_nil))))) pss_nil)))
      (pss_cons (ps_for (passes_of rfl) rfl (pi_list (pe_callB cr_sortedS (by rfl) T.n_sorted (by decide +kernel) (pa_cons (pe_callTy (call_listD rfl) (by rfl) T.n_list (by decide +kernel) (pa_cons (pv 2) pa_nil)) pa_nil))) (pg_name (i := 4) sc_least_preloads.nd rfl (Or.inl rfl))
      (pss_one (ps_if (PW.pt (pw_and (pt_cmpR (op_neP hr.units) (pe_dget (Nat.lt_of_le_of_lt (Nat.add_le_add_left (by decide) _) hr.units) (pv 2) (pv 4) (fun _ _ => rfl)) (pv 1) (nomark _)) (pw_and1 (pt_cmpR op_in_seq (pv 4) (pe_fld (pe_ixO (ok_store_get T) (hr.mono (by decide)) (b_Store___getitem__ T) (passes_call (takes_of rfl rfl rfl rfl) (fun _ _ _ _ h => h)) (pv 0) (pv 1)) rfl) (by rfl))))) (pss_one (ps_ret (pe_tupZ (pa_cons pe_str (pa_cons (pv 4) pa_nil))))) pss_nil)))
      (pss_cons (ps_setDc (i := 5) (own := [("name", 6)]) rfl sc_least_preloads.nd rfl rfl (sw_trueD rfl rfl rfl (by decide +kernel)) (pi_list (pe_call (ok_required T) (hr.mono (by decide)) rfl T.g_required T.F_required.kp (b_required T) .nil (passes_call (takes_of rfl rfl rfl rfl) (fun _ _ _ _ h => h)) (pa_cons (pv 0) (pa_cons (pv 1) (pa_cons (pv 3) (pa_cons (pv 2) pa_nil)))))) (blkOk_by (N := ns_least_preloads) (sc := defScope s_least_preloads) (by decide +kernel)) (fun _ _ _ _ _ => (pg_name (i := 6) sc_least_preloads.nd rfl (Or.inl rfl))) (fun _ _ _ _ _ => pts_nil) (fun _ _ _ _ _ => (pv 6)) (fun _ _ _ _ _ => (pe_seal (pe_call (ok_elders_of T) (hr.mono (by decide)) rfl T.g_elders_of T.F_elders_of.kp (b_elders_of T) .nil passF (pa_cons (pv 0) (pa_cons (pv 1) (pa_cons (pv 2) (pa_cons (pv 6) pa_nil))))))))
      (pss_one (ps_ret (pe_call (ok_arranged T) (hr.mono (by decide)) rfl T.g_arranged T.F_arranged.kp (b_arranged T) .nil (passes_call (takes_of rfl rfl rfl rfl) (fun _ _ _ _ h => h)) (pa_cons (pv 5) pa_nil))))))))), body_ok rfl ?_ h⟩
  exact (ss_seq (ss_set (ev_T (ee_call (aa_cons (ev_var 0) (aa_cons (ev_var 1) aa_nil)))))
      (ss_seq (ss_drop (ee_call (aa_cons (ev_var 0) (aa_cons (ev_var 2) aa_nil))))
      (ss_seq (ss_for (ii_list (ev_T (ee_op vo_sorted (aa_cons (ev_T (ee_op vo_listD (aa_cons (ev_var 2) aa_nil))) aa_nil)))) (gg_name 4)
      (ss_if (tt_T (ev_V (ee_op2 (vo_in true) (ev_var 4) (ev_V (ee_libF T.c_Library T.na_Library_defines (ev_V (ee_getSto T.m_Store___getitem__.at_ T.m_Store___getitem__.fn T.fi_Store (ev_var 0) (ev_V (ee_dget (ev_var 2) (ev_var 4)))))))))) (ss_ret (ee_tup (aa_cons (ev_str "undefined") (aa_cons (ev_var 4) aa_nil)))) ss_nil))
      (ss_seq (ss_for (ii_list (ev_T (ee_op vo_sorted (aa_cons (ev_T (ee_op vo_listD (aa_cons (ev_var 2) aa_nil))) aa_nil)))) (gg_name 4)
      (ss_if (tt_and (tt_T (ev_V (ee_op2 (vo_eq true) (ev_V (ee_dget (ev_var 2) (ev_var 4))) (ev_var 1)))) (tt_T (ev_V (ee_op2 (vo_in false) (ev_var 4) (ev_V (ee_libF T.c_Library T.na_Library_defines (ev_V (ee_getSto T.m_Store___getitem__.at_ T.m_Store___getitem__.fn T.fi_Store (ev_var 0) (ev_var 1))))))))) (ss_ret (ee_tup (aa_cons (ev_str "main") (aa_cons (ev_var 4) aa_nil)))) ss_nil))
      (ss_seq (ss_set (ev_O (ee_dcomp (by decide) (ii_list (ev_T (ee_call (aa_cons (ev_var 0) (aa_cons (ev_var 1) (aa_cons (ev_var 3) (aa_cons (ev_var 2) aa_nil))))))) (gg_name 6) tt_yes (ev_var 6) (ev_TD (ee_call (aa_cons (ev_var 0) (aa_cons (ev_var 1) (aa_cons (ev_var 2) (aa_cons (ev_var 6) aa_nil)))))))))
      (ss_ret (ee_call (aa_cons (ev_var 5) aa_nil))))))))
theorem ok__law_cell_at (T : Top K mg) : FnOk P w K mg base (L2.CX P w) 1 (He.ga K "_law_cell_at") T.fd__law_cell_at ps__law_cell_at (spM K 2 m_cell_at) := by
  refine T.F__law_cell_at.ok sc__law_cell_at (fun vs H Q E h => h.len) (fun cdv A outer s H vs Q E hr h => ?_)
  refine ⟨_, (pss_cons (ps_if (pt_cmpR op_lt (pv 1) (pe_callB call_len (by rfl) T.n_len PySem.boot_len (pa_cons (pv 0) pa_nil)) (nomark _)) (pss_one (ps_ret (pe_ix ix_list (pv 0) (pv 1) (fun _ _ => rfl)))) pss_nil)
      (pss_one (ps_ret pe_int))), body_ok rfl ?_ h⟩
  exact (ss_seq (ss_if (tt_T (ev_V (ee_op2 vo_lt (ev_var 1) (ev_V (ee_op vo_len (aa_cons (ev_var 0) aa_nil)))))) (ss_ret (ee_v (ev_V (ee_op2 vo_ixL (ev_var 0) (ev_var 1))))) ss_nil)
      (ss_ret (ee_v (ev_int 0))))
theorem ok__law_begin (T : Top K mg) : FnOk P w K mg base (L2.CX P w) 1 (He.ga K "_law_begin") T.fd__law_begin ps__law_begin (spM K 1 m_begin) := by
  refine T.F__law_begin.ok sc__law_begin (fun vs H Q E h => h.len) (fun cdv A outer s H vs Q E hr h => ?_)
  refine ⟨_, (pss_one (ps_ret (pe_lst (pa_cons (pe_op op_mul (pv 0) (pe_callTy call_int1 (by rfl) T.n_int PyProof.Rows.boot_int (pa_cons (pe_cmpR op_ge (pv 0) (pe_op op_pow pe_int pe_int) (nomark _)) pa_nil))) (pa_cons (pe_op op_modN (pv 0) pe_int) (pa_cons pe_int pa_nil)))))), body_ok rfl ?_ h⟩
  exact (ss_ret (ee_lst (aa_cons (ev_V (ee_op2 vo_mul (ev_var 0) (ev_V (ee_op vo_int (aa_cons (ev_V (ee_op2 vo_ge (ev_var 0) (ev_V (ee_op2 vo_pow (ev_int 10) (ev_int 18))))) aa_nil))))) (aa_cons (ev_V (ee_op2 vo_mod (ev_var 0) (ev_int 2147483629))) (aa_cons (ev_int 0) aa_nil)))))
theorem ok__law_draw (T : Top K mg) : FnOk P w K mg base (L2.CX P w) 1 (He.ga K "_law_draw") T.fd__law_draw ps__law_draw (spM K 2 m_draw) := by
  refine T.F__law_draw.ok sc__law_draw (fun vs H Q E h => h.len) (fun cdv A outer s H vs Q E hr h => ?_)
  refine ⟨_, (pss_cons (ps_if (pt_cmpR op_gt (pe_ix ix_list (pv 0) pe_int (fun _ _ => rfl)) pe_int (nomark _)) (pss_cons (ps_set (i := 2) sc__law_draw.nd rfl (Or.inl rfl) (pe_op op_modN (pe_ix ix_list (pv 0) pe_int (fun _ _ => rfl)) (pv 1)))
      (pss_cons (ps_asg (pe_op op_fdivN (pe_ix ix_list (pv 0) pe_int (fun _ _ => rfl)) (pv 1)) (pg_sub (pv 0) pe_int set_list))
      (pss_one (ps_ret (pv 2))))) pss_nil)
      (pss_cons (ps_asg (pe_op op_add (pe_ix ix_list (pv 0) pe_int (fun _ _ => rfl)) pe_int) (pg_sub (pv 0) pe_int set_list))
      (pss_cons (ps_set (i := 3) sc__law_draw.nd rfl (Or.inl rfl) (pe_op op_modN (pe_op op_pow (pe_op op_add (pe_op op_add (pe_ix ix_list (pv 0) pe_int (fun _ _ => rfl)) (pe_op op_mul pe_int (pe_ix ix_list (pv 0) pe_int (fun _ _ => rfl)))) pe_int) pe_int) pe_int))
      (pss_cons (ps_set (i := 3) sc__law_draw.nd rfl (Or.inl rfl) (pe_op op_modN (pe_op op_mul (pe_op op_add (pv 3) (pe_op op_mul pe_int (pe_ix ix_list (pv 0) pe_int (fun _ _ => rfl)))) (pe_op op_add (pe_op op_fdivN (pv 3) pe_int) pe_int)) pe_int))
      (pss_one (ps_ret (pe_op op_modN (pe_op op_fdivN (pe_op op_modN (pe_op op_mul (pv 3) (pe_op op_add (pe_op op_fdivN (pv 3) pe_int) pe_int)) pe_int) pe_int) (pv 1)))))))), body_ok rfl ?_ h⟩
  exact (ss_seq (ss_if (tt_T (ev_V (ee_op2 vo_gt (ev_V (ee_op2 vo_ixL (ev_var 0) (ev_int 0))) (ev_int 0)))) (ss_seq (ss_set (ev_V (ee_op2 vo_mod (ev_V (ee_op2 vo_ixL (ev_var 0) (ev_int 0))) (ev_var 1))))
      (ss_seq (ss_setIx (ev_V (ee_op2 vo_div (ev_V (ee_op2 vo_ixL (ev_var 0) (ev_int 0))) (ev_var 1))) (ev_var 0) (ev_int 0))
      (ss_ret (ee_v (ev_var 2))))) ss_nil)
      (ss_seq (ss_setIx (ev_V (ee_op2 vo_add (ev_V (ee_op2 vo_ixL (ev_var 0) (ev_int 2))) (ev_int 1))) (ev_var 0) (ev_int 2))
      (ss_seq (ss_set (ev_V (ee_op2 vo_mod (ev_V (ee_op2 vo_pow (ev_V (ee_op2 vo_add (ev_V (ee_op2 vo_add (ev_V (ee_op2 vo_ixL (ev_var 0) (ev_int 1))) (ev_V (ee_op2 vo_mul (ev_int 30103) (ev_V (ee_op2 vo_ixL (ev_var 0) (ev_int 2))))))) (ev_int 11))) (ev_int 5))) (ev_int 2147483647))))
      (ss_seq (ss_set (ev_V (ee_op2 vo_mod (ev_V (ee_op2 vo_mul (ev_V (ee_op2 vo_add (ev_var 3) (ev_V (ee_op2 vo_mul (ev_int 7919) (ev_V (ee_op2 vo_ixL (ev_var 0) (ev_int 2))))))) (ev_V (ee_op2 vo_add (ev_V (ee_op2 vo_div (ev_var 3) (ev_int 1013))) (ev_int 69623))))) (ev_int 2147483587))))
      (ss_ret (ee_op2 vo_mod (ev_V (ee_op2 vo_div (ev_V (ee_op2 vo_mod (ev_V (ee_op2 vo_mul (ev_var 3) (ev_V (ee_op2 vo_add (ev_V (ee_op2 vo_div (ev_var 3) (ev_int 2011))) (ev_int 40693))))) (ev_int 2147483549))) (ev_int 5))) (ev_var 1)))))))
theorem ok__law_pick (T : Top K mg) : FnOk P w K mg base (L2.CX P w) 2 (He.ga K "_law_pick") T.fd__law_pick ps__law_pick (spM K 2 m_pick) := by
  refine T.F__law_pick.ok sc__law_pick (fun vs H Q E h => h.len) (fun cdv A outer s H vs Q E hr h => ?_)
  refine ⟨_, (pss_one (ps_ret (pe_ix ix_list (pv 1) (pe_call (ok__law_draw T) (hr.mono (by decide)) rfl T.g__law_draw T.F__law_draw.kp (b__law_draw T) .nil (passes_call (takes_of rfl rfl rfl rfl) (fun _ _ _ _ h => h)) (pa_cons (pv 0) (pa_cons (pe_callB call_len (by rfl) T.n_len PySem.boot_len (pa_cons (pv 1) pa_nil)) pa_nil))) (fun _ _ => rfl)))), body_ok rfl ?_ h⟩
  exact (ss_ret (ee_v (ev_V (ee_op2 vo_ixL (ev_var 1) (ev_V (ee_call (aa_cons (ev_var 0) (aa_cons (ev_V (ee_op vo_len (aa_cons (ev_var 1) aa_nil))) aa_nil))))))))
theorem ok__law_part (T : Top K mg) : FnOk P w K mg base (L2.CX P w) 2 (He.ga K "_law_part") T.fd__law_part ps__law_part (spM K 3 m_part) := by
  refine T.F__law_part.ok sc__law_part (fun vs H Q E h => h.len) (fun cdv A outer s H vs Q E hr h => ?_)
  refine ⟨_, (pss_cons (ps_setLc (i := 3) (own := [("_law_one", 5)]) rfl sc__law_part.nd rfl rfl (sw_true rfl rfl rfl (by decide +kernel)) (pi_list (pv 1)) (blkOk_by (N := ns__law_part) (sc := defScope s__law_part) (by decide +kernel)) (fun _ _ _ _ _ => (pg_name (i := 5) sc__law_part.nd rfl (Or.inl rfl))) (fun _ _ _ _ _ => (pts_one (pt_cmpR (op_eqPK (K := K) rfl hr.units) (pe_call (ok__law_draw T) (hr.mono (by decide)) rfl T.g__law_draw T.F__law_draw.kp (b__law_draw T) .nil passF (pa_cons (pv 0) (pa_cons (pv 2) pa_nil))) pe_int (nomark _)))) (fun _ _ _ _ _ => (pv 5)))
      (pss_cons (ps_set (i := 4) sc__law_part.nd rfl (Or.inl rfl) (pe_lst pa_nil))
      (pss_cons (ps_while (passes_of rfl) (pt_cmpR (op_neP hr.units) (pv 3) (pe_lst pa_nil) (nomark _))
      (pss_one (ps_expr (pe_bm PySem.F.plainAttrs_list PySem.F.slot_list_append PySem.F.type_list_append mt_append (pv 4) (pa_cons (pe_bm PySem.F.plainAttrs_list PySem.F.slot_list_pop PySem.F.type_list_pop mt_popAt (pv 3) (pa_cons (pe_call (ok__law_draw T) (hr.mono (by decide)) rfl T.g__law_draw T.F__law_draw.kp (b__law_draw T) .nil (passes_call (takes_of rfl rfl rfl rfl) (fun _ _ _ _ h => h)) (pa_cons (pv 0) (pa_cons (pe_callB call_len (by rfl) T.n_len PySem.boot_len (pa_cons (pv 3) pa_nil)) pa_nil))) pa_nil)) pa_nil)))))
      (pss_one (ps_ret (pv 4)))))), body_ok rfl ?_ h⟩
  exact (ss_seq (ss_set (ev_O (ee_comp (by decide) (ii_list (ev_var 1)) (gg_name 5) (tt_T (ev_V (ee_op2 (vo_eq false) (ev_V (ee_call (aa_cons (ev_var 0) (aa_cons (ev_var 2) aa_nil)))) (ev_int 0)))) (ev_var 5))))
      (ss_seq (ss_set (ev_O (ee_lst aa_nil)))
      (ss_seq (ss_while (tt_T (ev_V (ee_op2 (vo_eq true) (ev_var 3) (ev_T (ee_lst aa_nil)))))
      (ss_drop (ee_meth vo_append (ev_var 4) (aa_cons (ev_V (ee_meth vo_popAt (ev_var 3) (aa_cons (ev_V (ee_call (aa_cons (ev_var 0) (aa_cons (ev_V (ee_op vo_len (aa_cons (ev_var 3) aa_nil))) aa_nil)))) aa_nil))) aa_nil))))
      (ss_ret (ee_v (ev_var 4))))))
theorem ok__law_spelled (T : Top K mg) : FnOk P w K mg base (L2.CX P w) 3 (He.ga K "_law_spelled") T.fd__law_spelled ps__law_spelled (spM K 2 m_spelled) := by
  refine T.F__law_spelled.ok sc__law_spelled (fun vs H Q E h => h.len) (fun cdv A outer s H vs Q E hr h => ?_)
  refine ⟨_, (pss_cons (ps_set (i := 2) sc__law_spelled.nd rfl (Or.inl rfl) pe_str)
      (pss_cons (ps_set (i := 3) sc__law_spelled.nd rfl (Or.inl rfl) (pe_call (ok__law_draw T) (hr.mono (by decide)) rfl T.g__law_draw T.F__law_draw.kp (b__law_draw T) .nil (passes_call (takes_of rfl rfl rfl rfl) (fun _ _ _ _ h => h)) (pa_cons (pv 0) (pa_cons pe_int pa_nil))))
      (pss_cons (ps_set (i := 4) sc__law_spelled.nd rfl (Or.inl rfl) (pe_lst pa_nil))
      (pss_cons (ps_for (passes_of rfl) rfl (pi_range1 rfl T.n_range (pa_cons (pv 1) pa_nil)) (pg_name (i := 5) sc__law_spelled.nd rfl (Or.inl rfl))
      (pss_cons (ps_set (i := 6) sc__law_spelled.nd rfl (Or.inl rfl) pe_str)
      (pss_cons (ps_for (passes_of rfl) rfl (pi_range1 rfl T.n_range (pa_cons (pe_call (ok__law_pick T) (hr.mono (by decide)) rfl T.g__law_pick T.F__law_pick.kp (b__law_pick T) .nil (passes_call (takes_of rfl rfl rfl rfl) (fun _ _ _ _ h => h)) (pa_cons (pv 0) (pa_cons (pe_ifExp (pt_cmpR op_lt (pv 5) pe_int (nomark _)) (pe_lst (pa_cons pe_int (pa_cons pe_int (pa_cons pe_int (pa_cons pe_int (pa_cons pe_int pa_nil)))))) (pe_lst (pa_cons pe_int (pa_cons pe_int (pa_cons pe_int pa_nil))))) pa_nil))) pa_nil)) (pg_name (i := 7) sc__law_spelled.nd rfl (Or.inl rfl))
      (pss_one (ps_set (i := 6) sc__law_spelled.nd rfl (Or.inl rfl) (pe_op op_add_str (pv 6) (pe_item_str (pv 2) (pe_call (ok__law_draw T) (hr.mono (by decide)) rfl T.g__law_draw T.F__law_draw.kp (b__law_draw T) .nil (passes_call (takes_of rfl rfl rfl rfl) (fun _ _ _ _ h => h)) (pa_cons (pv 0) (pa_cons pe_int pa_nil))) (fun _ _ => rfl))))))
      (pss_one (ps_expr (pe_bm PySem.F.plainAttrs_list PySem.F.slot_list_append PySem.F.type_list_append mt_append (pv 4) (pa_cons (pe_op op_add_str (pv 6) (pe_item_str (pv 2) (pe_op op_modN (pe_op op_add (pv 3) (pe_op op_mul pe_int (pv 5))) pe_int) (fun _ _ => rfl))) pa_nil)))))))
      (pss_one (ps_ret (pv 4))))))), body_ok rfl ?_ h⟩
  exact (ss_seq (ss_set (ev_str "abcdefghijklmnopqrstuvwxyz"))
      (ss_seq (ss_set (ev_V (ee_call (aa_cons (ev_var 0) (aa_cons (ev_int 26) aa_nil)))))
      (ss_seq (ss_set (ev_O (ee_lst aa_nil)))
      (ss_seq (ss_for (ii_rng1 (aa_cons (ev_var 1) aa_nil)) (gg_name 5)
      (ss_seq (ss_set (ev_str ""))
      (ss_seq (ss_for (ii_rng1 (aa_cons (ev_V (ee_call (aa_cons (ev_var 0) (aa_cons (ev_T (ee_if (tt_T (ev_V (ee_op2 vo_lt (ev_var 5) (ev_int 26)))) (ee_lst (aa_cons (ev_int 0) (aa_cons (ev_int 1) (aa_cons (ev_int 1) (aa_cons (ev_int 2) (aa_cons (ev_int 11) aa_nil)))))) (ee_lst (aa_cons (ev_int 3) (aa_cons (ev_int 4) (aa_cons (ev_int 5) aa_nil)))))) aa_nil)))) aa_nil)) (gg_name 7)
      (ss_set (ev_V (ee_op2 vo_addS (ev_var 6) (ev_V (ee_op2 vo_ixS (ev_var 2) (ev_V (ee_call (aa_cons (ev_var 0) (aa_cons (ev_int 26) aa_nil))))))))))
      (ss_drop (ee_meth vo_append (ev_var 4) (aa_cons (ev_V (ee_op2 vo_addS (ev_var 6) (ev_V (ee_op2 vo_ixS (ev_var 2) (ev_V (ee_op2 vo_mod (ev_V (ee_op2 vo_add (ev_var 3) (ev_V (ee_op2 vo_mul (ev_int 7) (ev_var 5))))) (ev_int 26))))))) aa_nil))))))
      (ss_ret (ee_v (ev_var 4)))))))
theorem ok__law_library (T : Top K mg) : FnOk P w K mg base (L2.CX P w) 3 (He.ga K "_law_library") T.fd__law_library ps__law_library (spM K 5 m_library) := by
  refine T.F__law_library.ok sc__law_library (fun vs H Q E h => h.len) (fun cdv A outer s H vs Q E hr h => ?_)
  refine ⟨_, (pss_cons (ps_set (i := 5) sc__law_library.nd rfl (Or.inl rfl) (pe_slice sl_list (pe_call (ok__law_part T) (hr.mono (by decide)) rfl T.g__law_part T.F__law_part.kp (b__law_part T) .nil (passes_call (takes_of rfl rfl rfl rfl) (fun _ _ _ _ h => h)) (pa_cons (pv 0) (pa_cons (pe_lc (own := [("_law_one", 11)]) rfl sc__law_library.nd (pi_list (pv 2)) (blkOk_by (N := ns__law_library) (sc := defScope s__law_library) (by decide +kernel)) (fun _ _ _ _ _ => (pg_name (i := 11) sc__law_library.nd rfl (Or.inl rfl))) (fun _ _ _ _ _ => (pts_one (pt_cmpR (op_nePK (K := K) rfl hr.units) (pv 11) (pv 1) (nomark _)))) (fun _ _ _ _ _ => (pv 11))) (pa_cons (pe_call (ok__law_pick T) (hr.mono (by decide)) rfl T.g__law_pick T.F__law_pick.kp (b__law_pick T) .nil (passes_call (takes_of rfl rfl rfl rfl) (fun _ _ _ _ h => h)) (pa_cons (pv 0) (pa_cons (pe_lst (pa_cons pe_int (pa_cons pe_int (pa_cons pe_int pa_nil)))) pa_nil))) pa_nil)))) po_none (po_some pe_int)))
      (pss_cons (ps_if (pt_cmpR (op_eqP hr.units) (pe_call (ok__law_draw T) (hr.mono (by decide)) rfl T.g__law_draw T.F__law_draw.kp (b__law_draw T) .nil (passes_call (takes_of rfl rfl rfl rfl) (fun _ _ _ _ h => h)) (pa_cons (pv 0) (pa_cons pe_int pa_nil))) pe_int (nomark _)) (pss_cons (ps_set (i := 6) sc__law_library.nd rfl (Or.inl rfl) (pe_call (ok__law_draw T) (hr.mono (by decide)) rfl T.g__law_draw T.F__law_draw.kp (b__law_draw T) .nil (passes_call (takes_of rfl rfl rfl rfl) (fun _ _ _ _ h => h)) (pa_cons (pv 0) (pa_cons (pe_op op_add (pe_callB call_len (by rfl) T.n_len PySem.boot_len (pa_cons (pv 5) pa_nil)) pe_int) pa_nil))))
      (pss_one (ps_set (i := 5) sc__law_library.nd rfl (Or.inl rfl) (pe_op op_cat (pe_op op_cat (pe_slice sl_list (pv 5) po_none (po_some (pv 6))) (pe_lst (pa_cons (pv 3) pa_nil))) (pe_slice sl_list (pv 5) (po_some (pv 6)) po_none))))) pss_nil)
      (pss_cons (ps_if (pt_cmpR (op_eqP hr.units) (pv 1) (pe_ix ix_list (pv 2) pe_int (fun _ _ => rfl)) (nomark _)) (pss_one (ps_set (i := 5) sc__law_library.nd rfl (Or.inl rfl) (pe_lst pa_nil))) pss_nil)
      (pss_cons (ps_set (i := 7) sc__law_library.nd rfl (Or.inl rfl) (pe_call (ok__law_part T) (hr.mono (by decide)) rfl T.g__law_part T.F__law_part.kp (b__law_part T) .nil (passes_call (takes_of rfl rfl rfl rfl) (fun _ _ _ _ h => h)) (pa_cons (pv 0) (pa_cons (pv 4) (pa_cons (pe_call (ok__law_pick T) (hr.mono (by decide)) rfl T.g__law_pick T.F__law_pick.kp (b__law_pick T) .nil (passes_call (takes_of rfl rfl rfl rfl) (fun _ _ _ _ h => h)) (pa_cons (pv 0) (pa_cons (pe_lst (pa_cons pe_int (pa_cons pe_int (pa_cons pe_int pa_nil)))) pa_nil))) pa_nil)))))
      (pss_cons (ps_set (i := 8) sc__law_library.nd rfl (Or.inl rfl) (pe_call (ok__law_part T) (hr.mono (by decide)) rfl T.g__law_part T.F__law_part.kp (b__law_part T) .nil (passes_call (takes_of rfl rfl rfl rfl) (fun _ _ _ _ h => h)) (pa_cons (pv 0) (pa_cons (pv 4) (pa_cons pe_int pa_nil)))))
      (pss_cons (ps_set (i := 9) sc__law_library.nd rfl (Or.inl rfl) (pe_call (ok__law_part T) (hr.mono (by decide)) rfl T.g__law_part T.F__law_part.kp (b__law_part T) .nil (passes_call (takes_of rfl rfl rfl rfl) (fun _ _ _ _ h => h)) (pa_cons (pv 0) (pa_cons (pv 8) (pa_cons pe_int pa_nil)))))
      (pss_cons (ps_set (i := 10) sc__law_library.nd rfl (Or.inl rfl) (pe_tupZ (pa_cons (pe_cmpR (op_eqP hr.units) (pe_call (ok__law_draw T) (hr.mono (by decide)) rfl T.g__law_draw T.F__law_draw.kp (b__law_draw T) .nil (passes_call (takes_of rfl rfl rfl rfl) (fun _ _ _ _ h => h)) (pa_cons (pv 0) (pa_cons pe_int pa_nil))) pe_int (nomark _)) (pa_cons (pe_cmpR (op_eqP hr.units) (pe_call (ok__law_draw T) (hr.mono (by decide)) rfl T.g__law_draw T.F__law_draw.kp (b__law_draw T) .nil (passes_call (takes_of rfl rfl rfl rfl) (fun _ _ _ _ h => h)) (pa_cons (pv 0) (pa_cons pe_int pa_nil))) pe_int (nomark _)) pa_nil))))
      (pss_one (ps_ret (pe_op op_catZA (pe_tupZ (pa_cons (pe_callTy call_tupZ (by rfl) T.n_tuple (by decide +kernel) (pa_cons (pv 5) pa_nil)) (pa_cons (pe_callTy call_tupZ (by rfl) T.n_tuple (by decide +kernel) (pa_cons (pv 7) pa_nil)) (pa_cons (pe_callTy call_tupZ (by rfl) T.n_tuple (by decide +kernel) (pa_cons (pv 8) pa_nil)) (pa_cons (pe_callTy call_tupZ (by rfl) T.n_tuple (by decide +kernel) (pa_cons (pv 9) pa_nil)) pa_nil))))) (pv 10))))))))))), body_ok rfl ?_ h⟩
  exact (ss_seq (ss_set (ev_T (ee_sl so_l (ev_T (ee_call (aa_cons (ev_var 0) (aa_cons (ev_T (ee_comp (by decide) (ii_list (ev_var 2)) (gg_name 11) (tt_T (ev_V (ee_op2 (vo_eq true) (ev_var 11) (ev_var 1)))) (ev_var 11))) (aa_cons (ev_V (ee_call (aa_cons (ev_var 0) (aa_cons (ev_T (ee_lst (aa_cons (ev_int 2) (aa_cons (ev_int 3) (aa_cons (ev_int 5) aa_nil))))) aa_nil)))) aa_nil))))) oo_none (oo_some (ev_int 11)))))
      (ss_seq (ss_if (tt_T (ev_V (ee_op2 (vo_eq false) (ev_V (ee_call (aa_cons (ev_var 0) (aa_cons (ev_int 20) aa_nil)))) (ev_int 0)))) (ss_seq (ss_set (ev_V (ee_call (aa_cons (ev_var 0) (aa_cons (ev_V (ee_op2 vo_add (ev_V (ee_op vo_len (aa_cons (ev_var 5) aa_nil))) (ev_int 1))) aa_nil)))))
      (ss_set (ev_T (ee_op2 vo_cat (ev_T (ee_op2 vo_cat (ev_T (ee_sl so_l (ev_var 5) oo_none (oo_some (ev_var 6)))) (ev_T (ee_lst (aa_cons (ev_var 3) aa_nil))))) (ev_T (ee_sl so_l (ev_var 5) (oo_some (ev_var 6)) oo_none)))))) ss_nil)
      (ss_seq (ss_if (tt_T (ev_V (ee_op2 (vo_eq false) (ev_var 1) (ev_V (ee_op2 vo_ixL (ev_var 2) (ev_int 0)))))) (ss_set (ev_T (ee_lst aa_nil))) ss_nil)
      (ss_seq (ss_set (ev_T (ee_call (aa_cons (ev_var 0) (aa_cons (ev_var 4) (aa_cons (ev_V (ee_call (aa_cons (ev_var 0) (aa_cons (ev_T (ee_lst (aa_cons (ev_int 1) (aa_cons (ev_int 2) (aa_cons (ev_int 3) aa_nil))))) aa_nil)))) aa_nil))))))
      (ss_seq (ss_set (ev_T (ee_call (aa_cons (ev_var 0) (aa_cons (ev_var 4) (aa_cons (ev_int 2) aa_nil))))))
      (ss_seq (ss_set (ev_T (ee_call (aa_cons (ev_var 0) (aa_cons (ev_var 8) (aa_cons (ev_int 3) aa_nil))))))
      (ss_seq (ss_set (ev_V (ee_tup (aa_cons (ev_V (ee_op2 (vo_eq false) (ev_V (ee_call (aa_cons (ev_var 0) (aa_cons (ev_int 4) aa_nil)))) (ev_int 0))) (aa_cons (ev_V (ee_op2 (vo_eq false) (ev_V (ee_call (aa_cons (ev_var 0) (aa_cons (ev_int 3) aa_nil)))) (ev_int 0))) aa_nil)))))
      (ss_ret (ee_op2 vo_catU (ev_V (ee_tup (aa_cons (ev_V (ee_op vo_tupOf (aa_cons (ev_var 5) aa_nil))) (aa_cons (ev_V (ee_op vo_tupOf (aa_cons (ev_var 7) aa_nil))) (aa_cons (ev_V (ee_op vo_tupOf (aa_cons (ev_var 8) aa_nil))) (aa_cons (ev_V (ee_op vo_tupOf (aa_cons (ev_var 9) aa_nil))) aa_nil)))))) (ev_var 10))))))))))
theorem ok__law_libraries (T : Top K mg) : FnOk P w K mg base (L2.CX P w) 4 (He.ga K "_law_libraries") T.fd__law_libraries ps__law_libraries (spM K 3 m_libraries) := by
  refine T.F__law_libraries.ok sc__law_libraries (fun vs H Q E h => h.len) (fun cdv A outer s H vs Q E hr h => ?_)
  refine ⟨_, (pss_cons (ps_set (i := 3) sc__law_libraries.nd rfl (Or.inl rfl) (pe_call (ok__law_spelled T) (hr.mono (by decide)) rfl T.g__law_spelled T.F__law_spelled.kp (b__law_spelled T) .nil (passes_call (takes_of rfl rfl rfl rfl) (fun _ _ _ _ h => h)) (pa_cons (pv 0) (pa_cons (pe_op op_add pe_int (pe_call (ok__law_draw T) (hr.mono (by decide)) rfl T.g__law_draw T.F__law_draw.kp (b__law_draw T) .nil (passes_call (takes_of rfl rfl rfl rfl) (fun _ _ _ _ h => h)) (pa_cons (pv 0) (pa_cons (pe_op op_sub (pv 1) pe_int) pa_nil)))) pa_nil))))
      (pss_cons (ps_set (i := 4) sc__law_libraries.nd rfl (Or.inl rfl) pe_dnewK)
      (pss_cons (ps_for (passes_of rfl) rfl (pi_list (pe_slice sl_list (pv 3) po_none (po_some (pe_un un_neg pe_int)))) (pg_name (i := 5) sc__law_libraries.nd rfl (Or.inl rfl))
      (pss_one (ps_dput (Nat.lt_of_le_of_lt (Nat.add_le_add_left (by decide) _) hr.units) (pv 4) (pv 5) (pe_call (ok__law_library T) (hr.mono (by decide)) rfl T.g__law_library T.F__law_library.kp (b__law_library T) .nil (passes_call (takes_of rfl rfl rfl rfl) (fun _ _ _ _ h => h)) (pa_cons (pv 0) (pa_cons (pv 5) (pa_cons (pe_slice sl_list (pv 3) po_none (po_some (pe_un un_neg pe_int))) (pa_cons (pe_ix ix_list (pv 3) (pe_un un_neg pe_int) (fun _ _ => rfl)) (pa_cons (pv 2) pa_nil)))))) rfl)))
      (pss_one (ps_ret (pe_tupZ (pa_cons (pe_seal (pv 4)) (pa_cons (pe_ix ix_list (pv 3) (pe_un un_neg pe_int) (fun _ _ => rfl)) pa_nil)))))))), body_ok rfl ?_ h⟩
  exact (ss_seq (ss_set (ev_T (ee_call (aa_cons (ev_var 0) (aa_cons (ev_V (ee_op2 vo_add (ev_int 3) (ev_V (ee_call (aa_cons (ev_var 0) (aa_cons (ev_V (ee_op2 vo_sub (ev_var 1) (ev_int 1))) aa_nil)))))) aa_nil)))))
      (ss_seq (ss_set (ev_O ee_dnew))
      (ss_seq (ss_for (ii_list (ev_T (ee_sl so_l (ev_var 3) oo_none (oo_some (ev_V (ee_neg (ev_int 1))))))) (gg_name 5)
      (ss_dput (ev_var 4) (ev_var 5) (ev_V (ee_call (aa_cons (ev_var 0) (aa_cons (ev_var 5) (aa_cons (ev_T (ee_sl so_l (ev_var 3) oo_none (oo_some (ev_V (ee_neg (ev_int 1)))))) (aa_cons (ev_V (ee_op2 vo_ixL (ev_var 3) (ev_V (ee_neg (ev_int 1))))) (aa_cons (ev_var 2) aa_nil)))))))))
      (ss_ret (ee_tup (aa_cons (ev_TD (ee_v (ev_var 4))) (aa_cons (ev_V (ee_op2 vo_ixL (ev_var 3) (ev_V (ee_neg (ev_int 1))))) aa_nil)))))))
theorem ok__law_stored (T : Top K mg) : FnOk P w K mg base (L2.CX P w) 5 (He.ga K "_law_stored") T.fd__law_stored ps__law_stored (spM K 1 m_stored) := by
  obtain ⟨mv, hb⟩ := b_lib_all T
  refine T.F__law_stored.ok sc__law_stored (fun vs H Q E h => h.len) (fun cdv A outer s H vs Q E hr h => ?_)
  refine ⟨_, (pss_cons (ps_set (i := 1) sc__law_stored.nd rfl (Or.inl rfl) (pe_lst pa_nil))
      (pss_cons (ps_for (passes_of rfl) rfl (pi_items (pv 0)) (pg_tup (n := 2) rfl (pgs_cons (pg_name (i := 2) sc__law_stored.nd rfl (Or.inl rfl)) (pgs_cons (pg_name (i := 3) sc__law_stored.nd rfl (Or.inl rfl)) pgs_nil)))
      (pss_cons (ps_asg (pe_slice sl_tupZA (pv 3) po_none (po_some pe_int)) (pg_tup (n := 4) rfl (pgs_cons (pg_name (i := 4) sc__law_stored.nd rfl (Or.inl rfl)) (pgs_cons (pg_name (i := 5) sc__law_stored.nd rfl (Or.inl rfl)) (pgs_cons (pg_name (i := 6) sc__law_stored.nd rfl (Or.inl rfl)) (pgs_cons (pg_name (i := 7) sc__law_stored.nd rfl (Or.inl rfl)) pgs_nil))))))
      (pss_one (ps_expr (pe_bm PySem.F.plainAttrs_list PySem.F.slot_list_append PySem.F.type_list_append mt_append (pv 1) (pa_cons (pe_makeK T.mk_Library (ok_lib_init T) (hr.mono (by decide)) rfl T.g_Library hb pass0 (pa_cons (pv 2) pa_nil) (pk_cons (pv 4) (pk_cons (pv 5) (pk_cons (pv 6) (pk_cons (pv 7) (pk_cons (pe_ix ix_tup (pv 3) pe_int (fun _ _ => rfl)) (pk_cons (pe_ix ix_tup (pv 3) pe_int (fun _ _ => rfl)) pk_nil))))))) pa_nil))))))
      (pss_one (ps_ret (pe_make T.mk_Store (ok_store_init T) (hr.mono (by decide)) rfl T.g_Store (b_Store___init__ T) .nil (passes_call (takes_of rfl rfl rfl rfl) (fun _ _ _ _ h => h)) (pa_cons (pv 1) pa_nil)))))), body_ok rfl ?_ h⟩
  exact (ss_seq (ss_set (ev_O (ee_lst aa_nil)))
      (ss_seq (ss_for (ii_items (ev_var 0)) (gg_tup (ggs_cons (gg_name 2) (ggs_cons (gg_name 3) ggs_nil)) (gs_len_cons (gs_len_cons gs_len_nil)))
      (ss_seq (ss_unp (ev_V (ee_sl so_u (ev_var 3) oo_none (oo_some (ev_int 4)))) (gg_tup (ggs_cons (gg_name 4) (ggs_cons (gg_name 5) (ggs_cons (gg_name 6) (ggs_cons (gg_name 7) ggs_nil)))) (gs_len_cons (gs_len_cons (gs_len_cons (gs_len_cons gs_len_nil))))))
      (ss_drop (ee_meth vo_append (ev_var 1) (aa_cons (ev_V (ee_mkLib rfl (aa_cons (ev_var 2) aa_nil) (aa_cons (ev_var 4) (aa_cons (ev_var 5) (aa_cons (ev_var 6) (aa_cons (ev_var 7) (aa_cons (ev_V (ee_op2 vo_ixU (ev_var 3) (ev_int 4))) (aa_cons (ev_V (ee_op2 vo_ixU (ev_var 3) (ev_int 5))) aa_nil)))))))) aa_nil)))))
      (ss_ret (ee_mkSto (aa_cons (ev_T (ee_v (ev_var 1))) aa_nil)))))
theorem ok__law_closed (T : Top K mg) : FnOk P w K mg base (L2.CX P w) 1 (He.ga K "_law_closed") T.fd__law_closed ps__law_closed (spM K 2 m_closed) := by
  refine T.F__law_closed.ok sc__law_closed (fun vs H Q E h => h.len) (fun cdv A outer s H vs Q E hr h => ?_)
  refine ⟨_, (pss_cons (ps_asg (pe_tupZ (pa_cons (pe_lst (pa_cons (pv 1) pa_nil)) (pa_cons pe_int pa_nil))) (pg_tup (n := 2) rfl (pgs_cons (pg_name (i := 2) sc__law_closed.nd rfl (Or.inr rfl)) (pgs_cons (pg_name (i := 3) sc__law_closed.nd rfl (Or.inl rfl)) pgs_nil))))
      (pss_cons (ps_while (passes_of rfl) (pt_cmpR op_lt (pv 3) (pe_callB call_len (by rfl) T.n_len PySem.boot_len (pa_cons (pv 2) pa_nil)) (nomark _))
      (pss_cons (ps_if (pt_cmp (pc_dnotin (Nat.lt_of_le_of_lt (Nat.add_le_add_left (by decide) _) hr.units) (pe_ix ix_list (pv 2) (pv 3) (fun _ _ => rfl)) (pv 0))) (pss_one (ps_ret pe_non)) pss_nil)
      (pss_cons (ps_set (i := 2) sc__law_closed.nd rfl (Or.inr rfl) (pe_op op_cat (pv 2) (pe_lc (own := [("_law_one", 4)]) rfl sc__law_closed.nd (pi_tup (pe_ix ix_tup (pe_dget (Nat.lt_of_le_of_lt (Nat.add_le_add_left (by decide) _) hr.units) (pv 0) (pe_ix ix_list (pv 2) (pv 3) (fun _ _ => rfl)) (fun _ _ => rfl)) pe_int (fun _ _ => rfl))) (blkOk_by (N := ns__law_closed) (sc := defScope s__law_closed) (by decide +kernel)) (fun _ _ _ _ _ => (pg_name (i := 4) sc__law_closed.nd rfl (Or.inl rfl))) (fun _ _ _ _ _ => (pts_one (pt_cmpR (op_notIn_seqK (K := K) rfl) (pv 4) (pv 2) (by rfl)))) (fun _ _ _ _ _ => (pv 4)))))
      (pss_one (ps_set (i := 3) sc__law_closed.nd rfl (Or.inl rfl) (pe_op op_add (pv 3) pe_int))))))
      (pss_one (ps_ret (pv 2))))), body_ok rfl ?_ h⟩
  exact (ss_seq (ss_unp (ev_V (ee_tup (aa_cons (ev_T (ee_lst (aa_cons (ev_var 1) aa_nil))) (aa_cons (ev_int 0) aa_nil)))) (gg_tup (ggs_cons (gg_name 2) (ggs_cons (gg_name 3) ggs_nil)) (gs_len_cons (gs_len_cons gs_len_nil))))
      (ss_seq (ss_while (tt_T (ev_V (ee_op2 vo_lt (ev_var 3) (ev_V (ee_op vo_len (aa_cons (ev_var 2) aa_nil))))))
      (ss_seq (ss_if (tt_B (ev_V (ee_dnotin (ev_V (ee_op2 vo_ixL (ev_var 2) (ev_var 3))) (ev_var 0)))) (ss_ret (ee_v ev_non)) ss_nil)
      (ss_seq (ss_set (ev_T (ee_op2 vo_cat (ev_var 2) (ev_T (ee_comp (by decide) (ii_tup (ev_V (ee_op2 vo_ixU (ev_V (ee_dget (ev_var 0) (ev_V (ee_op2 vo_ixL (ev_var 2) (ev_var 3))))) (ev_int 0)))) (gg_name 4) (tt_T (ev_V (ee_op2 (vo_in true) (ev_var 4) (ev_var 2)))) (ev_var 4))))))
      (ss_set (ev_V (ee_op2 vo_add (ev_var 3) (ev_int 1)))))))
      (ss_ret (ee_v (ev_var 2)))))
theorem ok__law_complete (T : Top K mg) : FnOk P w K mg base (L2.CX P w) 2 (He.ga K "_law_complete") T.fd__law_complete ps__law_complete (spM K 1 m_complete) := by
  refine T.F__law_complete.ok sc__law_complete (fun vs H Q E h => h.len) (fun cdv A outer s H vs Q E hr h => ?_)
  refine ⟨_, (pss_one (ps_ret (pe_lc (own := [("_law_word", 1)]) rfl sc__law_complete.nd (pi_keys (pv 0)) (blkOk_by (N := ns__law_complete) (sc := defScope s__law_complete) (by decide +kernel)) (fun _ _ _ _ _ => (pg_name (i := 1) sc__law_complete.nd rfl (Or.inl rfl))) (fun _ _ _ _ _ => (pts_one (pt_cmp (pc_notN (pe_call (ok__law_closed T) (hr.mono (by decide)) rfl T.g__law_closed T.F__law_closed.kp (b__law_closed T) .nil passF (pa_cons (pv 0) (pa_cons (pv 1) pa_nil))))))) (fun _ _ _ _ _ => (pv 1))))), body_ok rfl ?_ h⟩
  exact (ss_ret (ee_comp (by decide) (ii_keys (ev_var 0)) (gg_name 1) (tt_B (ev_V (ee_notN (ev_T (ee_call (aa_cons (ev_var 0) (aa_cons (ev_var 1) aa_nil))))))) (ev_var 1)))
theorem ok__law_wishes (T : Top K mg) : FnOk P w K mg base (L2.CX P w) 3 (He.ga K "_law_wishes") T.fd__law_wishes ps__law_wishes (spM K 3 m_wishes) := by
  refine T.F__law_wishes.ok sc__law_wishes (fun vs H Q E h => h.len) (fun cdv A outer s H vs Q E hr h => ?_)
  refine ⟨_, (pss_cons (ps_set (i := 3) sc__law_wishes.nd rfl (Or.inl rfl) pe_dnewK)
      (pss_cons (ps_for (passes_of rfl) rfl (pi_list (pe_call (ok__law_part T) (hr.mono (by decide)) rfl T.g__law_part T.F__law_part.kp (b__law_part T) .nil (passes_call (takes_of rfl rfl rfl rfl) (fun _ _ _ _ h => h)) (pa_cons (pv 0) (pa_cons (pv 2) (pa_cons (pe_call (ok__law_pick T) (hr.mono (by decide)) rfl T.g__law_pick T.F__law_pick.kp (b__law_pick T) .nil (passes_call (takes_of rfl rfl rfl rfl) (fun _ _ _ _ h => h)) (pa_cons (pv 0) (pa_cons (pe_lst (pa_cons pe_int (pa_cons pe_int pa_nil))) pa_nil))) pa_nil))))) (pg_name (i := 4) sc__law_wishes.nd rfl (Or.inr rfl))
      (pss_cons (ps_setLc (i := 5) (own := [("_law_word", 6)]) rfl sc__law_wishes.nd rfl rfl (sw_true rfl rfl rfl (by decide +kernel)) (pi_keys (pv 1)) (blkOk_by (N := ns__law_wishes) (sc := defScope s__law_wishes) (by decide +kernel)) (fun _ _ _ _ _ => (pg_name (i := 6) sc__law_wishes.nd rfl (Or.inl rfl))) (fun _ _ _ _ _ => (pts_one (pt_cmpR (op_in_seqK (K := K) rfl) (pv 4) (pe_ix (ix_tupK (K := K) rfl) (pe_dget (Nat.lt_of_le_of_lt (Nat.add_le_add_left (by decide) _) hr.units) (pv 1) (pv 6) (fun _ _ => rfl)) pe_int (fun _ _ => rfl)) (by rfl)))) (fun _ _ _ _ _ => (pv 6)))
      (pss_one (ps_dput (Nat.lt_of_le_of_lt (Nat.add_le_add_left (by decide) _) hr.units) (pv 3) (pv 4) (pe_call (ok__law_pick T) (hr.mono (by decide)) rfl T.g__law_pick T.F__law_pick.kp (b__law_pick T) .nil (passes_call (takes_of rfl rfl rfl rfl) (fun _ _ _ _ h => h)) (pa_cons (pv 0) (pa_cons (pe_op op_cat (pe_op op_rep (pv 5) pe_int) (pe_callTy (call_listD rfl) (by rfl) T.n_list (by decide +kernel) (pa_cons (pv 1) pa_nil))) pa_nil))) rfl))))
      (pss_one (ps_ret (pv 3))))), body_ok rfl ?_ h⟩
  exact (ss_seq (ss_set (ev_O ee_dnew))
      (ss_seq (ss_for (ii_list (ev_T (ee_call (aa_cons (ev_var 0) (aa_cons (ev_var 2) (aa_cons (ev_V (ee_call (aa_cons (ev_var 0) (aa_cons (ev_T (ee_lst (aa_cons (ev_int 1) (aa_cons (ev_int 2) aa_nil)))) aa_nil)))) aa_nil)))))) (gg_name 4)
      (ss_seq (ss_set (ev_T (ee_comp (by decide) (ii_keys (ev_var 1)) (gg_name 6) (tt_T (ev_V (ee_op2 (vo_in false) (ev_var 4) (ev_V (ee_op2 vo_ixU (ev_V (ee_dget (ev_var 1) (ev_var 6))) (ev_int 1)))))) (ev_var 6))))
      (ss_dput (ev_var 3) (ev_var 4) (ev_V (ee_call (aa_cons (ev_var 0) (aa_cons (ev_T (ee_op2 vo_cat (ev_T (ee_op2 vo_rep (ev_var 5) (ev_int 4))) (ev_T (ee_op vo_listD (aa_cons (ev_var 1) aa_nil))))) aa_nil)))))))
      (ss_ret (ee_v (ev_var 3)))))
theorem ok__law_definer (T : Top K mg) : FnOk P w K mg base (L2.CX P w) 1 (He.ga K "_law_definer") T.fd__law_definer ps__law_definer (spM K 3 m_definer) := by
  refine T.F__law_definer.ok sc__law_definer (fun vs H Q E h => h.len) (fun cdv A outer s H vs Q E hr h => ?_)
  refine ⟨_, (pss_one (ps_ret (pe_ix ix_list (pe_op op_cat (pe_lc (own := [("_law_word", 3)]) rfl sc__law_definer.nd (pi_list (pv 1)) (blkOk_by (N := ns__law_definer) (sc := defScope s__law_definer) (by decide +kernel)) (fun _ _ _ _ _ => (pg_name (i := 3) sc__law_definer.nd rfl (Or.inl rfl))) (fun _ _ _ _ _ => (pts_one (pt_cmpR (op_in_seqK (K := K) rfl) (pv 2) (pe_ix (ix_tupK (K := K) rfl) (pe_dget (Nat.lt_of_le_of_lt (Nat.add_le_add_left (by decide) _) hr.units) (pv 0) (pv 3) (fun _ _ => rfl)) pe_int (fun _ _ => rfl)) (by rfl)))) (fun _ _ _ _ _ => (pv 3))) (pe_lst (pa_cons pe_non pa_nil))) pe_int (fun _ _ => rfl)))), body_ok rfl ?_ h⟩
  exact (ss_ret (ee_v (ev_V (ee_op2 vo_ixL (ev_T (ee_op2 vo_cat (ev_T (ee_comp (by decide) (ii_list (ev_var 1)) (gg_name 3) (tt_T (ev_V (ee_op2 (vo_in false) (ev_var 2) (ev_V (ee_op2 vo_ixU (ev_V (ee_dget (ev_var 0) (ev_var 3))) (ev_int 1)))))) (ev_var 3))) (ev_T (ee_lst (aa_cons ev_non aa_nil))))) (ev_int 0)))))
theorem ok__law_global (T : Top K mg) : FnOk P w K mg base (L2.CX P w) 2 (He.ga K "_law_global") T.fd__law_global ps__law_global (spM K 3 m_global) := by
  refine T.F__law_global.ok sc__law_global (fun vs H Q E h => h.len) (fun cdv A outer s H vs Q E hr h => ?_)
  refine ⟨_, (pss_cons (ps_set (i := 3) sc__law_global.nd rfl (Or.inr rfl) (pe_op op_cat (pe_lst (pa_cons (pv 1) pa_nil)) (pe_callTy call_list_of (by rfl) T.n_list (by decide +kernel) (pa_cons (pv 2) pa_nil))))
      (pss_one (ps_ret (pe_op op_cat (pv 3) (pe_lc (own := [("_law_one", 4)]) rfl sc__law_global.nd (pi_list (pe_call (ok__law_closed T) (hr.mono (by decide)) rfl T.g__law_closed T.F__law_closed.kp (b__law_closed T) .nil (passes_call (takes_of rfl rfl rfl rfl) (fun _ _ _ _ h => h)) (pa_cons (pv 0) (pa_cons (pv 1) pa_nil)))) (blkOk_by (N := ns__law_global) (sc := defScope s__law_global) (by decide +kernel)) (fun _ _ _ _ _ => (pg_name (i := 4) sc__law_global.nd rfl (Or.inl rfl))) (fun _ _ _ _ _ => (pts_one (pt_cmpR (op_notIn_seqK (K := K) rfl) (pv 4) (pv 3) (by rfl)))) (fun _ _ _ _ _ => (pv 4))))))), body_ok rfl ?_ h⟩
  exact (ss_seq (ss_set (ev_T (ee_op2 vo_cat (ev_T (ee_lst (aa_cons (ev_var 1) aa_nil))) (ev_T (ee_op vo_listOf (aa_cons (ev_var 2) aa_nil))))))
      (ss_ret (ee_op2 vo_cat (ev_var 3) (ev_T (ee_comp (by decide) (ii_list (ev_T (ee_call (aa_cons (ev_var 0) (aa_cons (ev_var 1) aa_nil))))) (gg_name 4) (tt_T (ev_V (ee_op2 (vo_in true) (ev_var 4) (ev_var 3)))) (ev_var 4))))))
theorem ok__law_met (T : Top K mg) : FnOk P w K mg base (L2.CX P w) 2 (He.ga K "_law_met") T.fd__law_met ps__law_met (spM K 3 m_met) := by
  refine T.F__law_met.ok sc__law_met (fun vs H Q E h => h.len) (fun cdv A outer s H vs Q E hr h => ?_)
  refine ⟨_, (pss_one (ps_ret (pe_callB (cr_all rfl) (by rfl) T.n_all (by decide +kernel) (pa_cons (pe_lc (own := [("_law_sign", 3), ("_law_word", 4)]) rfl sc__law_met.nd (pi_items (pv 2)) (blkOk_by (N := ns__law_met) (sc := defScope s__law_met) (by decide +kernel)) (fun _ _ _ _ _ => (pg_tupK (K := K) rfl (n := 2) rfl (pgs_cons (pg_name (i := 3) sc__law_met.nd rfl (Or.inl rfl)) (pgs_cons (pg_name (i := 4) sc__law_met.nd rfl (Or.inl rfl)) pgs_nil)))) (fun _ _ _ _ _ => pts_nil) (fun _ _ _ _ _ => (pe_cmpR (op_eqPK (K := K) rfl hr.units) (pe_call (ok__law_definer T) (hr.mono (by decide)) rfl T.g__law_definer T.F__law_definer.kp (b__law_definer T) .nil passF (pa_cons (pv 0) (pa_cons (pv 1) (pa_cons (pv 3) pa_nil)))) (pv 4) (nomark _)))) pa_nil)))), body_ok rfl ?_ h⟩
  exact (ss_ret (ee_op vo_all (aa_cons (ev_T (ee_comp (by decide) (ii_items (ev_var 2)) (gg_tup (ggs_cons (gg_name 3) (ggs_cons (gg_name 4) ggs_nil)) (gs_len_cons (gs_len_cons gs_len_nil))) tt_yes (ev_V (ee_op2 (vo_eq false) (ev_V (ee_call (aa_cons (ev_var 0) (aa_cons (ev_var 1) (aa_cons (ev_var 3) aa_nil))))) (ev_var 4))))) aa_nil)))
theorem ok__law_ahead (T : Top K mg) : FnOk P w K mg base (L2.CX P w) 1 (He.ga K "_law_ahead") T.fd__law_ahead ps__law_ahead (spM K 4 m_ahead) := by
  refine T.F__law_ahead.ok sc__law_ahead (fun vs H Q E h => h.len) (fun cdv A outer s H vs Q E hr h => ?_)
  refine ⟨_, (pss_cons (ps_set (i := 4) sc__law_ahead.nd rfl (Or.inl rfl) (pe_lst pa_nil))
      (pss_cons (ps_for (passes_of rfl) rfl (pi_tup (pe_ix ix_tup (pe_dget (Nat.lt_of_le_of_lt (Nat.add_le_add_left (by decide) _) hr.units) (pv 0) (pv 3) (fun _ _ => rfl)) pe_int (fun _ _ => rfl))) (pg_name (i := 5) sc__law_ahead.nd rfl (Or.inl rfl))
      (pss_cons (ps_set (i := 6) sc__law_ahead.nd rfl (Or.inl rfl) (pe_dget1 (Nat.lt_of_le_of_lt (Nat.add_le_add_left (by decide) _) hr.units) (pv 1) (pv 5) ⟨rfl, rfl, rfl, rfl⟩))
      (pss_one (ps_if (PW.pt (pw_and (pt_cmp (pc_notN (pv 6))) (pw_and (pt_cmpR (op_neP hr.units) (pv 6) (pv 3) (nomark _)) (pw_and1 (pt_cmpR op_in_seq (pv 6) (pv 2) (by rfl)))))) (pss_one (ps_expr (pe_bm PySem.F.plainAttrs_list PySem.F.slot_list_append PySem.F.type_list_append mt_append (pv 4) (pa_cons (pv 6) pa_nil)))) pss_nil))))
      (pss_one (ps_ret (pv 4))))), body_ok rfl ?_ h⟩
  exact (ss_seq (ss_set (ev_O (ee_lst aa_nil)))
      (ss_seq (ss_for (ii_tup (ev_V (ee_op2 vo_ixU (ev_V (ee_dget (ev_var 0) (ev_var 3))) (ev_int 1)))) (gg_name 5)
      (ss_seq (ss_set (ev_V (Mf.ee_dget1 (ev_var 1) (ev_var 5))))
      (ss_if (tt_and (tt_B (ev_V (ee_notN (ev_var 6)))) (tt_and (tt_T (ev_V (ee_op2 (vo_eq true) (ev_var 6) (ev_var 3)))) (tt_T (ev_V (ee_op2 (vo_in false) (ev_var 6) (ev_var 2)))))) (ss_drop (ee_meth vo_append (ev_var 4) (aa_cons (ev_var 6) aa_nil))) ss_nil)))
      (ss_ret (ee_v (ev_var 4)))))
theorem ok__law_orders (T : Top K mg) : FnOk P w K mg base (L2.CX P w) 1 (He.ga K "_law_orders") T.fd__law_orders ps__law_orders (spM K 1 m_orders) := by
  refine T.F__law_orders.ok sc__law_orders (fun vs H Q E h => h.len) (fun cdv A outer s H vs Q E hr h => ?_)
  refine ⟨_, (pss_cons (ps_par (i := 1) (j := 2) rfl sc__law_orders.nd rfl rfl (by decide) rfl rfl (pa_cons (pe_lst (pa_cons (pe_tupZ pa_nil) pa_nil)) (pa_cons (pe_lst (pa_cons (pe_tupZ pa_nil) pa_nil)) pa_nil)) rfl)
      (pss_cons (ps_for (passes_of rfl) rfl (pi_range1 rfl T.n_range (pa_cons (pe_callB call_len (by rfl) T.n_len PySem.boot_len (pa_cons (pv 0) pa_nil)) pa_nil)) (pg_name (i := 3) sc__law_orders.nd rfl (Or.inl rfl))
      (pss_cons (ps_set (i := 4) sc__law_orders.nd rfl (Or.inl rfl) (pe_lst pa_nil))
      (pss_cons (ps_for (passes_of rfl) rfl (pi_list (pv 2)) (pg_name (i := 5) sc__law_orders.nd rfl (Or.inr rfl))
      (pss_one (ps_expr (pe_bm PySem.F.plainAttrs_list PySem.F.slot_list_extend PySem.F.type_list_extend mt_extend (pv 4) (pa_cons (pe_lc (own := [("_law_one", 6)]) rfl sc__law_orders.nd (pi_list (pv 0)) (blkOk_by (N := ns__law_orders) (sc := defScope s__law_orders) (by decide +kernel)) (fun _ _ _ _ _ => (pg_name (i := 6) sc__law_orders.nd rfl (Or.inl rfl))) (fun _ _ _ _ _ => (pts_one (pt_cmpR (op_notIn_seqK (K := K) rfl) (pv 6) (pv 5) (by rfl)))) (fun _ _ _ _ _ => (pe_op (op_catZAK (K := K) rfl) (pv 5) (pe_tupZ (pa_cons (pv 6) pa_nil))))) pa_nil)))))
      (pss_one (ps_par (i := 1) (j := 2) rfl sc__law_orders.nd rfl rfl (by decide) rfl rfl (pa_cons (pe_op op_cat (pv 1) (pv 4)) (pa_cons (pv 4) pa_nil)) rfl)))))
      (pss_one (ps_ret (pv 1))))), body_ok rfl ?_ h⟩
  exact (ss_seq (ss_par (aa_cons (ev_T (ee_lst (aa_cons (ev_V (ee_tup aa_nil)) aa_nil))) (aa_cons (ev_T (ee_lst (aa_cons (ev_V (ee_tup aa_nil)) aa_nil))) aa_nil)))
      (ss_seq (ss_for (ii_rng1 (aa_cons (ev_V (ee_op vo_len (aa_cons (ev_var 0) aa_nil))) aa_nil)) (gg_name 3)
      (ss_seq (ss_set (ev_O (ee_lst aa_nil)))
      (ss_seq (ss_for (ii_list (ev_var 2)) (gg_name 5)
      (ss_drop (ee_meth vo_extend (ev_var 4) (aa_cons (ev_T (ee_comp (by decide) (ii_list (ev_var 0)) (gg_name 6) (tt_T (ev_V (ee_op2 (vo_in true) (ev_var 6) (ev_var 5)))) (ev_V (ee_op2 vo_catU (ev_var 5) (ev_V (ee_tup (aa_cons (ev_var 6) aa_nil))))))) aa_nil))))
      (ss_par (aa_cons (ev_T (ee_op2 vo_cat (ev_var 1) (ev_var 4))) (aa_cons (ev_T (ee_v (ev_var 4))) aa_nil))))))
      (ss_ret (ee_v (ev_var 1)))))
theorem ok__law_order_right (T : Top K mg) : FnOk P w K mg base (L2.CX P w) 3 (He.ga K "_law_order_right") T.fd__law_order_right ps__law_order_right (spM K 4 m_order_right) := by
  refine T.F__law_order_right.ok sc__law_order_right (fun vs H Q E h => h.len) (fun cdv A outer s H vs Q E hr h => ?_)
  refine ⟨_, (pss_cons (ps_for (passes_of rfl) rfl (pi_range1 rfl T.n_range (pa_cons (pe_callB call_len (by rfl) T.n_len PySem.boot_len (pa_cons (pv 3) pa_nil)) pa_nil)) (pg_name (i := 4) sc__law_order_right.nd rfl (Or.inr rfl))
      (pss_cons (ps_setLc (i := 5) (own := [("_law_word", 7)]) rfl sc__law_order_right.nd rfl rfl (sw_true rfl rfl rfl (by decide +kernel)) (pi_list (pe_slice sl_list (pv 3) (po_some (pv 4)) po_none)) (blkOk_by (N := ns__law_order_right) (sc := defScope s__law_order_right) (by decide +kernel)) (fun _ _ _ _ _ => (pg_name (i := 7) sc__law_order_right.nd rfl (Or.inl rfl))) (fun _ _ _ _ _ => (pts_one (pt_cmpR (op_eqPK (K := K) rfl hr.units) (pe_call (ok__law_ahead T) (hr.mono (by decide)) rfl T.g__law_ahead T.F__law_ahead.kp (b__law_ahead T) .nil passF (pa_cons (pv 0) (pa_cons (pv 2) (pa_cons (pe_slice (sl_listK (K := K) rfl) (pv 3) (po_some (pv 4)) po_none) (pa_cons (pv 7) pa_nil))))) (pe_lst pa_nil) (nomark _)))) (fun _ _ _ _ _ => (pv 7)))
      (pss_one (ps_if (PW.pt (pw_or (pt_cmpR (op_eqP hr.units) (pv 5) (pe_lst pa_nil) (nomark _)) (pw_or1 (pt_cmpR (op_neP hr.units) (pe_callB (cr_minX rfl hr.units) (by rfl) T.n_min (by decide +kernel) (pa_cons (pv 5) pa_nil)) (pe_ix ix_list (pv 3) (pv 4) (fun _ _ => rfl)) (nomark _))))) (pss_one (ps_ret pe_bl)) pss_nil))))
      (pss_cons (ps_if (pt_not (pt_val (pe_call (ok__law_met T) (hr.mono (by decide)) rfl T.g__law_met T.F__law_met.kp (b__law_met T) .nil (passes_call (takes_of rfl rfl rfl rfl) (fun _ _ _ _ h => h)) (pa_cons (pv 0) (pa_cons (pe_call (ok__law_global T) (hr.mono (by decide)) rfl T.g__law_global T.F__law_global.kp (b__law_global T) .nil (passes_call (takes_of rfl rfl rfl rfl) (fun _ _ _ _ h => h)) (pa_cons (pv 0) (pa_cons (pv 1) (pa_cons (pv 3) pa_nil)))) (pa_cons (pv 2) pa_nil)))))) (pss_one (ps_ret pe_bl)) pss_nil)
      (pss_cons (ps_if (pt_cmpR op_gt (pe_callB call_len (by rfl) T.n_len PySem.boot_len (pa_cons (pv 3) pa_nil)) pe_int (nomark _)) (pss_one (ps_ret pe_bl)) pss_nil)
      (pss_cons (ps_setLc (i := 6) (own := [("_law_row", 8)]) rfl sc__law_order_right.nd rfl rfl (sw_true rfl rfl rfl (by decide +kernel)) (pi_list (pe_call (ok__law_orders T) (hr.mono (by decide)) rfl T.g__law_orders T.F__law_orders.kp (b__law_orders T) .nil (passes_call (takes_of rfl rfl rfl rfl) (fun _ _ _ _ h => h)) (pa_cons (pv 3) pa_nil))) (blkOk_by (N := ns__law_order_right) (sc := defScope s__law_order_right) (by decide +kernel)) (fun _ _ _ _ _ => (pg_name (i := 8) sc__law_order_right.nd rfl (Or.inl rfl))) (fun _ _ _ _ _ => (pts_one (pt_cmpR (op_eqPK (K := K) rfl hr.units) (pe_callB (call_lenK (K := K) rfl) (by rfl) T.n_len PySem.boot_len (pa_cons (pv 8) pa_nil)) (pe_callB (call_lenK (K := K) rfl) (by rfl) T.n_len PySem.boot_len (pa_cons (pv 3) pa_nil)) (nomark _)))) (fun _ _ _ _ _ => (pv 8)))
      (pss_one (ps_ret (pe_cmpR (op_eqP hr.units) (pe_callTy call_list_of (by rfl) T.n_list (by decide +kernel) (pa_cons (pe_callB (cr_minX rfl hr.units) (by rfl) T.n_min (by decide +kernel) (pa_cons (pe_lc (own := [("_law_row", 8)]) rfl sc__law_order_right.nd (pi_list (pv 6)) (blkOk_by (N := ns__law_order_right) (sc := defScope s__law_order_right) (by decide +kernel)) (fun _ _ _ _ _ => (pg_name (i := 8) sc__law_order_right.nd rfl (Or.inl rfl))) (fun _ _ _ _ _ => (pts_one (pt_val (pe_call (ok__law_met T) (hr.mono (by decide)) rfl T.g__law_met T.F__law_met.kp (b__law_met T) .nil passF (pa_cons (pv 0) (pa_cons (pe_call (ok__law_global T) (hr.mono (by decide)) rfl T.g__law_global T.F__law_global.kp (b__law_global T) .nil passF (pa_cons (pv 0) (pa_cons (pv 1) (pa_cons (pv 8) pa_nil)))) (pa_cons (pv 2) pa_nil))))))) (fun _ _ _ _ _ => (pv 8))) pa_nil)) pa_nil)) (pv 3) (nomark _)))))))), body_ok rfl ?_ h⟩
  exact (ss_seq (ss_for (ii_rng1 (aa_cons (ev_V (ee_op vo_len (aa_cons (ev_var 3) aa_nil))) aa_nil)) (gg_name 4)
      (ss_seq (ss_set (ev_T (ee_comp (by decide) (ii_list (ev_T (ee_sl so_l (ev_var 3) (oo_some (ev_var 4)) oo_none))) (gg_name 7) (tt_T (ev_V (ee_op2 (vo_eq false) (ev_T (ee_call (aa_cons (ev_var 0) (aa_cons (ev_var 2) (aa_cons (ev_T (ee_sl so_l (ev_var 3) (oo_some (ev_var 4)) oo_none)) (aa_cons (ev_var 7) aa_nil)))))) (ev_T (ee_lst aa_nil))))) (ev_var 7))))
      (ss_if (tt_or (tt_T (ev_V (ee_op2 (vo_eq false) (ev_var 5) (ev_T (ee_lst aa_nil))))) (tt_T (ev_V (ee_op2 (vo_eq true) (ev_V (ee_op vo_minD (aa_cons (ev_var 5) aa_nil))) (ev_V (ee_op2 vo_ixL (ev_var 3) (ev_var 4))))))) (ss_ret (ee_v (ev_bl false))) ss_nil)))
      (ss_seq (ss_if (tt_not (tt_B (ev_V (ee_call (aa_cons (ev_var 0) (aa_cons (ev_T (ee_call (aa_cons (ev_var 0) (aa_cons (ev_var 1) (aa_cons (ev_var 3) aa_nil))))) (aa_cons (ev_var 2) aa_nil))))))) (ss_ret (ee_v (ev_bl false))) ss_nil)
      (ss_seq (ss_if (tt_T (ev_V (ee_op2 vo_gt (ev_V (ee_op vo_len (aa_cons (ev_var 3) aa_nil))) (ev_int 4)))) (ss_ret (ee_v (ev_bl true))) ss_nil)
      (ss_seq (ss_set (ev_T (ee_comp (by decide) (ii_list (ev_T (ee_call (aa_cons (ev_var 3) aa_nil)))) (gg_name 8) (tt_T (ev_V (ee_op2 (vo_eq false) (ev_V (ee_op vo_len (aa_cons (ev_var 8) aa_nil))) (ev_V (ee_op vo_len (aa_cons (ev_var 3) aa_nil)))))) (ev_var 8))))
      (ss_ret (ee_op2 (vo_eq false) (ev_T (ee_op vo_listOf (aa_cons (ev_V (ee_op vo_minD (aa_cons (ev_T (ee_comp (by decide) (ii_list (ev_var 6)) (gg_name 8) (tt_B (ev_V (ee_call (aa_cons (ev_var 0) (aa_cons (ev_T (ee_call (aa_cons (ev_var 0) (aa_cons (ev_var 1) (aa_cons (ev_var 8) aa_nil))))) (aa_cons (ev_var 2) aa_nil)))))) (ev_var 8))) aa_nil))) aa_nil))) (ev_var 3)))))))
theorem ok__law_hoped (T : Top K mg) : FnOk P w K mg base (L2.CX P w) 4 (He.ga K "_law_hoped") T.fd__law_hoped ps__law_hoped (spM K 4 m_hoped72) := by
  refine T.F__law_hoped.ok sc__law_hoped (fun vs H Q E h => h.len) (fun cdv A outer s H vs Q E hr h => ?_)
  refine ⟨_, (pss_cons (ps_if (pt_cmpR (op_eqP hr.units) (pe_call (ok__law_draw T) (hr.mono (by decide)) rfl T.g__law_draw T.F__law_draw.kp (b__law_draw T) .nil (passes_call (takes_of rfl rfl rfl rfl) (fun _ _ _ _ h => h)) (pa_cons (pv 0) (pa_cons pe_int pa_nil))) pe_int (nomark _)) (pss_one (ps_ret (pe_call (ok__law_wishes T) (hr.mono (by decide)) rfl T.g__law_wishes T.F__law_wishes.kp (b__law_wishes T) .nil (passes_call (takes_of rfl rfl rfl rfl) (fun _ _ _ _ h => h)) (pa_cons (pv 0) (pa_cons (pv 1) (pa_cons (pv 3) pa_nil)))))) pss_nil)
      (pss_cons (ps_set (i := 4) sc__law_hoped.nd rfl (Or.inl rfl) (pe_call (ok__law_part T) (hr.mono (by decide)) rfl T.g__law_part T.F__law_part.kp (b__law_part T) .nil (passes_call (takes_of rfl rfl rfl rfl) (fun _ _ _ _ h => h)) (pa_cons (pv 0) (pa_cons (pe_lc (own := [("_law_word", 8)]) rfl sc__law_hoped.nd (pi_keys (pv 1)) (blkOk_by (N := ns__law_hoped) (sc := defScope s__law_hoped) (by decide +kernel)) (fun _ _ _ _ _ => (pg_name (i := 8) sc__law_hoped.nd rfl (Or.inl rfl))) (fun _ _ _ _ _ => (pts_one (pt_cmpR (op_nePK (K := K) rfl hr.units) (pv 8) (pv 2) (nomark _)))) (fun _ _ _ _ _ => (pv 8))) (pa_cons pe_int pa_nil)))))
      (pss_cons (ps_par (i := 5) (j := 6) rfl sc__law_hoped.nd rfl rfl (by decide) rfl rfl (pa_cons (pe_call (ok__law_global T) (hr.mono (by decide)) rfl T.g__law_global T.F__law_global.kp (b__law_global T) .nil (passes_call (takes_of rfl rfl rfl rfl) (fun _ _ _ _ h => h)) (pa_cons (pv 1) (pa_cons (pv 2) (pa_cons (pv 4) pa_nil)))) (pa_cons pe_dnewK pa_nil)) rfl)
      (pss_cons (ps_for (passes_of rfl) rfl (pi_list (pe_call (ok__law_part T) (hr.mono (by decide)) rfl T.g__law_part T.F__law_part.kp (b__law_part T) .nil (passes_call (takes_of rfl rfl rfl rfl) (fun _ _ _ _ h => h)) (pa_cons (pv 0) (pa_cons (pv 3) (pa_cons (pe_call (ok__law_pick T) (hr.mono (by decide)) rfl T.g__law_pick T.F__law_pick.kp (b__law_pick T) .nil (passes_call (takes_of rfl rfl rfl rfl) (fun _ _ _ _ h => h)) (pa_cons (pv 0) (pa_cons (pe_lst (pa_cons pe_int (pa_cons pe_int (pa_cons pe_int pa_nil)))) pa_nil))) pa_nil))))) (pg_name (i := 7) sc__law_hoped.nd rfl (Or.inl rfl))
      (pss_one (ps_if (pt_cmp (pc_notN (pe_call (ok__law_definer T) (hr.mono (by decide)) rfl T.g__law_definer T.F__law_definer.kp (b__law_definer T) .nil (passes_call (takes_of rfl rfl rfl rfl) (fun _ _ _ _ h => h)) (pa_cons (pv 1) (pa_cons (pv 5) (pa_cons (pv 7) pa_nil)))))) (pss_one (ps_dput (Nat.lt_of_le_of_lt (Nat.add_le_add_left (by decide) _) hr.units) (pv 6) (pv 7) (pe_call (ok__law_definer T) (hr.mono (by decide)) rfl T.g__law_definer T.F__law_definer.kp (b__law_definer T) .nil (passes_call (takes_of rfl rfl rfl rfl) (fun _ _ _ _ h => h)) (pa_cons (pv 1) (pa_cons (pv 5) (pa_cons (pv 7) pa_nil)))) rfl)) pss_nil)))
      (pss_one (ps_ret (pv 6))))))), body_ok rfl ?_ h⟩
  exact (ss_seq (ss_if (tt_T (ev_V (ee_op2 (vo_eq false) (ev_V (ee_call (aa_cons (ev_var 0) (aa_cons (ev_int 3) aa_nil)))) (ev_int 0)))) (ss_ret (ee_call (aa_cons (ev_var 0) (aa_cons (ev_var 1) (aa_cons (ev_var 3) aa_nil))))) ss_nil)
      (ss_seq (ss_set (ev_T (ee_call (aa_cons (ev_var 0) (aa_cons (ev_T (ee_comp (by decide) (ii_keys (ev_var 1)) (gg_name 8) (tt_T (ev_V (ee_op2 (vo_eq true) (ev_var 8) (ev_var 2)))) (ev_var 8))) (aa_cons (ev_int 2) aa_nil))))))
      (ss_seq (ss_par (aa_cons (ev_T (ee_call (aa_cons (ev_var 1) (aa_cons (ev_var 2) (aa_cons (ev_var 4) aa_nil))))) (aa_cons (ev_O ee_dnew) aa_nil)))
      (ss_seq (ss_for (ii_list (ev_T (ee_call (aa_cons (ev_var 0) (aa_cons (ev_var 3) (aa_cons (ev_V (ee_call (aa_cons (ev_var 0) (aa_cons (ev_T (ee_lst (aa_cons (ev_int 1) (aa_cons (ev_int 1) (aa_cons (ev_int 2) aa_nil))))) aa_nil)))) aa_nil)))))) (gg_name 7)
      (ss_if (tt_B (ev_V (ee_notN (ev_V (ee_call (aa_cons (ev_var 1) (aa_cons (ev_var 5) (aa_cons (ev_var 7) aa_nil)))))))) (ss_dput (ev_var 6) (ev_var 7) (ev_V (ee_call (aa_cons (ev_var 1) (aa_cons (ev_var 5) (aa_cons (ev_var 7) aa_nil)))))) ss_nil))
      (ss_ret (ee_v (ev_var 6)))))))
theorem ok_lawT (T : Top K mg) : FnOk P w K mg base (L2.CX P w) 8 (He.ga K "law") T.fd_law ps_law (spM K 1 m_law72) := by
  refine T.F_law.ok sc_law (fun vs H Q E h => h.len) (fun cdv A outer s H vs Q E hr h => ?_)
  refine ⟨_, (pss_cons (ps_for (passes_of rfl) rfl (pi_list (pe_op op_cat (pe_lst (pa_cons (pe_call (ok__law_cell_at T) (hr.mono (by decide)) rfl T.g__law_cell_at T.F__law_cell_at.kp (b__law_cell_at T) .nil (passes_call (takes_of rfl rfl rfl rfl) (fun _ _ _ _ h => h)) (pa_cons (pv 0) (pa_cons pe_int pa_nil))) pa_nil)) (pe_slice sl_list (pv 0) (po_some pe_int) (po_some pe_int)))) (pg_name (i := 1) sc_law.nd rfl (Or.inl rfl))
      (pss_cons (ps_set (i := 2) sc_law.nd rfl (Or.inl rfl) (pe_call (ok__law_begin T) (hr.mono (by decide)) rfl T.g__law_begin T.F__law_begin.kp (b__law_begin T) .nil (passes_call (takes_of rfl rfl rfl rfl) (fun _ _ _ _ h => h)) (pa_cons (pv 1) pa_nil)))
      (pss_cons (ps_set (i := 3) sc_law.nd rfl (Or.inl rfl) (pe_call (ok__law_spelled T) (hr.mono (by decide)) rfl T.g__law_spelled T.F__law_spelled.kp (b__law_spelled T) .nil (passes_call (takes_of rfl rfl rfl rfl) (fun _ _ _ _ h => h)) (pa_cons (pv 2) (pa_cons (pe_op op_add pe_int (pe_call (ok__law_draw T) (hr.mono (by decide)) rfl T.g__law_draw T.F__law_draw.kp (b__law_draw T) .nil (passes_call (takes_of rfl rfl rfl rfl) (fun _ _ _ _ h => h)) (pa_cons (pv 2) (pa_cons pe_int pa_nil)))) pa_nil))))
      (pss_cons (ps_set (i := 4) sc_law.nd rfl (Or.inl rfl) (pe_ix ix_tup (pe_call (ok__law_libraries T) (hr.mono (by decide)) rfl T.g__law_libraries T.F__law_libraries.kp (b__law_libraries T) .nil (passes_call (takes_of rfl rfl rfl rfl) (fun _ _ _ _ h => h)) (pa_cons (pv 2) (pa_cons pe_int (pa_cons (pv 3) pa_nil)))) pe_int (fun _ _ => rfl)))
      (pss_cons (ps_set (i := 5) sc_law.nd rfl (Or.inl rfl) (pe_call (ok__law_pick T) (hr.mono (by decide)) rfl T.g__law_pick T.F__law_pick.kp (b__law_pick T) .nil (passes_call (takes_of rfl rfl rfl rfl) (fun _ _ _ _ h => h)) (pa_cons (pv 2) (pa_cons (pe_call (ok__law_complete T) (hr.mono (by decide)) rfl T.g__law_complete T.F__law_complete.kp (b__law_complete T) .nil (passes_call (takes_of rfl rfl rfl rfl) (fun _ _ _ _ h => h)) (pa_cons (pv 4) pa_nil)) pa_nil))))
      (pss_one (ps_for (passes_of rfl) rfl (pi_range1 rfl T.n_range (pa_cons pe_int pa_nil)) (pg_name (i := 6) sc_law.nd rfl (Or.inl rfl))
      (pss_cons (ps_set (i := 7) sc_law.nd rfl (Or.inl rfl) (pe_seal (pe_call (ok__law_hoped T) (hr.mono (by decide)) rfl T.g__law_hoped T.F__law_hoped.kp (b__law_hoped T) .nil (passes_call (takes_of rfl rfl rfl rfl) (fun _ _ _ _ h => h)) (pa_cons (pv 2) (pa_cons (pv 4) (pa_cons (pv 5) (pa_cons (pv 3) pa_nil)))))))
      (pss_cons (ps_set (i := 8) sc_law.nd rfl (Or.inl rfl) (pe_call (ok_least_preloads T) (hr.mono (by decide)) rfl T.g_least_preloads T.F_least_preloads.kp (b_least_preloads T) .nil (passes_call (takes_of rfl rfl rfl rfl) (fun _ _ _ _ h => h)) (pa_cons (pe_call (ok__law_stored T) (hr.mono (by decide)) rfl T.g__law_stored T.F__law_stored.kp (b__law_stored T) .nil (passes_call (takes_of rfl rfl rfl rfl) (fun _ _ _ _ h => h)) (pa_cons (pv 4) pa_nil)) (pa_cons (pv 5) (pa_cons (pe_seal (pe_callTy call_dictD (by rfl) T.n_dict (by decide +kernel) (pa_cons (pv 7) pa_nil))) pa_nil)))))
      (pss_one (ps_if (PW.pt (pw_and (pt_cmpR (op_eqP hr.units) (pe_ix ix_tup (pv 8) pe_int (fun _ _ => rfl)) pe_str (nomark _)) (pw_and1 (pt_not (pt_val (pe_call (ok__law_order_right T) (hr.mono (by decide)) rfl T.g__law_order_right T.F__law_order_right.kp (b__law_order_right T) .nil (passes_call (takes_of rfl rfl rfl rfl) (fun _ _ _ _ h => h)) (pa_cons (pv 4) (pa_cons (pv 5) (pa_cons (pv 7) (pa_cons (pe_ix ix_tup (pv 8) pe_int (fun _ _ => rfl)) pa_nil)))))))))) (pss_one (ps_ret pe_bl)) pss_nil)))))))))))
      (pss_one (ps_ret pe_bl))), body_ok rfl ?_ h⟩
  exact (ss_seq (ss_for (ii_list (ev_T (ee_op2 vo_cat (ev_T (ee_lst (aa_cons (ev_V (ee_call (aa_cons (ev_var 0) (aa_cons (ev_int 0) aa_nil)))) aa_nil))) (ev_T (ee_sl so_l (ev_var 0) (oo_some (ev_int 1)) (oo_some (ev_int 4))))))) (gg_name 1)
      (ss_seq (ss_set (ev_O (ee_call (aa_cons (ev_var 1) aa_nil))))
      (ss_seq (ss_set (ev_T (ee_call (aa_cons (ev_var 2) (aa_cons (ev_V (ee_op2 vo_add (ev_int 1) (ev_V (ee_call (aa_cons (ev_var 2) (aa_cons (ev_int 9) aa_nil)))))) aa_nil)))))
      (ss_seq (ss_set (ev_V (ee_op2 vo_ixU (ev_V (ee_call (aa_cons (ev_var 2) (aa_cons (ev_int 14) (aa_cons (ev_var 3) aa_nil))))) (ev_int 0))))
      (ss_seq (ss_set (ev_V (ee_call (aa_cons (ev_var 2) (aa_cons (ev_T (ee_call (aa_cons (ev_var 4) aa_nil))) aa_nil)))))
      (ss_for (ii_rng1 (aa_cons (ev_int 3) aa_nil)) (gg_name 6)
      (ss_seq (ss_set (ev_TD (ee_call (aa_cons (ev_var 2) (aa_cons (ev_var 4) (aa_cons (ev_var 5) (aa_cons (ev_var 3) aa_nil)))))))
      (ss_seq (ss_set (ev_V (ee_call (aa_cons (ev_V (ee_call (aa_cons (ev_var 4) aa_nil))) (aa_cons (ev_var 5) (aa_cons (ev_TD (ee_op vo_dictD (aa_cons (ev_var 7) aa_nil))) aa_nil))))))
      (ss_if (tt_and (tt_T (ev_V (ee_op2 (vo_eq false) (ev_V (ee_op2 vo_ixU (ev_var 8) (ev_int 0))) (ev_str "order")))) (tt_not (tt_B (ev_V (ee_call (aa_cons (ev_var 4) (aa_cons (ev_var 5) (aa_cons (ev_var 7) (aa_cons (ev_V (ee_op2 vo_ixU (ev_var 8) (ev_int 1))) aa_nil))))))))) (ss_ret (ee_v (ev_bl false))) ss_nil)))))))))
      (ss_ret (ee_v (ev_bl true))))
end
end Sb


set_option Elab.async false
set_option linter.all false
set_option maxRecDepth 100000
set_option maxHeartbeats 4000000
namespace Mf
open PySem PySem.Spec PyProof.Rows L2 Sb
local macro_rules | `(tactic| walk_at "wr") => `(tactic| simp only [w_bind, w_ret, w_var, slQ_t, slQ_o, get0, getS, set0, setS, w_T, trQ_t, trQ_n, w_O, objQ_v, objQ_n, w_V, valQ_v, w_Z, w_TD, sealQ_n, w_nil, w_cons, opQ_some, w_op, w_op2, blQ_b, w_B, w_and, w_or, w_not, w_If, w_andV, w_orV, w_notV,
  opt_some, w_tru, w_isN, w_isi, s_nx, s_seq, s_ret, s_retN, s_drop, s_if, s_set, s_par, args2Q_is, augQ_t, s_aug, treeQ_t, s_unp, s_raise, s_for, itLQ_l, w_itL, itUQ_u, w_itU, lstsQ_l, zipQ_l, enumQ_l, rngQ_i, w_rng1, w_keys, w_items, libQ_l, w_libF, w_mkLib, w_meth, w_meth0, w_sl, w_part, partQ_i,
  vL_t, vL_s, vL_0, vL_f, vL_S, vL_u, vM_t, vM_0, vM_f, vM_S, vU_t, lstAt_0, lstAt_S, dicAt_0, dicAt_S, vD_t, vD_0, vD_f, vD_S, frzD_t, frzD_f, frzD_S, kindV_t, kindV_d, kindV_l, kindV_f, kindV_S, vP_t, vP_l, vP_f, vP_S, isL_is, or_some, none_or,
  oq_add, oq_sub, oq_lt, oq_le, oq_gt, oq_ge, oq_mul, oq_mod, oq_div, oq_pow, oq_intB, oq_intI, oq_neg, oq_addS, oq_ixS, oq_ixL, oq_ixU, oq_lenL, oq_lenU, oq_lenN, oq_lenS, oq_lenO, oq_cat, oq_catU, oq_rep, oq_disp0, oq_disp1, oq_disp2, oq_disp3, oq_disp4, oq_disp5, oq_disp6, oq_disp7,
  oq_tup0, oq_tup1, oq_tup2, oq_tup3, oq_tup4, oq_tup5, oq_tup6, oq_tupOf, oq_revL, oq_append, oq_extend, oq_popAt, oq_pop, oq_remove, oq_index, oq_eq, oq_in, oq_dget, oq_din, oq_listD, oq_dictD, oq_sorted, oq_sortedD, oq_bools, oq_inSto, oq_isWord, oq_names, so_lL, so_uU,
  all_str, all_int, inF_str, strsOf_map, boolsOf_map, libsOf_map, pds_str, pds_int, List.length_map, List.length_cons, List.length_nil, List.length_append, Option.map_some, Option.isSome_some, Bool.true_and, true_and, and_true, Nat.reduceAdd, Nat.reduceSub, List.replicate, List.cons_append, List.nil_append, if_true, Bool.false_eq_true, if_false, reduceCtorEq, exQ_t, exQ_n, exQ_o, outQ_f, outQ_l, outQ_d, s_setIx, setIxQ_i, s_dPut, dPutQ_k, ix_0, ix_1, ix_2, at_0, at_1, at_2, at_3, at_4, at_5, decide_eq_true_eq, List.take_succ_cons, List.take_zero, Nat.reduceLT, Nat.lt_irrefl, Nat.zero_lt_succ, w_dnew, sealQ_o, sealO_d, trQ_o, trO_l, trO_f, pd_int, pd_str, pd_bl, pd_non, pd_lst, pds_nil, dp_int, dp_str, dp_bl, dp_non, dp_nil, dp_strs, eqv_int, eqv_str, eqv_strs, eqv_strs0, Bool.not_eq_true', decide_eq_false_iff_not, key_str, gd_val, gd_len, keysI_gd, keysT_gd, keyStrs_gd, itemsI_gd, in_libs, fieldL_defs, fieldL_needs, fieldL_uses, fieldL_weak, kindT_d, opt_strK, kit_dict, kit_str, wipe1, wipe0, gN_one, vU_row, gT_two, gT_tup, gsC, gsN, tab_keysI, tab_keysT, tab_len, tab_val, lib_defs, lib_needs, lib_uses, lib_weak, eqv_ns, strO_n, strO_s, flT_str, flT_int])
theorem c_lawreq {tab : Tab} {gone : Str} {signs : List Str} (W : TabOk tab gone signs) {s : St} {E : EP} {f : M (List SV)} {Q : RZ → List Obj → Prop} (h : WE f s (fun xs g => ∃ main scope asked, xs = [.t (.dic tab.d), .t (.str main), .t (.dic (ssd asked))] ∧ AskOk tab asked ∧ main ∈ tab.names ∧ clo tab main = some scope ∧ Q (.v (.t (LS (sortS (reqF tab main scope asked))))) g) E) : WE (mCall 3 m_lawreq f) s Q E := by
  refine w_call0 (h.mono (fun xs g h => ?_) fun _ _ _ h => h)
  obtain ⟨main, scope, asked, rfl, A, hm, hc, hq⟩ := h
  exact ⟨[.dic tab.d, .str main, .dic (ssd asked)], rfl, rfl, r_lawreq W A hm hc ⟨rfl, .inl ⟨_, rfl⟩, hq⟩⟩
theorem c_least {tab : Tab} {gone : Str} {signs : List Str} (W : TabOk tab gone signs) {s : St} {E : EP} {f : M (List SV)} {Q : RZ → List Obj → Prop} (h : WE f s (fun xs g => ∃ main scope asked, xs = [.t (.sto tab.libs), .t (.str main), .t (.dic (ssd asked))] ∧ AskOk tab asked ∧ main ∈ tab.names ∧ clo tab main = some scope ∧ Q (.v (.t (leastF tab main scope asked))) g) E) : WE (mCall 3 m_least_preloads f) s Q E := by
  refine w_call0 (h.mono (fun xs g h => ?_) fun _ _ _ h => h)
  obtain ⟨main, scope, asked, rfl, A, hm, hc, hq⟩ := h
  exact ⟨[.sto tab.libs, .str main, .dic (ssd asked)], rfl, rfl, r_least W A hm hc ⟨rfl, .inl ⟨_, rfl⟩, hq⟩⟩
/-- wishes that some preloads meet, or drawn ones -/
theorem r_hoped75 {tab : Tab} {gone : Str} {signs : List Str} (W : TabOk tab gone signs) {first : Str} {scope : List Str} (hm : first ∈ tab.names) (hc : clo tab first = some scope) {n : Nat} {w : List T} {Q : RZ → List Obj → Prop} {E : EP} (hw : Wl n w) (hn : n < 800000)
    (h : ∀ (w' : List T) (asked : Dss), Wl (n + 130) w' → AskIn tab signs asked → Q (.n (.dic (ssd asked))) [.lst w']) : MR m_hoped75 [.o 0, .t (.dic tab.d), .t (.str first), .t (LS signs)] [.lst w] Q E := by
  have hW := W.few
  have hS := W.signsF
  have hsn := clo_all W hm hc
  have hsl := in_len (clo_nd W hm hc) hsn
  have hnl : tab.names.length = tab.length := by simp [Tab.names]
  refine m_run ?_
  walk_at "wr"
  refine c_draw (n := n) (by omega) ?_
  walk_at "wr"
  refine ⟨0, 4, w, rfl, rfl, hw, by decide, by decide, fun w1 d hw1 d0 d1 => ?_⟩
  walk_at "wr"
  split
  · refine c_wishes W (n := n + 1) (by omega) ?_
    walk_at "wr"
    refine ⟨0, w1, rfl, rfl, hw1, fun w2 asked hw2 ha => ?_⟩
    exact h w2 asked (hw2.mono (by omega)) ha
  · refine c_part (n := n + 2) ?_
    walk_at "wr"
    refine w_comp ?_
    walk_at "wr"
    refine wc_strs (fun y => decide (y ≠ first)) Mf.T.str (by omega) (fun x hx => ⟨_, gN_one, ?_, fun _ => ?_⟩) ?_
    · walk_at "wr"
      simp
    · walk_at "wr"
    walk_at "wr"
    refine c_pick (n := n + 1) (by omega) ?_
    walk_at "wr"
    refine ⟨0, _, w1, rfl, rfl, hw1, by simp, by simp, fun w2 t hw2 ht => ?_⟩
    obtain ⟨k, hk, rfl⟩ := in_map_int (ks := [2, 3, 9]) ht
    walk_at "wr"
    have hk2 : 0 < k ∧ k < 1000000 := by
      simp at hk
      omega
    have hfl := List.length_filter_le (fun y => decide (y ≠ first)) tab.names
    refine ⟨0, tab.names.filter fun y => decide (y ≠ first), k, w2, rfl, rfl, hw2, by omega, by omega, hk2.1, hk2.2, fun w3 early hw3 hus => ?_⟩
    walk_at "wr"
    have hel := hus.len
    have hen : ∀ x ∈ early, x ∈ tab.names := fun x hx => (List.mem_filter.mp (hus.mem x hx)).1
    refine c_global W ?_
    walk_at "wr"
    refine ⟨first, early, scope, rfl, hm, hc, by omega, ?_⟩
    have hgl := glob_len first early scope
    have hgn : ∀ x ∈ globF first early scope, x ∈ tab.names := fun x hx => by
      unfold globF at hx
      rcases List.mem_append.mp hx with h1 | h1
      · rcases List.mem_cons.mp h1 with e | h1
        · exact e ▸ hm
        · exact hen x h1
      · exact hsn x (List.mem_filter.mp h1).1
    generalize globF first early scope = wide at hgl hgn
    refine c_part (n := n + 3 + 2 * tab.length) ?_
    walk_at "wr"
    refine c_pick (n := n + 2 + 2 * tab.length) (by omega) ?_
    walk_at "wr"
    refine ⟨0, _, w3, rfl, rfl, hw3.mono (by omega), by simp, by simp, fun w4 t hw4 ht => ?_⟩
    obtain ⟨k, hk, rfl⟩ := in_map_int (ks := [1, 1, 2]) ht
    walk_at "wr"
    have hk2 : 0 < k ∧ k < 1000000 := by
      simp at hk
      omega
    refine ⟨0, signs, k, w4, rfl, rfl, hw4.mono (by omega), by omega, by omega, hk2.1, hk2.2, fun w5 us hw5 hus => ?_⟩
    walk_at "wr"
    refine s_strs (fun d r sl g => ∃ (acc : Dss) (x7 : SV), AskIn tab signs acc ∧ sl = [.o 0, .t (.dic tab.d), .t (.str first), .t (LS signs), .t (LS early), .t (LS wide), .o 1, x7, .un] ∧ g = [.lst w5, .dic (ssd acc)])
      ⟨[], _, ⟨List.nodup_nil, fun _ h => (by cases h), fun _ _ h => (by cases h)⟩, rfl, rfl⟩ ?_ ?_
    · rintro d x r sl g hd ⟨acc, x7, hacc, rfl, rfl⟩
      refine ⟨_, gN_one, ?_⟩
      walk_at "wr"
      refine c_definer (tab := tab) ?_
      walk_at "wr"
      refine ⟨wide, x, rfl, hgn, by omega, ?_⟩
      cases hfd : firstD tab wide x with
      | none =>
        rw [strO_n, isNQ_n]
        simp only [Bool.not_true, Bool.false_eq_true, reduceIte]
        exact ⟨acc, _, hacc, rfl, rfl⟩
      | some m =>
        rw [strO_s, isNQ_s]
        simp only [reduceIte]
        refine c_definer (tab := tab) ?_
        walk_at "wr"
        refine ⟨wide, x, rfl, hgn, by omega, ?_⟩
        rw [hfd, strO_s]
        have hal := hacc.len
        rw [gd_put]
        exact ⟨by omega, setL acc x m, _, hacc.set (hus.mem x (by rw [hd]; simp)) (hgn m (firstD_some hfd).1), rfl, rfl⟩
    · rintro sl g ⟨acc, x7, hacc, rfl, rfl⟩
      walk_at "wr"
      exact h w5 acc (hw5.mono (by omega)) hacc
theorem c_hoped75 {tab : Tab} {gone : Str} {signs : List Str} (W : TabOk tab gone signs) {s : St} {E : EP} {f : M (List SV)} {Q : RZ → List Obj → Prop} {n : Nat} (hn : n < 800000) (h : WE f s (fun xs g => ∃ i w first scope, xs = [.o i, .t (.dic tab.d), .t (.str first), .t (LS signs)] ∧ g[i]? = some (.lst w) ∧ Wl n w ∧ first ∈ tab.names ∧ clo tab first = some scope ∧
    ∀ (w' : List T) (asked : Dss), Wl (n + 130) w' → AskIn tab signs asked → Q (.n (.dic (ssd asked))) (g.set i (.lst w'))) E) : WE (mCall 4 m_hoped75 f) s Q E := by
  refine w_call1 (h.mono (fun xs g h => ?_) fun _ _ _ h => h)
  obtain ⟨i, w, first, scope, rfl, hg, hw, hm, hc, k⟩ := h
  exact ⟨i, [.dic tab.d, .str first, LS signs], _, rfl, rfl, hg, r_hoped75 W hm hc hw hn fun w' asked a b => ⟨_, rfl, .inr ⟨_, rfl⟩, k w' asked a b⟩⟩
end Mf
namespace Mf
open PySem PySem.Spec PyProof.Rows L2 Sb
local macro_rules | `(tactic| walk_at "wr") => `(tactic| simp only [w_bind, w_ret, w_var, slQ_t, slQ_o, get0, getS, set0, setS, w_T, trQ_t, trQ_n, w_O, objQ_v, objQ_n, w_V, valQ_v, w_Z, w_TD, sealQ_n, w_nil, w_cons, opQ_some, w_op, w_op2, blQ_b, w_B, w_and, w_or, w_not, w_If, w_andV, w_orV, w_notV,
  opt_some, w_tru, w_isN, w_isi, s_nx, s_seq, s_ret, s_retN, s_drop, s_if, s_set, s_par, args2Q_is, augQ_t, s_aug, treeQ_t, s_unp, s_raise, s_for, itLQ_l, w_itL, itUQ_u, w_itU, lstsQ_l, zipQ_l, enumQ_l, rngQ_i, w_rng1, w_keys, w_items, libQ_l, w_libF, w_mkLib, w_meth, w_meth0, w_sl, w_part, partQ_i,
  vL_t, vL_s, vL_0, vL_f, vL_S, vL_u, vM_t, vM_0, vM_f, vM_S, vU_t, lstAt_0, lstAt_S, dicAt_0, dicAt_S, vD_t, vD_0, vD_f, vD_S, frzD_t, frzD_f, frzD_S, kindV_t, kindV_d, kindV_l, kindV_f, kindV_S, vP_t, vP_l, vP_f, vP_S, isL_is, or_some, none_or,
  oq_add, oq_sub, oq_lt, oq_le, oq_gt, oq_ge, oq_mul, oq_mod, oq_div, oq_pow, oq_intB, oq_intI, oq_neg, oq_addS, oq_ixS, oq_ixL, oq_ixU, oq_lenL, oq_lenU, oq_lenN, oq_lenS, oq_lenO, oq_cat, oq_catU, oq_rep, oq_disp0, oq_disp1, oq_disp2, oq_disp3, oq_disp4, oq_disp5, oq_disp6, oq_disp7,
  oq_tup0, oq_tup1, oq_tup2, oq_tup3, oq_tup4, oq_tup5, oq_tup6, oq_tupOf, oq_revL, oq_append, oq_extend, oq_popAt, oq_pop, oq_remove, oq_index, oq_eq, oq_in, oq_dget, oq_din, oq_listD, oq_dictD, oq_sorted, oq_sortedD, oq_bools, oq_inSto, oq_isWord, oq_names, so_lL, so_uU,
  all_str, all_int, inF_str, strsOf_map, boolsOf_map, libsOf_map, pds_str, pds_int, List.length_map, List.length_cons, List.length_nil, List.length_append, Option.map_some, Option.isSome_some, Bool.true_and, true_and, and_true, Nat.reduceAdd, Nat.reduceSub, List.replicate, List.cons_append, List.nil_append, if_true, Bool.false_eq_true, if_false, reduceCtorEq, exQ_t, exQ_n, exQ_o, outQ_f, outQ_l, outQ_d, s_setIx, setIxQ_i, s_dPut, dPutQ_k, ix_0, ix_1, ix_2, at_0, at_1, at_2, at_3, at_4, at_5, decide_eq_true_eq, List.take_succ_cons, List.take_zero, Nat.reduceLT, Nat.lt_irrefl, Nat.zero_lt_succ, w_dnew, sealQ_o, sealO_d, trQ_o, trO_l, trO_f, pd_int, pd_str, pd_bl, pd_non, pd_lst, pds_nil, dp_int, dp_str, dp_bl, dp_non, dp_nil, dp_strs, eqv_int, eqv_str, eqv_strs, eqv_strs0, Bool.not_eq_true', decide_eq_false_iff_not, key_str, gd_val, gd_len, keysI_gd, keysT_gd, keyStrs_gd, itemsI_gd, in_libs, fieldL_defs, fieldL_needs, fieldL_uses, fieldL_weak, kindT_d, opt_strK, kit_dict, kit_str, wipe1, wipe0, gN_one, vU_row, gT_two, gT_tup, gsC, gsN, tab_keysI, tab_keysT, tab_len, tab_val, lib_defs, lib_needs, lib_uses, lib_weak, eqv_ns, strO_n, strO_s, flT_str, flT_int])
theorem least_is {tab : Tab} {main : Str} {scope : List Str} {asked : Dss} : (∃ a b, leastF tab main scope asked = .tup [.str a, .str b] ∧ (a = "undefined" ∨ a = "main")) ∨ (∃ R, leastF tab main scope asked = .tup [.str "order", LS R] ∧ R.Perm (reqF tab main scope asked)) ∨ ∃ l, leastF tab main scope asked = .tup [.str "ring", .lst l] := by
  unfold leastF
  split
  · exact .inl ⟨_, _, rfl, .inl rfl⟩
  · split
    · exact .inl ⟨_, _, rfl, .inr rfl⟩
    · right
      rcases arrF_is (eldsF tab main scope asked) with ⟨R, h1, h2⟩ | h
      · rw [elds_keys] at h2
        exact .inl ⟨R, h1, h2⟩
      · exact .inr h
theorem ask0 {tab : Tab} : AskOk tab [] := ⟨List.nodup_nil, fun _ _ h => (by cases h), fun _ h => (by cases h), by decide⟩
theorem pd_ord0 : pd (.tup [.str "order", .lst []]) = some (.tuple [.str "order", .list []]) := by
  rw [pd, pds, pds, pd_str]
  rfl
theorem dp_ord0 : (PyData.tuple [.str "order", .list []]).depth ≤ 64 := by simp [PyData.depth, PyData.depthAll]
theorem eqv_ord0 : PyData.eqv (.tuple [.str "order", .list []]) (.tuple [.str "order", .list []]) = true := by
  simp [PyData.eqv, PyData.eqvAll]
theorem enum_ints (cs : List Int) : enumI (cs.map Mf.T.int) = (List.range cs.length).map fun i => Im.two (.int (i : Nat)) (.int (cs.getD i 0)) := by
  unfold enumI
  rw [List.length_map]
  refine List.map_congr_left fun i hi => ?_
  have hi : i < cs.length := List.mem_range.mp hi
  simp [hi]
end Mf


set_option Elab.async false
set_option linter.all false
set_option maxRecDepth 100000
set_option maxHeartbeats 4000000
namespace Mf
open PySem PySem.Spec PyProof.Rows L2 Sb
local macro_rules | `(tactic| walk_at "wr") => `(tactic| simp only [w_bind, w_ret, w_var, slQ_t, slQ_o, get0, getS, set0, setS, w_T, trQ_t, trQ_n, w_O, objQ_v, objQ_n, w_V, valQ_v, w_Z, w_TD, sealQ_n, w_nil, w_cons, opQ_some, w_op, w_op2, blQ_b, w_B, w_and, w_or, w_not, w_If, w_andV, w_orV, w_notV,
  opt_some, w_tru, w_isN, w_isi, s_nx, s_seq, s_ret, s_retN, s_drop, s_if, s_set, s_par, args2Q_is, augQ_t, s_aug, treeQ_t, s_unp, s_raise, s_for, itLQ_l, w_itL, itUQ_u, w_itU, lstsQ_l, zipQ_l, enumQ_l, rngQ_i, w_rng1, w_keys, w_items, libQ_l, w_libF, w_mkLib, w_meth, w_meth0, w_sl, w_part, partQ_i,
  vL_t, vL_s, vL_0, vL_f, vL_S, vL_u, vM_t, vM_0, vM_f, vM_S, vU_t, lstAt_0, lstAt_S, dicAt_0, dicAt_S, vD_t, vD_0, vD_f, vD_S, frzD_t, frzD_f, frzD_S, kindV_t, kindV_d, kindV_l, kindV_f, kindV_S, vP_t, vP_l, vP_f, vP_S, isL_is, or_some, none_or,
  oq_add, oq_sub, oq_lt, oq_le, oq_gt, oq_ge, oq_mul, oq_mod, oq_div, oq_pow, oq_intB, oq_intI, oq_neg, oq_addS, oq_ixS, oq_ixL, oq_ixU, oq_lenL, oq_lenU, oq_lenN, oq_lenS, oq_lenO, oq_cat, oq_catU, oq_rep, oq_disp0, oq_disp1, oq_disp2, oq_disp3, oq_disp4, oq_disp5, oq_disp6, oq_disp7,
  oq_tup0, oq_tup1, oq_tup2, oq_tup3, oq_tup4, oq_tup5, oq_tup6, oq_tupOf, oq_revL, oq_append, oq_extend, oq_popAt, oq_pop, oq_remove, oq_index, oq_eq, oq_in, oq_dget, oq_din, oq_listD, oq_dictD, oq_sorted, oq_sortedD, oq_bools, oq_inSto, oq_isWord, oq_names, so_lL, so_uU,
  all_str, all_int, inF_str, strsOf_map, boolsOf_map, libsOf_map, pds_str, pds_int, List.length_map, List.length_cons, List.length_nil, List.length_append, Option.map_some, Option.isSome_some, Bool.true_and, true_and, and_true, Nat.reduceAdd, Nat.reduceSub, List.replicate, List.cons_append, List.nil_append, if_true, Bool.false_eq_true, if_false, reduceCtorEq, exQ_t, exQ_n, exQ_o, outQ_f, outQ_l, outQ_d, s_setIx, setIxQ_i, s_dPut, dPutQ_k, ix_0, ix_1, ix_2, at_0, at_1, at_2, at_3, at_4, at_5, decide_eq_true_eq, List.take_succ_cons, List.take_zero, Nat.reduceLT, Nat.lt_irrefl, Nat.zero_lt_succ, w_dnew, sealQ_o, sealO_d, trQ_o, trO_l, trO_f, pd_int, pd_str, pd_bl, pd_non, pd_lst, pds_nil, dp_int, dp_str, dp_bl, dp_non, dp_nil, dp_strs, eqv_int, eqv_str, eqv_strs, eqv_strs0, Bool.not_eq_true', decide_eq_false_iff_not, key_str, gd_val, gd_len, keysI_gd, keysT_gd, keyStrs_gd, itemsI_gd, in_libs, fieldL_defs, fieldL_needs, fieldL_uses, fieldL_weak, kindT_d, opt_strK, kit_dict, kit_str, wipe1, wipe0, gN_one, vU_row, gT_two, gT_tup, gsC, gsN, tab_keysI, tab_keysT, tab_len, tab_val, lib_defs, lib_needs, lib_uses, lib_weak, eqv_ns, strO_n, strO_s, flT_str, flT_int])
/-- a row, and rows, as tuples -/
abbrev RS (row : List Str) : Mf.T := .tup (row.map Mf.T.str)
abbrev LR (rows : List (List Str)) : Mf.T := .lst (rows.map RS)
section
variable {g : List Obj} {ts : List Mf.T}
theorem vL_app : vL (g ++ [.lst ts]) (.o g.length) = some ts := by
  unfold vL
  dsimp only
  rw [get_app]
theorem vM_app : vM (g ++ [.lst ts]) (.o g.length) = some ts := by
  unfold vM
  dsimp only
  rw [get_app]
theorem lstAt_app : lstAt (g ++ [.lst ts]) g.length = some ts := by
  unfold lstAt
  rw [get_app]
end
theorem r_orders {some_ : List Str} (h5 : some_.length ≤ 5) {Q : RZ → List Obj → Prop} {E : EP} (h : Q (.v (.t (LR (foundF some_ some_.length)))) []) : MR m_orders [.t (LS some_)] [] Q E := by
  have hlast : ∀ k, k ≤ 5 → (lastF some_ k).length ≤ 3125 := fun k hk => by
    refine Nat.le_trans (last_len k) ?_
    refine Nat.le_trans (Nat.pow_le_pow_left h5 k) ?_
    exact Nat.le_trans (Nat.pow_le_pow_right (by decide) hk) (by decide)
  have hfound : ∀ k, k ≤ 5 → (foundF some_ k).length ≤ 1 + 3125 * k := by
    intro k
    induction k with
    | zero => intro _; simp [foundF]
    | succ k ih =>
      intro hk
      unfold foundF
      rw [List.length_append]
      have := hlast (k + 1) hk
      have := ih (by omega)
      omega
  refine m_run ?_
  walk_at "wr"
  refine ⟨by omega, ?_⟩
  rw [Int.toNat_natCast]
  refine s_range (fun k sl g => ∃ x3 x4 x5, sl = [.t (LS some_), .t (LR (foundF some_ k)), .t (LR (lastF some_ k)), x3, x4, x5, .un]) ⟨_, _, _, rfl⟩ ?_ ?_
  · rintro k sl g hk ⟨x3, x4, x5, rfl⟩
    have l1 := hlast k (by omega)
    have l2 := hlast (k + 1) (by omega)
    have l3 := hfound k (by omega)
    refine ⟨_, gN_one, ?_⟩
    walk_at "wr"
    refine s_loop (fun ims sl g2 => ∃ (d r : List (List Str)) (x5 : SV), lastF some_ k = d ++ r ∧ ims = ones (r.map RS) ∧ sl = [.t (LS some_), .t (LR (foundF some_ k)), .t (LR (lastF some_ k)), .t (.int k), .o g.length, x5, .un] ∧
      g2 = g ++ [.lst ((d.flatMap fun row => (some_.filter fun x => decide (x ∉ row)).map fun x => row ++ [x]).map RS)]) ⟨[], _, _, rfl, rfl, rfl, rfl⟩ ?_ ?_
    · rintro im q sl g2 ⟨d, r, x5, hd, hr, rfl, rfl⟩
      cases r with
      | nil => cases hr
      | cons row r =>
        cases hr
        have hrow : row.length = k := (last_mem.mp (show row ∈ lastF some_ k by rw [hd]; simp)).2.2
        have hstep : ((d ++ [row]).flatMap fun row => (some_.filter fun x => decide (x ∉ row)).map fun x => row ++ [x]) = (d.flatMap fun row => (some_.filter fun x => decide (x ∉ row)).map fun x => row ++ [x]) ++ (some_.filter fun x => decide (x ∉ row)).map fun x => row ++ [x] := by
          rw [List.flatMap_append, List.flatMap_cons, List.flatMap_nil, List.append_nil]
        have hle : (d.flatMap fun row => (some_.filter fun x => decide (x ∉ row)).map fun x => row ++ [x]).length ≤ 3125 := by
          have : lastF some_ (k + 1) = (lastF some_ k).flatMap fun row => (some_.filter fun x => decide (x ∉ row)).map fun x => row ++ [x] := rfl
          rw [this, hd, List.flatMap_append, List.length_append] at l2
          omega
        generalize (d.flatMap fun row => (some_.filter fun x => decide (x ∉ row)).map fun x => row ++ [x]) = acc at hstep hle
        refine ⟨_, gN_one, ?_⟩
        walk_at "wr"
        rw [vL_app]
        refine ⟨rfl, ?_⟩
        refine w_comp ?_
        walk_at "wr"
        refine wc_strs (fun x => decide (x ∉ row)) (fun x => RS (row ++ [x])) (by omega) (fun x hx => ⟨_, gN_one, ?_, fun _ => ?_⟩) ?_
        · walk_at "wr"
          simp
        · walk_at "wr"
          exact ⟨by omega, by simp [RS]⟩
        · walk_at "wr"
          rw [lstAt_app]
          have hfl := List.length_filter_le (fun x => decide (x ∉ row)) some_
          simp only [opt_some, List.length_map]
          refine ⟨by omega, ?_⟩
          refine ⟨d ++ [row], r, _, by simp [hd], rfl, rfl, ?_⟩
          rw [set_app, hstep, List.map_append, List.map_map]
          rfl
    · rintro sl g2 ⟨d, r, x5, hd, hr, rfl, rfl⟩
      cases r with
      | cons row r => cases hr
      | nil =>
        rw [List.append_nil] at hd
        have hl : lastF some_ (k + 1) = d.flatMap fun row => (some_.filter fun x => decide (x ∉ row)).map fun x => row ++ [x] := by
          rw [← hd]
          rfl
        rw [← hl]
        walk_at "wr"
        rw [vM_app, get_app]
        simp only [opt_some, List.length_map, trO_l]
        rw [show (foundF some_ k).map RS ++ (lastF some_ (k + 1)).map RS = (foundF some_ (k + 1)).map RS from (List.map_append ..).symm]
        exact ⟨by omega, _, _, _, rfl⟩
  · rintro sl g ⟨x3, x4, x5, rfl⟩
    walk_at "wr"
    exact h
end Mf


set_option Elab.async false
set_option linter.all false
set_option maxRecDepth 100000
set_option maxHeartbeats 4000000
namespace Mf
open PySem PySem.Spec PyProof.Rows L2 Sb
local macro_rules | `(tactic| walk_at "wr") => `(tactic| simp only [w_bind, w_ret, w_var, slQ_t, slQ_o, get0, getS, set0, setS, w_T, trQ_t, trQ_n, w_O, objQ_v, objQ_n, w_V, valQ_v, w_Z, w_TD, sealQ_n, w_nil, w_cons, opQ_some, w_op, w_op2, blQ_b, w_B, w_and, w_or, w_not, w_If, w_andV, w_orV, w_notV,
  opt_some, w_tru, w_isN, w_isi, s_nx, s_seq, s_ret, s_retN, s_drop, s_if, s_set, s_par, args2Q_is, augQ_t, s_aug, treeQ_t, s_unp, s_raise, s_for, itLQ_l, w_itL, itUQ_u, w_itU, lstsQ_l, zipQ_l, enumQ_l, rngQ_i, w_rng1, w_keys, w_items, libQ_l, w_libF, w_mkLib, w_meth, w_meth0, w_sl, w_part, partQ_i,
  vL_t, vL_s, vL_0, vL_f, vL_S, vL_u, vM_t, vM_0, vM_f, vM_S, vU_t, lstAt_0, lstAt_S, dicAt_0, dicAt_S, vD_t, vD_0, vD_f, vD_S, frzD_t, frzD_f, frzD_S, kindV_t, kindV_d, kindV_l, kindV_f, kindV_S, vP_t, vP_l, vP_f, vP_S, isL_is, or_some, none_or,
  oq_add, oq_sub, oq_lt, oq_le, oq_gt, oq_ge, oq_mul, oq_mod, oq_div, oq_pow, oq_intB, oq_intI, oq_neg, oq_addS, oq_ixS, oq_ixL, oq_ixU, oq_lenL, oq_lenU, oq_lenN, oq_lenS, oq_lenO, oq_cat, oq_catU, oq_rep, oq_disp0, oq_disp1, oq_disp2, oq_disp3, oq_disp4, oq_disp5, oq_disp6, oq_disp7,
  oq_tup0, oq_tup1, oq_tup2, oq_tup3, oq_tup4, oq_tup5, oq_tup6, oq_tupOf, oq_revL, oq_append, oq_extend, oq_popAt, oq_pop, oq_remove, oq_index, oq_eq, oq_in, oq_dget, oq_din, oq_listD, oq_dictD, oq_sorted, oq_sortedD, oq_bools, oq_inSto, oq_isWord, oq_names, so_lL, so_uU,
  all_str, all_int, inF_str, strsOf_map, boolsOf_map, libsOf_map, pds_str, pds_int, List.length_map, List.length_cons, List.length_nil, List.length_append, Option.map_some, Option.isSome_some, Bool.true_and, true_and, and_true, Nat.reduceAdd, Nat.reduceSub, List.replicate, List.cons_append, List.nil_append, if_true, Bool.false_eq_true, if_false, reduceCtorEq, exQ_t, exQ_n, exQ_o, outQ_f, outQ_l, outQ_d, s_setIx, setIxQ_i, s_dPut, dPutQ_k, ix_0, ix_1, ix_2, at_0, at_1, at_2, at_3, at_4, at_5, decide_eq_true_eq, List.take_succ_cons, List.take_zero, Nat.reduceLT, Nat.lt_irrefl, Nat.zero_lt_succ, w_dnew, sealQ_o, sealO_d, trQ_o, trO_l, trO_f, pd_int, pd_str, pd_bl, pd_non, pd_lst, pds_nil, dp_int, dp_str, dp_bl, dp_non, dp_nil, dp_strs, eqv_int, eqv_str, eqv_strs, eqv_strs0, Bool.not_eq_true', decide_eq_false_iff_not, key_str, gd_val, gd_len, keysI_gd, keysT_gd, keyStrs_gd, itemsI_gd, in_libs, fieldL_defs, fieldL_needs, fieldL_uses, fieldL_weak, kindT_d, opt_strK, kit_dict, kit_str, wipe1, wipe0, gN_one, vU_row, gT_two, gT_tup, gsC, gsN, tab_keysI, tab_keysT, tab_len, tab_val, lib_defs, lib_needs, lib_uses, lib_weak, eqv_ns, strO_n, strO_s, flT_str, flT_int])
theorem c_orders {s : St} {E : EP} {f : M (List SV)} {Q : RZ → List Obj → Prop} (h : WE f s (fun xs g => ∃ some_, xs = [.t (LS some_)] ∧ some_.length ≤ 5 ∧ Q (.v (.t (LR (foundF some_ some_.length)))) g) E) : WE (mCall 1 m_orders f) s Q E := by
  refine w_call0 (h.mono (fun xs g h => ?_) fun _ _ _ h => h)
  obtain ⟨some_, rfl, h5, hq⟩ := h
  exact ⟨[LS some_], rfl, rfl, r_orders h5 ⟨rfl, .inl ⟨_, rfl⟩, hq⟩⟩
theorem oq_listU {g : List Obj} {Q : RZ → List Obj → Prop} {ts : List Mf.T} : opQ (oListOf g [.t (.tup ts)]) Q = Q (.n (.lst ts)) g := by
  unfold oListOf
  rfl
theorem r_globalU {tab : Tab} {gone : Str} {signs : List Str} (W : TabOk tab gone signs) {first : Str} {early scope : List Str} {Q : RZ → List Obj → Prop} {E : EP} (hm : first ∈ tab.names) (hc : clo tab first = some scope) (hl : early.length ≤ 1000) (h : Q (.n (.lst ((globF first early scope).map Mf.T.str))) []) :
    MR m_global [.t (.dic tab.d), .t (.str first), .t (RS early)] [] Q E := by
  have hsl := in_len (clo_nd W hm hc) (clo_all W hm hc)
  have hW := W.few
  refine m_run ?_
  walk_at "wr"
  rw [oq_listU]
  walk_at "wr"
  refine ⟨by omega, ?_⟩
  refine w_comp ?_
  walk_at "wr"
  refine c_closed W ?_
  walk_at "wr"
  refine ⟨first, rfl, hm, ?_⟩
  rw [hc]
  unfold cloR
  walk_at "wr"
  have e1 : Mf.T.str first :: early.map Mf.T.str = (first :: early).map Mf.T.str := rfl
  refine wc_strs (fun y => decide (y ∉ first :: early)) Mf.T.str (by omega) (fun x hx => ⟨_, gN_one, ?_, fun _ => ?_⟩) ?_
  · walk_at "wr"
    rw [e1]
    walk_at "wr"
    simp
  · walk_at "wr"
  · walk_at "wr"
    have l1 := List.length_filter_le (fun y => decide (y ∉ first :: early)) scope
    refine ⟨by simp at l1 ⊢; omega, ?_⟩
    have e2 : Mf.T.str first :: (early.map Mf.T.str ++ (scope.filter fun y => decide (y ∉ first :: early)).map Mf.T.str) = (globF first early scope).map Mf.T.str := by
      unfold globF
      simp
    rw [e2]
    exact h
theorem c_globalU {tab : Tab} {gone : Str} {signs : List Str} (W : TabOk tab gone signs) {s : St} {E : EP} {f : M (List SV)} {Q : RZ → List Obj → Prop} (h : WE f s (fun xs g => ∃ first early scope, xs = [.t (.dic tab.d), .t (.str first), .t (RS early)] ∧ first ∈ tab.names ∧ clo tab first = some scope ∧ early.length ≤ 1000 ∧ Q (.n (.lst ((globF first early scope).map Mf.T.str))) g) E) : WE (mCall 3 m_global f) s Q E := by
  refine w_call0 (h.mono (fun xs g h => ?_) fun _ _ _ h => h)
  obtain ⟨first, early, scope, rfl, hm, hc, hl, hq⟩ := h
  exact ⟨[.dic tab.d, .str first, RS early], rfl, rfl, r_globalU W hm hc hl ⟨rfl, .inr ⟨_, rfl⟩, hq⟩⟩
/-! ### rows as plain data -/
abbrev DR (row : List Str) : PyData := .tuple (row.map .str)
theorem pd_row (row : List Str) : pd (RS row) = some (DR row) := by
  rw [pd, pds_str]
  rfl
theorem pds_rows (rows : List (List Str)) : pds (rows.map RS) = some (rows.map DR) := by
  induction rows with
  | nil => rfl
  | cons a rows ih => rw [List.map_cons, pds, ih, pd_row]; rfl
theorem letB_lt {c : Nat} (h : letB c = true) : c < 0x110000 := by
  unfold letB at h
  rw [show ("z" : Str).cps.toList = [122] by decide +kernel] at h
  by_cases q : c < 0x110000
  · exact q
  · have : [122] < [c] := List.cons_lt_cons_iff.mpr (.inl (by omega))
    simp [this] at h
theorem word_ok {x : Str} (h : wordB x = true) : PySem.PyData.strOk x = true := by
  unfold wordB at h
  simp only [Bool.and_eq_true] at h
  unfold PySem.PyData.strOk
  rw [← Array.all_toList, List.all_eq_true]
  intro c hc
  exact decide_eq_true (letB_lt (List.all_eq_true.mp h.2 c hc))
theorem lay_strs : ∀ {row : List Str}, (∀ x ∈ row, wordB x = true) → PyData.canLayAll0 (row.map .str) = true
  | [], _ => rfl
  | a :: row, h => by
    rw [List.map_cons, PyData.canLayAll0, lay_strs fun x hx => h x (List.mem_cons_of_mem _ hx), PyData.canLay0, word_ok (h a List.mem_cons_self)]
    rfl
theorem lay_row {row : List Str} (h : ∀ x ∈ row, wordB x = true) : (DR row).canLay0 = true := by
  rw [PyData.canLay0]
  exact lay_strs h
theorem lay_rows : ∀ {rows : List (List Str)}, (∀ r ∈ rows, ∀ x ∈ r, wordB x = true) → PyData.canLayAll0 (rows.map DR) = true
  | [], _ => rfl
  | a :: rows, h => by
    rw [List.map_cons, PyData.canLayAll0, lay_rows fun r hr => h r (List.mem_cons_of_mem _ hr), lay_row (h a List.mem_cons_self)]
    rfl
theorem dp_row (row : List Str) : (DR row).depth ≤ 60 := by simp [PyData.depth, dAll_str]
theorem any_row (row : List Str) (rows : List (List Str)) : (rows.map DR).any (fun z => PyData.eqv z (DR row)) = decide (row ∈ rows) := by
  induction rows with
  | nil => rfl
  | cons a rows ih =>
    rw [List.map_cons, List.any_cons, ih, eqv_strU]
    by_cases q : a = row
    · subst q
      simp
    · have : ¬ row = a := fun e => q e.symm
      simp [q, this]
theorem eqv_rows0 (rows : List (List Str)) : PyData.eqv (.list (rows.map DR)) (.list []) = decide (rows = []) := by
  rw [PyData.eqv]
  cases rows <;> simp [PyData.eqvAll]
theorem dp_rows (rows : List (List Str)) : (PyData.list (rows.map DR)).depth ≤ 64 := by
  have : PyData.depthAll (rows.map DR) ≤ 60 := by
    induction rows with
    | nil => simp [PyData.depthAll]
    | cons a rows ih =>
      have := dp_row a
      simp only [List.map_cons, PyData.depthAll]
      omega
  simp only [PyData.depth]
  omega
def unR : Im → List Str
  | .one (.tup ts) => (strsOf ts).getD []
  | _ => []
theorem unR_row (row : List Str) : unR (.one (RS row)) = row := by
  show (strsOf (row.map Mf.T.str)).getD [] = row
  rw [strsOf_map]
  rfl
theorem wc_rows {sl0 : List SV} {ft : Im → List SV → Option (List SV)} {fc : M Bool} {fe : M SV} {Q : RZ → List Obj → Prop} {rows : List (List Str)} {g : List Obj} (p : List Str → Bool) (e : List Str → T) (hl : rows.length ≤ 100000)
    (hs : ∀ x ∈ rows, ∃ sl1, ft (.one (RS x)) sl0 = some sl1 ∧ WE fc ⟨sl1, g⟩ (fun b g1 => b = p x ∧ g1 = g) noE ∧ (p x = true → WE fe ⟨sl1, g⟩ (fun y g1 => y = .t (e x) ∧ g1 = g) noE))
    (hq : Q (.n (.lst ((rows.filter p).map e))) g) : WC sl0 ft fc fe (ones (rows.map RS)) [] g Q := by
  have key : ∀ us : List (List Str), ((ones (us.map RS)).filter fun im => p (unR im)).map (fun im => e (unR im)) = (us.filter p).map e := fun us => by
    simp only [ones, List.map_map, List.filter_map, Function.comp_def, unR_row]
  refine wc_pure (fun im => p (unR im)) (fun im => e (unR im)) (by simpa [ones] using hl) (fun im him => ?_) (by rw [key]; exact hq)
  unfold ones at him
  rw [List.map_map] at him
  obtain ⟨x, hx, rfl⟩ := List.mem_map.mp him
  have := hs x hx
  simp only [Function.comp_def, unR_row]
  exact this
end Mf


set_option Elab.async false
set_option linter.all false
set_option maxRecDepth 100000
set_option maxHeartbeats 4000000
namespace Mf
open PySem PySem.Spec PyProof.Rows L2 Sb
local macro_rules | `(tactic| walk_at "wr") => `(tactic| simp only [w_bind, w_ret, w_var, slQ_t, slQ_o, get0, getS, set0, setS, w_T, trQ_t, trQ_n, w_O, objQ_v, objQ_n, w_V, valQ_v, w_Z, w_TD, sealQ_n, w_nil, w_cons, opQ_some, w_op, w_op2, blQ_b, w_B, w_and, w_or, w_not, w_If, w_andV, w_orV, w_notV,
  opt_some, w_tru, w_isN, w_isi, s_nx, s_seq, s_ret, s_retN, s_drop, s_if, s_set, s_par, args2Q_is, augQ_t, s_aug, treeQ_t, s_unp, s_raise, s_for, itLQ_l, w_itL, itUQ_u, w_itU, lstsQ_l, zipQ_l, enumQ_l, rngQ_i, w_rng1, w_keys, w_items, libQ_l, w_libF, w_mkLib, w_meth, w_meth0, w_sl, w_part, partQ_i,
  vL_t, vL_s, vL_0, vL_f, vL_S, vL_u, vM_t, vM_0, vM_f, vM_S, vU_t, lstAt_0, lstAt_S, dicAt_0, dicAt_S, vD_t, vD_0, vD_f, vD_S, frzD_t, frzD_f, frzD_S, kindV_t, kindV_d, kindV_l, kindV_f, kindV_S, vP_t, vP_l, vP_f, vP_S, isL_is, or_some, none_or,
  oq_add, oq_sub, oq_lt, oq_le, oq_gt, oq_ge, oq_mul, oq_mod, oq_div, oq_pow, oq_intB, oq_intI, oq_neg, oq_addS, oq_ixS, oq_ixL, oq_ixU, oq_lenL, oq_lenU, oq_lenN, oq_lenS, oq_lenO, oq_cat, oq_catU, oq_rep, oq_disp0, oq_disp1, oq_disp2, oq_disp3, oq_disp4, oq_disp5, oq_disp6, oq_disp7,
  oq_tup0, oq_tup1, oq_tup2, oq_tup3, oq_tup4, oq_tup5, oq_tup6, oq_tupOf, oq_revL, oq_append, oq_extend, oq_popAt, oq_pop, oq_remove, oq_index, oq_eq, oq_in, oq_dget, oq_din, oq_listD, oq_dictD, oq_sorted, oq_sortedD, oq_bools, oq_inSto, oq_isWord, oq_names, so_lL, so_uU,
  all_str, all_int, inF_str, strsOf_map, boolsOf_map, libsOf_map, pds_str, pds_int, List.length_map, List.length_cons, List.length_nil, List.length_append, Option.map_some, Option.isSome_some, Bool.true_and, true_and, and_true, Nat.reduceAdd, Nat.reduceSub, List.replicate, List.cons_append, List.nil_append, if_true, Bool.false_eq_true, if_false, reduceCtorEq, exQ_t, exQ_n, exQ_o, outQ_f, outQ_l, outQ_d, s_setIx, setIxQ_i, s_dPut, dPutQ_k, ix_0, ix_1, ix_2, at_0, at_1, at_2, at_3, at_4, at_5, decide_eq_true_eq, List.take_succ_cons, List.take_zero, Nat.reduceLT, Nat.lt_irrefl, Nat.zero_lt_succ, w_dnew, sealQ_o, sealO_d, trQ_o, trO_l, trO_f, pd_int, pd_str, pd_bl, pd_non, pd_lst, pds_nil, dp_int, dp_str, dp_bl, dp_non, dp_nil, dp_strs, eqv_int, eqv_str, eqv_strs, eqv_strs0, Bool.not_eq_true', decide_eq_false_iff_not, key_str, gd_val, gd_len, keysI_gd, keysT_gd, keyStrs_gd, itemsI_gd, in_libs, fieldL_defs, fieldL_needs, fieldL_uses, fieldL_weak, kindT_d, opt_strK, kit_dict, kit_str, wipe1, wipe0, gN_one, vU_row, gT_two, gT_tup, gsC, gsN, tab_keysI, tab_keysT, tab_len, tab_val, lib_defs, lib_needs, lib_uses, lib_weak, eqv_ns, strO_n, strO_s, flT_str, flT_int])
open PySem.W (AlikeAll minD alike alikeAll dataLt)
theorem depth_strs (ws : List Str) : PyData.depthAll (ws.map .str) ≤ 60 := by rw [dAll_str]; decide
theorem depth_rows (rows : List (List Str)) : PyData.depthAll (rows.map DR) ≤ 60 := by
  induction rows with
  | nil => simp [PyData.depthAll]
  | cons a rows ih =>
    have := dp_row a
    simp only [List.map_cons, PyData.depthAll]
    omega
theorem tOf_row (r : List Str) : tOf (.tuple (r.map .str)) = RS r := tOf_pd (RS r) _ (pd_row r)
theorem r_order_right {tab : Tab} {gone : Str} {signs : List Str} (W : TabOk tab gone signs) {main : Str} {scope : List Str} {asked : Dss} (A : AskOk tab asked) (hm : main ∈ tab.names) (hc : clo tab main = some scope) {R : List Str} (hL : leastF tab main scope asked = .tup [.str "order", LS R]) {Q : RZ → List Obj → Prop} {E : EP} (h : Q (.v (.t (.bl true))) []) :
    MR m_order_right [.t (.dic tab.d), .t (.str main), .t (.dic (ssd asked)), .t (LS R)] [] Q E := by
  have hW := W.few
  have hsn := clo_all W hm hc
  have hsl := in_len (clo_nd W hm hc) hsn
  have Pl := Plain.of W hm hc
  obtain ⟨hu, hcv, hp, F⟩ := least_fits A hL
  have hI := reqF_ok (main := main) (scope := scope) A
  have nd : R.Nodup := hp.nodup_iff.mpr hI.nd
  have hRn : ∀ x ∈ R, x ∈ tab.names := fun x hx => hI.sub x (hp.mem_iff.mp hx)
  have hRl := in_len nd hRn
  have hmR : main ∉ R := fun hx => req_main A Pl hu (hp.mem_iff.mp hx)
  have LR_ := least_row A hL
  have hek : ∀ y ∈ R, ∀ z, z ∈ eldK (eldsF tab main scope asked) y ↔ Ahead tab main asked y z := fun y hy z => by
    rw [elds_look A (hp.mem_iff.mp hy), eldF_mem]
  have hmet : ∀ {row : List Str}, (∀ x ∈ row, x ∈ tab.names) → ∀ x ∈ globF main row scope, x ∈ tab.names := fun {row} hr x hx => by
    unfold globF at hx
    rcases List.mem_append.mp hx with h1 | h1
    · rcases List.mem_cons.mp h1 with e | h1
      · exact e ▸ hm
      · exact hr x h1
    · exact hsn x (List.mem_filter.mp h1).1
  refine m_run ?_
  refine s_cut (fun sl g => ∃ x4 x5, sl = [.t (.dic tab.d), .t (.str main), .t (.dic (ssd asked)), .t (LS R), x4, x5, .un, .un, .un] ∧ g = []) ?_ ?_
  · walk_at "wr"
    refine ⟨by omega, ?_⟩
    rw [Int.toNat_natCast]
    refine s_range (fun k sl g => ∃ x4 x5, sl = [.t (.dic tab.d), .t (.str main), .t (.dic (ssd asked)), .t (LS R), x4, x5, .un, .un, .un] ∧ g = []) ⟨_, _, rfl, rfl⟩ ?_ (fun sl g h => h)
    rintro k sl g hk ⟨x4, x5, rfl, rfl⟩
    have hdr : R.drop k = R[k] :: R.drop (k + 1) := List.drop_eq_getElem_cons hk
    have hsp : R = R.take k ++ R[k] :: R.drop (k + 1) := by rw [← hdr, List.take_append_drop]
    obtain ⟨o1, o2⟩ := LR_ _ _ _ hsp
    rw [← hdr] at o1 o2
    have hmd : main ∉ R.drop k := fun hx => hmR (List.mem_of_mem_drop hx)
    have hyR : R[k] ∈ R := List.getElem_mem hk
    obtain ⟨ys, hfr⟩ : ∃ ys, (R.drop k).filter (fun w => decide (aheadL tab asked (R.drop k) w = [])) = R[k] :: ys := by
      have e := congrArg (List.filter fun w => decide (aheadL tab asked (R.drop k) w = [])) hdr
      rw [List.filter_cons_of_pos (p := fun w => decide (aheadL tab asked (R.drop k) w = [])) (decide_eq_true ((ahead_nil hmd).mpr fun z hz => o1 z ((hek _ hyR z).mpr hz)))] at e
      exact ⟨_, e⟩
    have hmin : ∀ w ∈ R[k] :: ys, leS R[k] w = true := fun w hw => by
      rw [← hfr] at hw
      obtain ⟨h1, h2⟩ := List.mem_filter.mp hw
      have h2 := of_decide_eq_true h2
      exact o2 w h1 fun z hz => (ahead_nil hmd).mp h2 z ((hek w (List.mem_of_mem_drop h1) z).mp hz)
    refine ⟨_, gN_one, ?_⟩
    refine s_cut (fun sl g => sl = [.t (.dic tab.d), .t (.str main), .t (.dic (ssd asked)), .t (LS R), .t (.int (k : Nat)), .t (LS (R[k] :: ys)), .un, .un, .un] ∧ g = []) ?_ ?_
    · walk_at "wr"
      refine w_comp ?_
      walk_at "wr"
      rw [cut_drop (by omega), Int.toNat_natCast, strs_drop]
      refine wc_strs (fun w => decide (aheadL tab asked (R.drop k) w = [])) Mf.T.str (by simp; omega) (fun x hx => ⟨_, gN_one, ?_, fun _ => ?_⟩) ?_
      · walk_at "wr"
        refine c_ahead W ?_
        walk_at "wr"
        rw [cut_drop (by omega), Int.toNat_natCast, strs_drop]
        refine ⟨asked, R.drop k, x, rfl, hRn x (List.mem_of_mem_drop hx), ?_⟩
        rfl
      · walk_at "wr"
      · rw [hfr]
        walk_at "wr"
    rintro sl g ⟨rfl, rfl⟩
    walk_at "wr"
    rw [oq_minD]
    walk_at "wr"
    simp only [List.map_cons]
    refine ⟨⟨alike_strs (R[k] :: ys), depth_strs (R[k] :: ys)⟩, ?_⟩
    rw [minS_is List.mem_cons_self hmin, tOf]
    walk_at "wr"
    rw [atI_lt (by simpa using hk), List.getElem?_map, List.getElem?_eq_getElem hk]
    walk_at "wr"
    simp only [not_true_eq_false, reduceIte]
    exact ⟨_, _, rfl⟩
  rintro sl g ⟨x4, x5, rfl, rfl⟩
  refine s_cut (fun sl g => sl = [.t (.dic tab.d), .t (.str main), .t (.dic (ssd asked)), .t (LS R), x4, x5, .un, .un, .un] ∧ g = []) ?_ ?_
  · walk_at "wr"
    refine c_met (tab := tab) ?_
    walk_at "wr"
    refine c_global W ?_
    walk_at "wr"
    have hgl := glob_len main R scope
    refine ⟨main, R, scope, rfl, hm, hc, by omega, globF main R scope, asked, rfl, A, hmet hRn, by omega, ?_⟩
    rw [met_of_fits A Pl hu hcv F fun x hx => hp.mem_iff.mp hx]
    walk_at "wr"
  rintro sl g ⟨rfl, rfl⟩
  refine s_cut (fun sl g => R.length ≤ 4 ∧ sl = [.t (.dic tab.d), .t (.str main), .t (.dic (ssd asked)), .t (LS R), x4, x5, .un, .un, .un] ∧ g = []) ?_ ?_
  · walk_at "wr"
    by_cases z : (4 : Int) < (R.length : Nat)
    · rw [if_pos z]
      exact h
    · rw [if_neg z]
      omega
  rintro sl g ⟨h4, rfl, rfl⟩
  let rows := (foundF R R.length).filter fun r => decide (r.length = R.length)
  have hrow : ∀ r ∈ rows, r.Nodup ∧ (∀ x ∈ r, x ∈ R) ∧ r.length = R.length := fun r hr => by
    obtain ⟨h1, h2⟩ := List.mem_filter.mp hr
    obtain ⟨a, b, c⟩ := found_mem.mp h1
    exact ⟨a, b, of_decide_eq_true h2⟩
  have hRr : R ∈ rows := List.mem_filter.mpr ⟨found_mem.mpr ⟨nd, fun x h => h, Nat.le_refl _⟩, decide_eq_true rfl⟩
  have hfl : (foundF R R.length).length ≤ 100000 := by
    have hb : ∀ k, k ≤ 4 → (foundF R k).length ≤ 1 + 256 * k := by
      intro k
      induction k with
      | zero => intro _; simp [foundF]
      | succ k ih =>
        intro hk
        unfold foundF
        rw [List.length_append]
        have h1 : (lastF R (k + 1)).length ≤ 256 := by
          refine Nat.le_trans (last_len (k + 1)) ?_
          refine Nat.le_trans (Nat.pow_le_pow_left h4 (k + 1)) ?_
          exact Nat.le_trans (Nat.pow_le_pow_right (by decide) hk) (by decide)
        have := ih (by omega)
        omega
    have := hb R.length h4
    omega
  have hrl : rows.length ≤ 100000 := Nat.le_trans (List.length_filter_le _ _) hfl
  refine s_cut (fun sl g => sl = [.t (.dic tab.d), .t (.str main), .t (.dic (ssd asked)), .t (LS R), x4, x5, .t (LR rows), .un, .un] ∧ g = []) ?_ ?_
  · walk_at "wr"
    refine w_comp ?_
    walk_at "wr"
    refine c_orders ?_
    walk_at "wr"
    refine ⟨R, rfl, by omega, ?_⟩
    refine wc_rows (fun r => decide (r.length = R.length)) RS hfl (fun row hrow => ⟨_, gN_one, ?_, fun _ => ?_⟩) ?_
    · walk_at "wr"
      rw [decide_eq_decide]
      omega
    · walk_at "wr"
    · walk_at "wr"
      rfl
  rintro sl g ⟨rfl, rfl⟩
  walk_at "wr"
  refine w_comp ?_
  walk_at "wr"
  refine wc_rows (fun r => metF tab (globF main r scope) asked) RS hrl (fun row hr => ⟨_, gN_one, ?_, fun _ => ?_⟩) ?_
  · obtain ⟨r1, r2, r3⟩ := hrow row hr
    walk_at "wr"
    refine c_met (tab := tab) ?_
    walk_at "wr"
    refine c_globalU W ?_
    walk_at "wr"
    have hgl := glob_len main row scope
    refine ⟨main, row, scope, rfl, hm, hc, by omega, globF main row scope, asked, rfl, A, hmet fun x hx => hRn x (r2 x hx), by omega, ?_⟩
    walk_at "wr"
  · walk_at "wr"
  have hg : ∀ r ∈ rows.filter (fun r => metF tab (globF main r scope) asked), r.length = R.length ∧ (r ≠ R → ltR R r = true) := fun r hr => by
    obtain ⟨h1, h2⟩ := List.mem_filter.mp hr
    obtain ⟨r1, r2, r3⟩ := hrow r h1
    have hmr : main ∉ r := fun hx => hmR (r2 main hx)
    have F2 := fits_of_met A Pl hmr r1 h2
    refine ⟨r3, fun ne => ?_⟩
    have hiff : ∀ x, x ∈ R ↔ x ∈ r := fun x => ⟨fun hx => F2.req x (hp.mem_iff.mp hx), fun hx => r2 x hx⟩
    refine least_lt _ R r nd r1 hiff LR_ (fun a y b e z hz hzm => ?_) ne
    have hyR : y ∈ R := (hiff y).mpr (by rw [e]; simp)
    have hza := F2.old a y b e z ((hek y hyR z).mp hz)
    rw [e] at r1
    exact (List.nodup_append.mp r1).2.2 z hza z hzm rfl
  have hRg : R ∈ rows.filter (fun r => metF tab (globF main r scope) asked) := List.mem_filter.mpr ⟨hRr, met_of_fits A Pl hu hcv F fun x hx => hp.mem_iff.mp hx⟩
  generalize rows.filter (fun r => metF tab (globF main r scope) asked) = good at hg hRg
  cases good with
  | nil => cases hRg
  | cons d ds =>
    rw [trQ_n, oq_minD, vL_t, opt_some, pds_rows]
    simp only [List.map_cons]
    refine ⟨⟨alike_rows (d :: ds), depth_rows (d :: ds)⟩, ?_⟩
    rw [minR_is hRg (fun y hy => (hg y hy).1) fun y hy => (hg y hy).2, tOf_row]
    walk_at "wr"
    rw [oq_listU]
    walk_at "wr"
    simp only [decide_true]
    exact h
/-- wishes that some preloads meet, or drawn ones -/
theorem r_hoped72 {tab : Tab} {gone : Str} {signs : List Str} (W : TabOk tab gone signs) {first : Str} {scope : List Str} (hm : first ∈ tab.names) (hc : clo tab first = some scope) {n : Nat} {w : List T} {Q : RZ → List Obj → Prop} {E : EP} (hw : Wl n w) (hn : n < 800000)
    (h : ∀ (w' : List T) (asked : Dss), Wl (n + 130) w' → AskIn tab signs asked → Q (.n (.dic (ssd asked))) [.lst w']) : MR m_hoped72 [.o 0, .t (.dic tab.d), .t (.str first), .t (LS signs)] [.lst w] Q E := by
  have hW := W.few
  have hS := W.signsF
  have hsn := clo_all W hm hc
  have hsl := in_len (clo_nd W hm hc) hsn
  have hnl : tab.names.length = tab.length := by simp [Tab.names]
  refine m_run ?_
  walk_at "wr"
  refine c_draw (n := n) (by omega) ?_
  walk_at "wr"
  refine ⟨0, 3, w, rfl, rfl, hw, by decide, by decide, fun w1 d hw1 d0 d1 => ?_⟩
  walk_at "wr"
  split
  · refine c_wishes W (n := n + 1) (by omega) ?_
    walk_at "wr"
    refine ⟨0, w1, rfl, rfl, hw1, fun w2 asked hw2 ha => ?_⟩
    exact h w2 asked (hw2.mono (by omega)) ha
  · refine c_part (n := n + 1) ?_
    walk_at "wr"
    refine w_comp ?_
    walk_at "wr"
    refine wc_strs (fun y => decide (y ≠ first)) Mf.T.str (by omega) (fun x hx => ⟨_, gN_one, ?_, fun _ => ?_⟩) ?_
    · walk_at "wr"
      simp
    · walk_at "wr"
    walk_at "wr"
    have hfl := List.length_filter_le (fun y => decide (y ≠ first)) tab.names
    refine ⟨0, tab.names.filter fun y => decide (y ≠ first), 2, w1, rfl, rfl, hw1, by omega, by omega, by decide, by decide, fun w3 early hw3 hus => ?_⟩
    walk_at "wr"
    have hel := hus.len
    have hen : ∀ x ∈ early, x ∈ tab.names := fun x hx => (List.mem_filter.mp (hus.mem x hx)).1
    refine c_global W ?_
    walk_at "wr"
    refine ⟨first, early, scope, rfl, hm, hc, by omega, ?_⟩
    have hgl := glob_len first early scope
    have hgn : ∀ x ∈ globF first early scope, x ∈ tab.names := fun x hx => by
      unfold globF at hx
      rcases List.mem_append.mp hx with h1 | h1
      · rcases List.mem_cons.mp h1 with e | h1
        · exact e ▸ hm
        · exact hen x h1
      · exact hsn x (List.mem_filter.mp h1).1
    generalize globF first early scope = wide at hgl hgn
    refine c_part (n := n + 3 + 2 * tab.length) ?_
    walk_at "wr"
    refine c_pick (n := n + 2 + 2 * tab.length) (by omega) ?_
    walk_at "wr"
    refine ⟨0, _, w3, rfl, rfl, hw3.mono (by omega), by simp, by simp, fun w4 t hw4 ht => ?_⟩
    obtain ⟨k, hk, rfl⟩ := in_map_int (ks := [1, 1, 2]) ht
    walk_at "wr"
    have hk2 : 0 < k ∧ k < 1000000 := by
      simp at hk
      omega
    refine ⟨0, signs, k, w4, rfl, rfl, hw4.mono (by omega), by omega, by omega, hk2.1, hk2.2, fun w5 us hw5 hus => ?_⟩
    walk_at "wr"
    refine s_strs (fun d r sl g => ∃ (acc : Dss) (x7 : SV), AskIn tab signs acc ∧ sl = [.o 0, .t (.dic tab.d), .t (.str first), .t (LS signs), .t (LS early), .t (LS wide), .o 1, x7, .un] ∧ g = [.lst w5, .dic (ssd acc)])
      ⟨[], _, ⟨List.nodup_nil, fun _ h => (by cases h), fun _ _ h => (by cases h)⟩, rfl, rfl⟩ ?_ ?_
    · rintro d x r sl g hd ⟨acc, x7, hacc, rfl, rfl⟩
      refine ⟨_, gN_one, ?_⟩
      walk_at "wr"
      refine c_definer (tab := tab) ?_
      walk_at "wr"
      refine ⟨wide, x, rfl, hgn, by omega, ?_⟩
      cases hfd : firstD tab wide x with
      | none =>
        rw [strO_n, isNQ_n]
        simp only [Bool.not_true, Bool.false_eq_true, reduceIte]
        exact ⟨acc, _, hacc, rfl, rfl⟩
      | some m =>
        rw [strO_s, isNQ_s]
        simp only [reduceIte]
        refine c_definer (tab := tab) ?_
        walk_at "wr"
        refine ⟨wide, x, rfl, hgn, by omega, ?_⟩
        rw [hfd, strO_s]
        have hal := hacc.len
        rw [gd_put]
        exact ⟨by omega, setL acc x m, _, hacc.set (hus.mem x (by rw [hd]; simp)) (hgn m (firstD_some hfd).1), rfl, rfl⟩
    · rintro sl g ⟨acc, x7, hacc, rfl, rfl⟩
      walk_at "wr"
      exact h w5 acc (hw5.mono (by omega)) hacc
theorem c_hoped72 {tab : Tab} {gone : Str} {signs : List Str} (W : TabOk tab gone signs) {s : St} {E : EP} {f : M (List SV)} {Q : RZ → List Obj → Prop} {n : Nat} (hn : n < 800000) (h : WE f s (fun xs g => ∃ i w first scope, xs = [.o i, .t (.dic tab.d), .t (.str first), .t (LS signs)] ∧ g[i]? = some (.lst w) ∧ Wl n w ∧ first ∈ tab.names ∧ clo tab first = some scope ∧
    ∀ (w' : List T) (asked : Dss), Wl (n + 130) w' → AskIn tab signs asked → Q (.n (.dic (ssd asked))) (g.set i (.lst w'))) E) : WE (mCall 4 m_hoped72 f) s Q E := by
  refine w_call1 (h.mono (fun xs g h => ?_) fun _ _ _ h => h)
  obtain ⟨i, w, first, scope, rfl, hg, hw, hm, hc, k⟩ := h
  exact ⟨i, [.dic tab.d, .str first, LS signs], _, rfl, rfl, hg, r_hoped72 W hm hc hw hn fun w' asked a b => ⟨_, rfl, .inr ⟨_, rfl⟩, k w' asked a b⟩⟩
end Mf


set_option Elab.async false
set_option linter.all false
set_option maxRecDepth 100000
set_option maxHeartbeats 4000000
namespace Mf
open PySem PySem.Spec PyProof.Rows L2 Sb
local macro_rules | `(tactic| walk_at "wr") => `(tactic| simp only [w_bind, w_ret, w_var, slQ_t, slQ_o, get0, getS, set0, setS, w_T, trQ_t, trQ_n, w_O, objQ_v, objQ_n, w_V, valQ_v, w_Z, w_TD, sealQ_n, w_nil, w_cons, opQ_some, w_op, w_op2, blQ_b, w_B, w_and, w_or, w_not, w_If, w_andV, w_orV, w_notV,
  opt_some, w_tru, w_isN, w_isi, s_nx, s_seq, s_ret, s_retN, s_drop, s_if, s_set, s_par, args2Q_is, augQ_t, s_aug, treeQ_t, s_unp, s_raise, s_for, itLQ_l, w_itL, itUQ_u, w_itU, lstsQ_l, zipQ_l, enumQ_l, rngQ_i, w_rng1, w_keys, w_items, libQ_l, w_libF, w_mkLib, w_meth, w_meth0, w_sl, w_part, partQ_i,
  vL_t, vL_s, vL_0, vL_f, vL_S, vL_u, vM_t, vM_0, vM_f, vM_S, vU_t, lstAt_0, lstAt_S, dicAt_0, dicAt_S, vD_t, vD_0, vD_f, vD_S, frzD_t, frzD_f, frzD_S, kindV_t, kindV_d, kindV_l, kindV_f, kindV_S, vP_t, vP_l, vP_f, vP_S, isL_is, or_some, none_or,
  oq_add, oq_sub, oq_lt, oq_le, oq_gt, oq_ge, oq_mul, oq_mod, oq_div, oq_pow, oq_intB, oq_intI, oq_neg, oq_addS, oq_ixS, oq_ixL, oq_ixU, oq_lenL, oq_lenU, oq_lenN, oq_lenS, oq_lenO, oq_cat, oq_catU, oq_rep, oq_disp0, oq_disp1, oq_disp2, oq_disp3, oq_disp4, oq_disp5, oq_disp6, oq_disp7,
  oq_tup0, oq_tup1, oq_tup2, oq_tup3, oq_tup4, oq_tup5, oq_tup6, oq_tupOf, oq_revL, oq_append, oq_extend, oq_popAt, oq_pop, oq_remove, oq_index, oq_eq, oq_in, oq_dget, oq_din, oq_listD, oq_dictD, oq_sorted, oq_sortedD, oq_bools, oq_inSto, oq_isWord, oq_names, so_lL, so_uU,
  all_str, all_int, inF_str, strsOf_map, boolsOf_map, libsOf_map, pds_str, pds_int, List.length_map, List.length_cons, List.length_nil, List.length_append, Option.map_some, Option.isSome_some, Bool.true_and, true_and, and_true, Nat.reduceAdd, Nat.reduceSub, List.replicate, List.cons_append, List.nil_append, if_true, Bool.false_eq_true, if_false, reduceCtorEq, exQ_t, exQ_n, exQ_o, outQ_f, outQ_l, outQ_d, s_setIx, setIxQ_i, s_dPut, dPutQ_k, ix_0, ix_1, ix_2, at_0, at_1, at_2, at_3, at_4, at_5, decide_eq_true_eq, List.take_succ_cons, List.take_zero, Nat.reduceLT, Nat.lt_irrefl, Nat.zero_lt_succ, w_dnew, sealQ_o, sealO_d, trQ_o, trO_l, trO_f, pd_int, pd_str, pd_bl, pd_non, pd_lst, pds_nil, dp_int, dp_str, dp_bl, dp_non, dp_nil, dp_strs, eqv_int, eqv_str, eqv_strs, eqv_strs0, Bool.not_eq_true', decide_eq_false_iff_not, key_str, gd_val, gd_len, keysI_gd, keysT_gd, keyStrs_gd, itemsI_gd, in_libs, fieldL_defs, fieldL_needs, fieldL_uses, fieldL_weak, kindT_d, opt_strK, kit_dict, kit_str, wipe1, wipe0, gN_one, vU_row, gT_two, gT_tup, gsC, gsN, tab_keysI, tab_keysT, tab_len, tab_val, lib_defs, lib_needs, lib_uses, lib_weak, eqv_ns, strO_n, strO_s, flT_str, flT_int])
theorem c_order_right {tab : Tab} {gone : Str} {signs : List Str} (W : TabOk tab gone signs) {s : St} {E : EP} {f : M (List SV)} {Q : RZ → List Obj → Prop} (h : WE f s (fun xs g => ∃ main scope asked R, xs = [.t (.dic tab.d), .t (.str main), .t (.dic (ssd asked)), .t (LS R)] ∧ AskOk tab asked ∧ main ∈ tab.names ∧ clo tab main = some scope ∧
    leastF tab main scope asked = .tup [.str "order", LS R] ∧ Q (.v (.t (.bl true))) g) E) : WE (mCall 4 m_order_right f) s Q E := by
  refine w_call0 (h.mono (fun xs g h => ?_) fun _ _ _ h => h)
  obtain ⟨main, scope, asked, R, rfl, A, hm, hc, hL, hq⟩ := h
  exact ⟨[.dic tab.d, .str main, .dic (ssd asked), LS R], rfl, rfl, r_order_right W A hm hc hL ⟨rfl, .inl ⟨_, rfl⟩, hq⟩⟩
theorem law72 : MLaw m_law72 := by
  intro ns hlen
  suffices h : MR m_law72 [.t (.scr ns)] [] (fun z g => z = .v (.t (.bl true))) noE by
    obtain ⟨z, g', h1, rfl⟩ := h.ex
    exact ⟨g', h1⟩
  refine m_run ?_
  walk_at "wr"
  refine c_cell ?_
  walk_at "wr"
  refine ⟨ns, 0, rfl, fun c => ?_⟩
  rw [cut_ints]
  have hcl : (cutT ns (some 1) (some 4)).length ≤ 63 := by
    unfold cutT
    rw [List.length_take, List.length_drop]
    omega
  refine ⟨by rw [List.length_map]; omega, ?_⟩
  refine s_loop (fun ims sl g => ∃ (r : List Int) (x1 x2 x3 x4 x5 x6 x7 x8 : SV), ims = ones (r.map Mf.T.int) ∧ sl = [.t (.scr ns), x1, x2, x3, x4, x5, x6, x7, x8]) ⟨c :: cutT ns (some 1) (some 4), _, _, _, _, _, _, _, _, rfl, rfl⟩ ?_ ?_
  · rintro im q sl g ⟨r, x1, x2, x3, x4, x5, x6, x7, x8, hr, rfl⟩
    cases r with
    | nil => cases hr
    | cons c r =>
      cases hr
      refine ⟨_, gN_one, ?_⟩
      walk_at "wr"
      refine c_begin ?_
      walk_at "wr"
      refine ⟨c, rfl, fun w hw => ?_⟩
      refine c_spelled (n := 1) (by omega) ?_
      walk_at "wr"
      refine c_draw (n := 0) (by omega) ?_
      walk_at "wr"
      refine ⟨g.length, 9, w, rfl, get_app, hw, by decide, by decide, fun w1 d hw1 d0 d1 => ?_⟩
      rw [set_app]
      obtain ⟨d, rfl⟩ := Int.eq_ofNat_of_zero_le d0
      refine ⟨g.length, 1 + d, w1, by simp, get_app, hw1, by omega, fun w2 signs hw2 hsl hsn hsw => ?_⟩
      rw [set_app]
      refine c_libraries (n := 1 + 1 + 12 * (1 + d)) (by omega) ?_
      walk_at "wr"
      refine ⟨g.length, 14, signs, w2, rfl, get_app, hw2, by omega, by omega, by omega, hsn, hsw, fun w3 tab gone hw3 W htl => ?_⟩
      rw [set_app]
      have hW := W.few
      have hnl : tab.names.length = tab.length := by simp [Tab.names]
      refine c_pick (n := 12000) (by omega) ?_
      walk_at "wr"
      refine c_complete W ?_
      walk_at "wr"
      have hcl2 : (compF tab).length ≤ tab.names.length := List.length_filter_le _ _
      have hcp : 0 < (compF tab).length := List.length_pos_iff.mpr (compF_ne W)
      refine ⟨g.length, _, w3, rfl, get_app, hw3.mono (by omega), by simpa using hcp, by simp; omega, fun w4 t hw4 ht => ?_⟩
      obtain ⟨main, hm, rfl⟩ := List.mem_map.mp ht
      obtain ⟨hm1, scope, hc⟩ := compF_mem hm
      rw [set_app]
      refine ⟨by decide, ?_⟩
      rw [show Int.toNat 3 = 3 from rfl]
      refine s_range (fun k sl g2 => ∃ (w' : List T) (x6 x7 x8 : SV), Wl (12001 + 130 * k) w' ∧ sl = [.t (.scr ns), .t (.int c), .o g.length, .t (LS signs), .t (.dic tab.d), .t (.str main), x6, x7, x8] ∧ g2 = g ++ [.lst w']) ⟨w4, x6, x7, x8, hw4.mono (by omega), rfl, rfl⟩ ?_ ?_
      · rintro k sl g2 hk ⟨w5, x6, x7, x8, hw5, rfl, rfl⟩
        refine ⟨_, gN_one, ?_⟩
        refine s_cut (fun sl g2 => ∃ (w' : List T) (asked : Dss), Wl (12001 + 130 * k + 130) w' ∧ AskIn tab signs asked ∧ sl = [.t (.scr ns), .t (.int c), .o g.length, .t (LS signs), .t (.dic tab.d), .t (.str main), .t (.int (k : Nat)), .t (.dic (ssd asked)), x8] ∧ g2 = g ++ [.lst w']) ?_ ?_
        · walk_at "wr"
          refine c_hoped72 W (n := 12001 + 130 * k) (by omega) ?_
          walk_at "wr"
          refine ⟨g.length, w5, main, scope, rfl, get_app, hw5, hm1, hc, fun w6 asked hw6 ha => ?_⟩
          rw [set_app]
          exact ⟨w6, asked, hw6, ha, rfl, rfl⟩
        rintro sl g2 ⟨w6, asked, hw6, ha, rfl, rfl⟩
        have A := ha.ok W
        refine s_cut (fun sl g2 => sl = [.t (.scr ns), .t (.int c), .o g.length, .t (LS signs), .t (.dic tab.d), .t (.str main), .t (.int (k : Nat)), .t (.dic (ssd asked)), .t (leastF tab main scope asked)] ∧ g2 = g ++ [.lst w6]) ?_ ?_
        · walk_at "wr"
          refine c_least W ?_
          walk_at "wr"
          refine c_stored W ?_
          walk_at "wr"
          refine ⟨main, scope, asked, rfl, A, hm1, hc, ?_⟩
          walk_at "wr"
        rintro sl g2 ⟨rfl, rfl⟩
        have fin : ∀ t, ∃ w' x6 x7 x8, Wl (12001 + 130 * (k + 1)) w' ∧ [SV.t (.scr ns), .t (.int c), .o g.length, .t (LS signs), .t (.dic tab.d), .t (.str main), .t (.int (k : Nat)), .t (.dic (ssd asked)), .t t] = [.t (.scr ns), .t (.int c), .o g.length, .t (LS signs), .t (.dic tab.d), .t (.str main), x6, x7, x8] ∧ g ++ [Obj.lst w6] = g ++ [.lst w'] := fun t => ⟨w6, _, _, _, hw6.mono (by omega), rfl, rfl⟩
        rcases least_is (tab := tab) (main := main) (scope := scope) (asked := asked) with ⟨a, b, hL, hab⟩ | ⟨R, hL, hR⟩ | ⟨l, hL⟩
        · rw [hL]
          walk_at "wr"
          have n1 : a ≠ "order" := by rcases hab with rfl | rfl <;> decide +kernel
          rw [if_neg n1]
          exact fin _
        · have hL2 := hL
          rw [hL]
          walk_at "wr"
          refine c_order_right W ?_
          walk_at "wr"
          refine ⟨main, scope, asked, R, rfl, A, hm1, hc, hL2, ?_⟩
          exact fin _
        · rw [hL]
          walk_at "wr"
          have n1 : (Str.ofString "ring") ≠ Str.ofString "order" := by decide +kernel
          rw [if_neg n1]
          exact fin _
      · rintro sl g2 ⟨w5, x6, x7, x8, hw5, rfl, rfl⟩
        exact ⟨r, _, _, _, _, _, _, _, _, rfl, rfl⟩
  · rintro sl g ⟨r, x1, x2, x3, x4, x5, x6, x7, x8, hr, rfl⟩
    trivial
end Mf


set_option Elab.async false
set_option linter.all false
namespace Sb
open PySem L2
variable {P : Program} {w : World} {K : PySem.W.Frag} {mg : Str → Option Value} {base : Heap}
abbrev spLaw (K : PySem.W.Frag) : Sp := Mf.spLawM K
theorem law_in {H : Hp} {a : Addr} {ns : List Int} (hS : SqL K H a (ns.map V.int)) (hl : ns.length ≤ 63) : spLaw K [.ref a] H (fun v _ => v = .bl true) fun _ _ _ => False := Mf.law_inM hS hl
theorem ok_law (T : Top K mg) : FnOk P w K mg base CX0 12 (He.ga K "law") T.fd_law ps_law (spLaw K) := (Mf.law_of (ok_lawT T) Mf.law72).mono (by decide)
end Sb


set_option Elab.async false
set_option linter.all false
set_option maxRecDepth 100000
set_option maxHeartbeats 0
namespace Sb
open PySem L2 PySem.Spec PyProof.Rows
abbrev R : PySem.W.OpenRow := PySem.W.OpenLaw.row PySem.Challenge.rw_scopebind_k72_least_orders_of_preloads
abbrev hk : PySem.W.Hook := hookB 5 fa fn exB
def ob (s : PySem.W.SharedT) : He.AlD × Bool := (He.obsDG 5 fa fn (HandSHeadRun.getT s), exB (He.frG (HandSHeadRun.getT s) (He.asD (HandSHeadRun.getT s) 5)))
theorem ob_eq (s : PySem.W.SharedT) : ob s = hk.obs s.abs := by
  have e : HandSHeadRun.getT s = s.abs.heap.get? := funext fun a => HandSHeadRun.getT_eq s a
  unfold ob
  rw [e]
  rfl
def names : List PySem.Str := [("LoadError" : PySem.Str), ("NoLibrary" : PySem.Str), ("NoStore" : PySem.Str), ("NoName" : PySem.Str), ("Missing" : PySem.Str), ("NoWishes" : PySem.Str), ("LONGEST" : PySem.Str), ("is_word" : PySem.Str), ("are_words" : PySem.Str), ("closure" : PySem.Str), ("first_definer" : PySem.Str), ("check_wishes" : PySem.Str), ("least_preloads" : PySem.Str), ("elders_of" : PySem.Str), ("required" : PySem.Str), ("arranged" : PySem.Str), ("ring_of" : PySem.Str), ("first_elder" : PySem.Str), ("MOST_NEEDS" : PySem.Str), ("MOST_SYMBOLS" : PySem.Str), ("MOST_LIBRARIES" : PySem.Str), ("Library" : PySem.Str), ("Store" : PySem.Str), ("_law_cell_at" : PySem.Str), ("_law_begin" : PySem.Str), ("_law_draw" : PySem.Str), ("_law_pick" : PySem.Str), ("_law_part" : PySem.Str), ("_law_spelled" : PySem.Str), ("_law_library" : PySem.Str), ("_law_libraries" : PySem.Str), ("_law_stored" : PySem.Str), ("_law_closed" : PySem.Str), ("_law_complete" : PySem.Str), ("_law_definer" : PySem.Str), ("_law_wishes" : PySem.Str), ("_law_global" : PySem.Str), ("_law_met" : PySem.Str), ("_law_ahead" : PySem.Str), ("_law_orders" : PySem.Str), ("_law_order_right" : PySem.Str), ("_law_hoped" : PySem.Str)]
theorem run (w : World) : HandSHeadRun.RunEq R (PySem.W.view R.prog [49]) hk ob 20000 names w := by
  intro os
  kernel_rfl
end Sb
open PySem PySem.W PySem.Calls PyProof.Rows
theorem PySem.Challenge.cw_scopebind_k72_least_orders_of_preloads_holds : PySem.Challenge.rw_scopebind_k72_least_orders_of_preloads.Holds := by
  w_on; o_law
  refine HandSHeadRun.head_any (r := OpenLaw.row PySem.Challenge.rw_scopebind_k72_least_orders_of_preloads) (q := view (OpenLaw.row PySem.Challenge.rw_scopebind_k72_least_orders_of_preloads).prog [49]) (H := Sb.hk) (ob := Sb.ob) (M := 20000) (loose := Sb.names) (d := HandSHeadRun.topDef (OpenLaw.row PySem.Challenge.rw_scopebind_k72_least_orders_of_preloads).prog 49) (kwd := []) Sb.ob_eq
    (by kernel_rfl) (fun s => by kernel_rfl) Sb.run (by kernel_rfl) (by kernel_rfl) (by kernel_rfl) (by rfl) (by first | assumption | decide +kernel) (by decide +kernel) ⟨rfl, rfl, rfl, rfl, rfl, by decide +kernel⟩ ?hw ?hc
  case hw => w_witness2
  case hc =>
    refine L2.walk_ofE (l := PySem.Challenge.rw_scopebind_k72_least_orders_of_preloads) (n := 63) (k := 12) (x := "_law_script") (CX := L2.CX0) rfl (by decide) (by kernel_rfl) ⟨rfl, by decide, by decide⟩ ?F (fun _ _ _ _ z => z)
    intro w mg fa h Y G hmg0
    obtain ⟨K, KX, c, ex⟩ := Y
    have hmg : mg ("law" : PySem.Str) = some (.ref fa) := by
      have e : (HandSHeadRun.topDef (OpenLaw.row PySem.Challenge.rw_scopebind_k72_least_orders_of_preloads).prog 49).name = ("law" : PySem.Str) := by kernel_rfl
      rw [← e]
      exact hmg0
    obtain ⟨T⟩ := Sb.top_ex KX G c ex
    have e := hmg.symm.trans T.g_law
    cases e
    have b := L2.FunD.bindsA (ps := ["_law_script"]) T.F_law fun _ _ _ _ _ _ us hl => match us, hl with | [_], _ => rfl
    exact ⟨K, T.fd_law, Sb.spLaw K, KX, fun s v => b s [v] rfl, fun H a ns hl hO hS => Sb.law_in hS hl, fun base _ _ => Sb.ok_law T⟩

