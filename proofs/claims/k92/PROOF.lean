import PyProof.Rows.All
import Wide.All
import OpenK.AllK
import Wide.FinOn
import KE.KExcIs
import KE.KExcInit
import HandS.ForMost
import HandS.ExcInit
import HandS.ExcValue
import HandS.Defaults
import HandS.ExcIs
import HandS.IsInst
import HandS.MakeKw
import HandS.Head0
import HandS.Head1
import HandS.Head2
import HandS.HeadEnd
import HandS.HeadHook2
import HandS.HeadHook4
import HandS.RaiseMore
import HandS.Zip
import HandS.Walk
import PyProof.ReprRoads
import PySem.Challenge.RW_onlylooks_k92_errors_and_limits
set_option Elab.async false
set_option linter.all false
set_option maxRecDepth 100000
set_option maxHeartbeats 4000000
/-! Exceptions of the program's own as values, 1: made with keywords too, stored into, over any built-in base. -/
namespace Ox
open PySem PySem.W PySem.Calls PyProof.Rows PySem.HandSPX
section
variable {prog : Program} {w : World} {A : Around} {E : Value → Shared → Prop} {R : Result → Shared → Prop} {hp : Heap} {g : Array GenState} {dr : Drawn} {tk : Nat} {os : OsState}
variable {nm ql : Str} {C N fI : Addr} {bs bm : List Value} {hd : Bool} {sn : List Str} {su : List Value} {ab : Bool} {co : Option Bool} {od : Option Addr} {q0 q1 q2 q3 q5 : Option Value} {B nid iid : String} {ps : List Value} {kw : List (Str × Value)}
/-- the state behind __new__ -/
abbrev behindNew (hp : Heap) (C : Addr) (ps : List Value) : Heap := (hp.push (kdv_tup ps)).push (excO C hp.objs.size)
theorem behindNew_keeps {b : Addr} {o : Obj} (e : hp.get? b = some o) : (behindNew hp C ps).get? b = some o := Heap.get?_push_of_some _ (Heap.get?_push_of_some _ e)
theorem behindNew_at : (behindNew hp C ps).get? (hp.objs.size + 1) = some (excO C hp.objs.size) := by heap_get
/-- C(.., k = v) of an own class right below B, with an __init__ of its own: __new__ looks at the places alone, __init__ is handed both -/
theorem made_kw (F : ExcBaseFacts B nid iid bm) (cl : hp.get? C = some (excClassObj nm ql C N bs bm hd sn su ab co od q0 q1 q2 q3 q5 nid))
    (li : Looks (model prog w) hp (typeLookup (.ref C) "__init__") (some (.ref fI))) (lb : ∀ self, Looks (model prog w) hp (bindSpecial (.ref fI) self) (.ref fI, [self])) (hz : ps.length ≤ sizeLine)
    (run : codeAny (model prog w) (A.under (.builtin "type.__call__" ⟨.ref C :: ps, kw⟩)) (.call (.ref fI) ⟨.ref (hp.objs.size + 1) :: ps, kw⟩) (InitBack (hp.objs.size + 1) R) ⟨behindNew hp C ps, g, dr, tk, os⟩) :
    codeAny (model prog w) A (.call (.ref C) ⟨ps, kw⟩) R ⟨hp, g, dr, tk, os⟩ := by
  have ty : (⟨hp, g, dr, tk, os⟩ : Shared).TypeIs (.ref C) "type" := ⟨_, cl, rfl⟩
  have inB : (Value.ref C :: bm).contains (.type B) = true := by rw [List.contains_cons, F.hasB] <;> exact Bool.or_true _
  have inA : (Value.ref C :: bm).contains (.type "AttributeError") = false := by rw [List.contains_cons, F.noAttr] <;> rfl
  have inN : (Value.ref C :: bm).contains (.type "NameError") = false := by rw [List.contains_cons, F.noName] <;> rfl
  have l1 := tc_lookup
  have l2 := tc_bind (.ref C)
  refine codeAny_of_tree (show wpAny _ _ (callAny (.ref C) _) _ _ _ from ?_)
  repeat (any_goals (first
    | assumption
    | with_reducible refine wpAny_loadPart_at cl ?_
    | wp_step))
  refine ⟨rfl, codeAny_call_builtin_at (Code.quiet_builtin _ (by decide +kernel)) entry_typeCall (wpAny_check_type_call_sub cl ?_)⟩
  -- type.__call__: the class's __new__ is the base's
  repeat (first
    | with_reducible refine wpAny_loadPart_at cl ?_
    | with_reducible refine wpAny_madeBy_exc cl ?_
    | wp_step)
  have star := F.noStar
  have ends := F.ends
  refine codeAny_call_builtin_code (Code.quiet_builtin _ F.quiet) ?_
  simp only [checkBuiltinCall, F.newKind, F.newSplit, F.newRow]
  repeat (first
    | refine wpAny_loadPart_at cl ?_
    | (refine wpAny_isSubtype_exc cl ?_; rw [inB])
    | refine wpAny_staticBase_exc cl ?_
    | refine wpAny_madeBy_exc cl ?_
    | simp only [bne_self_eq_false, Bool.false_eq_true, if_false]
    | wp_step)
  refine codeAny_builtinAt F.entry ?_
  unfold Builtin.«BaseException.__new__»
  refine PySem.wpAt_bind (show PySem.wpAt _ _ _ (stack >>= _) _ _ _ from PySem.wpAt_bind (PySem.wpAt_stack fun _ _ => PySem.wpAt_of_wpAny ?_))
  wp_walk
  refine PySem.wpAt_of_wpAny ?_
  rw [F.owner]
  repeat (first
    | with_reducible refine wpAny_madeHere_exc F.canon cl ?_
    | with_reducible refine wpAny_loadPart_at cl ?_
    | (with_reducible refine wpAny_isSubtype_exc cl ?_; first | rw [inB] | rw [inA] | rw [inN])
    | wp_step)
  -- its object is of the class; __init__
  have keep : ∀ b o, hp.get? b = some o → (behindNew hp C ps).get? b = some o := fun b o => behindNew_keeps
  have cl2 := keep _ _ cl
  have me : (behindNew hp C ps).get? (hp.objs.size + 1) = some (excO C hp.objs.size) := behindNew_at
  have inC : (Value.ref C :: bm).contains (.ref C) = true := by simp
  show wpAny _ _ _ _ _ _
  rw [Heap.size_push]
  show wpAny _ _ _ _ _ (⟨behindNew hp C ps, g, dr, tk, os⟩ : Shared)
  show wpAny _ _ (isSubtype (.ref C) (.ref C)) _ _ _
  refine wpAny_isSubtype_exc cl2 ?_
  rw [inC]
  repeat (first
    | with_reducible refine wpAny_loadPart_at me ?_
    | wp_step)
  show wpAny _ _ (typeLookup (.ref C) _) _ _ _
  refine (li.keeps keep).at (wpAny_holding (wpAny_bind (((lb (.ref (hp.objs.size + 1))).keeps keep).at (wpAny_bind (wpAny_call (codeAny_mono run fun r s' z => ?_))))))
  cases r with
  | error e => exact z
  | ok f =>
    cases f with
    | ret v =>
      obtain ⟨rfl, z⟩ := z
      first
        | exact wpAny_pure (wpAny_pure z)
        | (wp_walk; exact z)
    | next => exact False.elim z
    | brk => exact False.elim z
    | cont => exact False.elim z
/-- e.f = v, e an exception without a dict as yet: a new dict is laid -/
theorem store_first {K : Frag} {x : Addr} {ox : Obj} {f : Str} {u : Tok} {v : Value} {bmB : List Value} {t : Addr} (SF : StoreFacts B bmB "object.__setattr__" "object") (X : K.In hp) (hx : hp.get? x = some (excObj C t none .none))
    (ov : excOver K C bmB = true) (no : takerIn K C f = some none) (hh : hasDictIn K C = true)
    (next : ∀ h' t' dx, (∀ b o, b ≠ x → hp.get? b = some o → h'.get? b = some o) → hp.objs.size ≤ dx → dx ≠ x → h'.get? x = some (excObj C t (some dx) .none) → h'.Ns1 dx (fun y => if y = f then some v else none) → R (.ok (.ret .none)) ⟨h', g, dr, t', os⟩) :
    codeAny (model prog w) A (.call (.builtin "object.__setattr__") ⟨[.ref x, .str f u, v], []⟩) R ⟨hp, g, dr, tk, os⟩ := by
  refine osa_openX (od := none) SF X ⟨hx, rfl, rfl, trivial⟩ ov no fun b => ?_
  obtain ⟨cd, hc, hd'⟩ := any_some hh
  have lt : x < hp.objs.size := Heap.lt_size hx
  refine wpAny_bind (wpAny_pure (wpAny_bind (instanceDict_exc hx (looks_clsIn X hc) hd' ?_)))
  show wpAny _ _ (Builtin.ObjectAttr.storeInDict hp.objs.size (.str f u) f v) _ _ _
  have new : ((hp.push (dictOf [] 0)).update x fun o => { o with dict := some hp.objs.size }).get? hp.objs.size = some (dictOf [] 0) := (Heap.get?_update_other _ _ (Nat.ne_of_lt lt)).trans (Heap.get?_push_size hp rfl)
  refine store_in_new ⟨_, #[], _, new, rfl, fun e he => absurd he (by simp), fun _ => rfl⟩ fun h' t' n' same => next h' t' hp.objs.size (fun b o nb ho => ?_) (Nat.le_refl _) (Nat.ne_of_gt lt) ?_ n'
  · have nd : b ≠ hp.objs.size := Nat.ne_of_lt (Heap.lt_size ho)
    exact (same.2 b nd).trans ((Heap.get?_update_other _ _ (Ne.symm nb)).trans (Heap.get?_push_of_some _ ho))
  · exact (same.2 x (Nat.ne_of_lt lt)).trans (Heap.get?_update_self _ (Heap.get?_push_of_some _ hx) rfl)
/-- e.f = v, e with its dict -/
theorem store_more {K : Frag} {x dx : Addr} {f : Str} {u : Tok} {v : Value} {bmB : List Value} {fs : Array Value} {m0 : Str → Option Value} {ns : List Str} (SF : StoreFacts B bmB "object.__setattr__" "object") (X : K.In hp) (hx : hp.get? x = some { cls := .ref C, dict := some dx, data := .fields fs })
    (hn : hp.Ns1 dx m0) (hw : Within m0 ns) (hz : ns.length ≤ 1000) (ov : excOver K C bmB = true) (no : takerIn K C f = some none) (hh : hasDictIn K C = true)
    (next : ∀ h' t', (∀ b o, b ≠ dx → hp.get? b = some o → h'.get? b = some o) → h'.Ns1 dx (fun y => if y = f then some v else m0 y) → R (.ok (.ret .none)) ⟨h', g, dr, t', os⟩) :
    codeAny (model prog w) A (.call (.builtin "object.__setattr__") ⟨[.ref x, .str f u, v], []⟩) R ⟨hp, g, dr, tk, os⟩ := by
  obtain ⟨oD, _, _, hoD, _, _⟩ := hn.count hw
  refine osa_openX (od := some oD) SF X ⟨hx, rfl, rfl, hoD⟩ ov no fun b => ?_
  obtain ⟨cd, hc, hd'⟩ := any_some hh
  refine wpAny_bind (wpAny_pure (wpAny_bind (wpAny_bind (wpAny_loadPart hx (wpAny_bind ((looks_clsIn X hc).here ?_))))))
  rw [hd']
  exact wpAny_pure (a := some dx) (OEX.store_in_old hn hw hz fun h' t' n' same => next h' t' (fun b o nb ho => (same.2 b nb).trans ho) n')
end
end Ox
set_option Elab.async false
set_option linter.all false
set_option maxRecDepth 100000
set_option maxHeartbeats 4000000
/-! Exceptions of the program's own as values, 2: over the layer. -/
namespace L2
open PySem PySem.Spec PyProof.Rows
/-- what the built-in base tells -/
structure ExBase (newId : String) (bm : List Value) : Prop where
  fac : ∃ B initId, ExcBaseFacts B newId initId bm ∧ StoreFacts B bm "object.__setattr__" "object"
/-- what the written part says of the class at C, right below that base -/
structure ExCl (K : PySem.W.Frag) (C : Addr) (newId : String) (bm : List Value) : Prop where
  base : ExBase newId bm
  cls : ∃ nm q N bs sn sub ab col dd k0 k1 k2 k3 k5, K.lookup C = some (excClassObj nm q C N bs bm true sn sub ab col dd k0 k1 k2 k3 k5 newId)
  sa : PySem.W.findIn K (.ref C) "__setattr__" = some (some (.builtin "object.__setattr__"))
  ov : PySem.W.excOver K C bm = true
  kC : PySem.W.keepIn K (.ref C) = true
  hg : PySem.W.findIn K (.ref C) "__getattribute__" = some (some (.builtin "BaseException.__getattribute__"))
  hk : PySem.W.findIn K (.ref C) "__getattr__" = some none
  hs : PySem.W.subIn K (.ref C) (.type "BaseException") = some true
  hd : PySem.W.hasDictIn K C = true
  ha : PySem.W.findIn K (.ref C) "__class__" = some (some (.builtin "object.__class__"))
  hn : PySem.W.specialIn K (.builtin "object.__class__") "__get__" = some (some (.builtin "getset_descriptor.__get__"))
  ht : PySem.W.takesIn K (.builtin "object.__class__") = some true
  hm : PySem.W.mroIn K C (.type "object") = some true
section
variable {X : Cx} {pins : List (Addr × Obj)} {σ : St} {H : Hp} {s : Shared} {a C dx : Addr} {f : Str} {y : V} {u : Value} {fs : List (Str × V)} {Q : Unit → Shared → Prop} {E : Value → Shared → Prop} {A : Around} {newId : String} {bm : List Value}
/-- the object at a has got its dict, at dx -/
theorem Inv.gotDict {h' : Heap} {t' : Nat} (I : Inv X pins σ H s) (e : H a = some (exo a C none)) (k : ∀ b o, b ≠ a → s.heap.get? b = some o → h'.get? b = some o) (dn : s.heap.objs.size ≤ dx)
    (x : ObjOk X.prog X.w (upd (upd H dx (exd dx fs)) a (exo a C (some dx))) h' a (exo a C (some dx))) (d : ObjOk X.prog X.w (upd (upd H dx (exd dx fs)) a (exo a C (some dx))) h' dx (exd dx fs)) :
    Inv X pins σ (upd (upd H dx (exd dx fs)) a (exo a C (some dx))) { s with heap := h', toks := t' } := by
  have nx : H dx = none := I.hok.fresh dn
  have old : ∀ {b : Addr} {o : Obj}, s.heap.get? b = some o → b ≠ dx := fun q => Nat.ne_of_lt (Nat.lt_of_lt_of_le (Heap.lt_size q) dn)
  have not_a : ∀ {b : Addr} {o : HO}, H b = some o → o ≠ exo a C none → b ≠ a := fun q d z => by
    rw [z, e] at q
    exact d (Option.some.inj q).symm
  have free_a : ∀ {b : Addr}, H b = none → b ≠ a := fun n z => by
    rw [z, e] at n
    cases n
  have stays : ∀ {b : Addr} {o : HO}, H b = some o → b ≠ a → upd (upd H dx (exd dx fs)) a (exo a C (some dx)) b = some o := fun q n => by
    rw [upd_ne n, upd_ne (ne_of_none q nx)]
    exact q
  refine I.un ⟨fun b o q n _ _ => k b o (free_a n) q, fun b o q n _ _ => ⟨o.slots, k b o (free_a n) q⟩, fun b o q n _ => ?_, fun b o q _ => ?_, fun b xs q => stays q (not_a q fun z => exo_tup z.symm), fun b o v q => stays q (not_a q fun z => exo_frz z.symm), fun b ps q => ⟨#[], by rw [stays q (not_a q fun z => exo_tbl z.symm)]; simp⟩⟩ fun b o q => ?_
  · rw [upd_ne (free_a n), upd_ne (old q)]
    exact n
  · by_cases z : b = a
    · rw [z]
      exact x.2.1
    · exact ⟨o, k b o z q⟩
  · by_cases za : b = a
    · rw [za, upd_same] at q
      cases q
      rw [za]
      exact x
    · rw [upd_ne za] at q
      by_cases zd : b = dx
      · rw [zd, upd_same] at q
        cases q
        rw [zd]
        exact d
      · rw [upd_ne zd] at q
        have own : ∀ {c : Addr}, H c = some (.own b) → c ≠ a := fun r => not_a r fun z => exo_own z.symm
        exact (I.hok b o q).stay (fun c v hc => k c v (hc.elim (fun z => by rw [z]; exact za) own)) (fun c r => stays r (own r)) fun c xs r => stays r (not_a r fun z => exo_tup z.symm)
theorem exo_get {P : Program} {w : World} {h : Heap} {a C : Addr} {d : Option Addr} (hok : HOk P w H h) (e : H a = some (exo a C d)) : ∃ t : Addr, h.get? a = some (PySem.W.excObj C t d .none) := exo_at hok e
/-- self.f = y, the first one -/
theorem ost_newB (T : ExCl X.K C newId bm) (I : Inv X pins σ H s) (e : H a = some (exo a C none)) (hno : PySem.W.findIn X.K (.ref C) f = some none) (ry : RelV y u)
    (h : ∀ dx s', H dx = none → dx ≠ a → Inv X pins σ (upd (upd H dx (exd dx [(f, y)])) a (exo a C (some dx))) s' → Q () s') : wpAny (model X.prog X.w) A (setAttr (.ref a) f u) Q E s := by
  obtain ⟨B, initId, _, SF⟩ := T.base.fac
  obtain ⟨t, ho⟩ := exo_get I.hok e
  obtain ⟨hp, g, dr, tk, os⟩ := s
  refine PySem.W.set_plain I.kIn (od := none) ⟨ho, rfl, rfl, trivial⟩ T.sa (Ox.store_first (ox := default) SF I.kIn ho T.ov (NoAttr.taker hno) T.hd fun h' t' dx k dn dne hx hn => h dx _ (I.hok.fresh dn) dne ?_)
  exact I.gotDict e k dn (exo_ok hx) (exd_ok hn (relO_put (fs := []) ry fun _ => True.intro))
/-- self.f = y, a further one -/
theorem ost_oldB (T : ExCl X.K C newId bm) (I : Inv X pins σ H s) (e : H a = some (exo a C (some dx))) (ed : H dx = some (exd dx fs)) (hl : fs.length ≤ 900) (hno : PySem.W.findIn X.K (.ref C) f = some none) (ry : RelV y u)
    (h : ∀ s', Inv X pins σ (upd H dx (exd dx ((f, y) :: fs))) s' → Q () s') : wpAny (model X.prog X.w) A (setAttr (.ref a) f u) Q E s := by
  obtain ⟨B, initId, _, SF⟩ := T.base.fac
  obtain ⟨t, ho⟩ := exo_get I.hok e
  obtain ⟨mA, hns, rel⟩ := exd_at I.hok ed
  have hw := within_of rel
  obtain ⟨hp, g, dr, tk, os⟩ := s
  obtain ⟨oD, _, _, hoD, _, _⟩ := hns.count hw
  refine PySem.W.set_plain I.kIn (od := some oD) ⟨ho, rfl, rfl, hoD⟩ T.sa (Ox.store_more SF I.kIn ho hns hw (by rw [List.length_map]; omega) T.ov (NoAttr.taker hno) T.hd fun h' t' k hn => h _ ?_)
  have there : ∃ o, h'.get? dx = some o := let ⟨o, _, _, z, _⟩ := hn; ⟨o, z⟩
  exact I.write (x := dx) (e := dx) (by rw [ed]; exact True.intro) (.inl rfl) k there (exd_ok hn (relO_put ry rel))
end
/-- self.f = e in such a class's __init__ -/
def tOstB (K : PySem.W.Frag) (f : Str) (to te : TE) : TS := fun D σ H => te σ H fun y H1 => to σ H1 fun x H2 => ∃ (a C : Addr) (newId : String) (bm : List Value), x = .ref a ∧ ExCl K C newId bm ∧ PySem.W.findIn K (.ref C) f = some none ∧
  ((H2 a = some (exo a C none) ∧ ∀ dx, H2 dx = none → dx ≠ a → D.nx σ (upd (upd H2 dx (exd dx [(f, y)])) a (exo a C (some dx)))) ∨
    ∃ (dx : Addr) (fs : List (Str × V)), H2 a = some (exo a C (some dx)) ∧ H2 dx = some (exd dx fs) ∧ fs.length ≤ 900 ∧ D.nx σ (upd H2 dx (exd dx ((f, y) :: fs))))
theorem ps_ostB {X : Cx} {o e : Expr} {to te : TE} {f : Str} {p' pos : Pos} (ho : PE X o to) (he : PE X e te) (hs : swapsWith e (some (.Attribute o f p')) pos.line X.env = pure false := by rfl) : PS X (.Assign [.Attribute o f p'] e pos) (tOstB X.K f to te) := by
  refine ⟨fun pins s σ H D I h => plainObj_wpAny_Assign_Attribute (thn (he.run pins s σ H _ I h) fun v s1 ⟨y, H1, I1, r1, q1⟩ => thn (ho.run pins s1 σ H1 _ I1 q1) fun u s2 ⟨x, H2, I2, r2, q2⟩ => ?_) hs⟩
  obtain ⟨a, C, nid, bm, ex, T, hno, q⟩ := q2
  subst ex
  cases (show u = Value.ref a from r2)
  rcases q with ⟨ea, q⟩ | ⟨dx, fs, ea, ed, hl, q⟩
  · exact ost_newB T I2 ea hno r1 fun dx s' n ne J => ⟨σ, _, J, q dx n ne⟩
  · exact ost_oldB T I2 ea ed hl hno r1 fun s' J => ⟨σ, _, J, q⟩
end L2
set_option Elab.async false
set_option linter.all false
set_option maxRecDepth 100000
set_option maxHeartbeats 4000000
namespace L2
open PySem PySem.Spec PyProof.Rows
/-! ### C(..), C an own exception class with its own __init__, as a value -/
def tMkE (C : Addr) (n m : Nat) (sp : Sp) (gV : List V → List V → List V) (t tk : TA) : TE := fun σ H Q => t σ H fun vs H1 => tk σ H1 fun zs H2 => vs.length = n ∧ zs.length = m ∧ ∀ a, H2 a = none →
  sp (gV (.ref a :: vs) zs) (upd H2 a (exo a C none)) (fun v H3 => v = .non ∧ Q (.ref a) H3) (fun _ _ _ => False)
section
variable {X : Cx} {CX : CXT} {k n : Nat} {fI C : Addr} {fd : FuncData} {ps ks : List Str} {sp : Sp} {x : Str} {p pos : Pos} {e : Expr} {es : List Expr} {kws : List Keyword} {t tk : TA} {g : List Value → List Value → List Value} {gV : List V → List V → List V} {newId : String} {bm : List Value}
theorem run_mkE {pins : List (Addr × Obj)} {σ : St} {H : Hp} {s : Shared} {Q : VK} {us ws : List Value} {vs zs : List V} (T : ExCl X.K C newId bm) (iC : PySem.W.findIn X.K (.ref C) "__init__" = some (some (.ref fI))) (tI : PySem.W.typeIn X.K (.ref fI) = some (.type "function"))
    (F : FnOk X.prog X.w X.K X.mg X.base CX k fI fd ps sp) (hr : Room (k + 1) X.A) (hb : KBn X.K fd ps (n + 1) ks g gV) (hx : Passes CX X (fun _ _ _ => False))
    (I : Inv X pins σ H s) (r : Vals vs us) (rz : Vals zs ws) (l1 : vs.length = n) (l2 : zs.length = ks.length) (hn : n ≤ 1000)
    (h : ∀ a, H a = none → sp (gV (.ref a :: vs) zs) (upd H a (exo a C none)) (fun v H2 => v = .non ∧ Q (.ref a) H2) (fun _ _ _ => False)) :
    wpAny (model X.prog X.w) X.A (call (.ref C) us (ks.zip ws)) (EP X pins σ Q) X.xe s := by
  obtain ⟨nm, q, N, bs, sn, sub, ab, col, dd, k0, k1, k2, k3, k5, hC⟩ := T.cls
  obtain ⟨B, initId, Fb, _⟩ := T.base.fac
  obtain ⟨hp, g', dr, tk', os⟩ := s
  have hsz : hp.objs.size ≤ hp.objs.size + 1 := Nat.le_succ _
  have hnn : H (hp.objs.size + 1) = none := I.hok.fresh hsz
  have hq := h (hp.objs.size + 1) hnn
  have kk : ∀ b o, hp.get? b = some o → ((hp.push (PySem.W.kdv_tup us)).push (PySem.HandSPX.excO C hp.objs.size)).get? b = some o := fun b o e => Heap.get?_push_of_some _ (Heap.get?_push_of_some _ e)
  have hget : ((hp.push (PySem.W.kdv_tup us)).push (PySem.HandSPX.excO C hp.objs.size)).get? (hp.objs.size + 1) = some (PySem.HandSPX.excO C hp.objs.size) := by heap_get
  have I2 : Inv X pins σ (upd H (hp.objs.size + 1) (exo (hp.objs.size + 1) C none)) ⟨(hp.push (PySem.W.kdv_tup us)).push (PySem.HandSPX.excO C hp.objs.size), g', dr, tk', os⟩ :=
    I.laid (t' := tk') (a := hp.objs.size + 1) (o := exo (hp.objs.size + 1) C none) (h' := (hp.push (PySem.W.kdv_tup us)).push (PySem.HandSPX.excO C hp.objs.size)) kk hsz (exo_ok hget)
  have r1 : Vals (V.ref (hp.objs.size + 1) :: vs) (Value.ref (hp.objs.size + 1) :: us) := .cons rfl r
  have r2 := hb.rel r1 rz
  have e1 : (Value.ref (hp.objs.size + 1) :: us).length = n + 1 := r1.length.symm.trans (congrArg Nat.succ l1)
  have e2 : ws.length = ks.length := rz.length.symm.trans l2
  have hus : us.length ≤ sizeLine := by
    rw [← Paired.length r, l1, sizeLine_eq]
    omega
  refine wpAny_call (Ox.made_kw Fb (I.kIn _ _ hC) (PySem.W.looks_findIn I.kIn iC) (fun self => PySem.W.bind_fn I.kIn self tI) hus
    (codeAny_mono (F.run _ X.stack _ _ ⟨Value.ref (hp.objs.size + 1) :: us, ks.zip ws⟩ (g (Value.ref (hp.objs.size + 1) :: us) ws) _ _ (fun _ _ _ => False) (hr.make C us (ks.zip ws)) (I2.env0.make C us (ks.zip ws)) (hb.to _ (Value.ref (hp.objs.size + 1) :: us) ws I2.kIn e1 e2) r2 hq) fun r s' hq' => ?_))
  cases r with
  | error e => exact hx pins σ _ _ e s' I2 hq'
  | ok fl =>
    cases fl with
    | ret u =>
      obtain ⟨v, H', I3, rv, ev, q3⟩ := I2.after hq'
      subst ev
      exact ⟨rv, ⟨V.ref (hp.objs.size + 1), H', I3, rfl, q3⟩⟩
    | next => exact False.elim hq'
    | brk => exact False.elim hq'
    | cont => exact False.elim hq'
/-- every parameter is given by its place -/
theorem Binds.kbn {K : PySem.W.Frag} {m : Nat} (h : Binds K fd ps []) (hm : ps.length = m) : KBn K fd ps m [] (fun us _ => us) (fun vs _ => vs) :=
  ⟨fun s us ws X l1 l2 => by
    have z := h s us X (by rw [List.append_nil, l1, hm])
    rw [List.append_nil] at z
    exact z, fun r _ => r⟩
/-- C(e, ..) -/
theorem pe_mkE (T : ExCl X.K C newId bm) (iC : PySem.W.findIn X.K (.ref C) "__init__" = some (some (.ref fI))) (tI : PySem.W.typeIn X.K (.ref fI) = some (.type "function"))
    (F : FnOk X.prog X.w X.K X.mg X.base CX k fI fd ps sp) (hr : Room (k + 1) X.A) (hg : Gl X x) (hm : X.mg x = some (.ref C)) (hb : Binds X.K fd ps []) (hx : Passes CX X (fun _ _ _ => False)) (ha : PA X (e :: es) t) (hl : ps.length = n + 1 := by rfl) (hn : n ≤ 1000 := by decide)
    (hdb : (x == ("__debug__" : Str)) = false := by decide) (he : starEach (e :: es) X.env = (false, eval e X.env) :: starEach es X.env := by rfl) (hpl : (backTo pos (starEach es X.env)).any (·.1) = false := by rfl) :
    PE X (.Call (.Name x p) (e :: es) [] pos) (tMkE C n 0 sp (fun vs _ => vs) t tNil) := by
  refine ⟨fun pins s σ H Q I h => ?_⟩
  refine wpAny_Call_Name_kw (ld_glob I hg hm ?_ hdb)
  refine PySem.W.callWith_K (h₀ := X.base) I.ok.mod.kin T.kC (thn (ha.run pos pins s σ H _ I h) fun us s1 ⟨vs, H1, I1, r, q⟩ => ⟨I1.kIn, ?_⟩) he hpl
  obtain ⟨l1, _, q2⟩ := q
  exact run_mkE (ks := []) (ws := []) (zs := []) T iC tI F hr (hb.kbn hl) hx I1 r .nil l1 rfl hn q2
/-- C(k = v, ..) -/
theorem pe_mkEK (T : ExCl X.K C newId bm) (iC : PySem.W.findIn X.K (.ref C) "__init__" = some (some (.ref fI))) (tI : PySem.W.typeIn X.K (.ref fI) = some (.type "function"))
    (F : FnOk X.prog X.w X.K X.mg X.base CX k fI fd ps sp) (hr : Room (k + 1) X.A) (hg : Gl X x) (hm : X.mg x = some (.ref C)) (hb : KBn X.K fd ps 1 ks g gV) (hx : Passes CX X (fun _ _ _ => False)) (hkw : PK X kws tk)
    (hall : (backToKw pos (keywordEach kws X.env)).all (·.1.isSome) = true := by rfl) (hks : (backToKw pos (keywordEach kws X.env)).filterMap (·.1) = ks := by rfl) (hdb : (x == ("__debug__" : Str)) = false := by decide)
    (hpl : ((backTo pos (starEach [] X.env)).any (·.1) || (backToKw pos (keywordEach kws X.env)).any (·.1.isNone)) = false := by rfl) :
    PE X (.Call (.Name x p) [] kws pos) (tMkE C 0 ks.length sp gV tNil tk) := by
  refine ⟨fun pins s σ H Q I h => ?_⟩
  refine wpAny_Call_Name_kw (ld_glob I hg hm ?_ hdb)
  refine PySem.W.callWith_KW0 (h₀ := X.base) I.ok.mod.kin T.kC hall ?_ hpl
  refine thn (hkw.run pos pins s σ H _ I h) fun ws s2 ⟨zs, H2, I2, rz, l1, l2, q2⟩ => ⟨I2.kIn, ?_⟩
  rw [hks]
  exact run_mkE (us := []) (vs := []) T iC tI F hr hb hx I2 .nil rz rfl l2 (by decide) q2
/-- C(), a class without an __init__ of its own -/
theorem pe_mkE0 {B initId : String} (Fb : ExcBaseFacts B newId initId bm) (q : PySem.W.excIn X.K C bm newId = true) (T : PySem.W.keepIn X.K (.ref C) = true) (hg : Gl X x) (hm : X.mg x = some (.ref C)) (hdb : (x == ("__debug__" : Str)) = false := by decide) :
    PE X (.Call (.Name x p) [] [] pos) (fun _ H Q => ∀ a, H a = none → Q (.ref a) (upd H a (exo a C none))) := by
  refine ⟨fun pins s σ H Q I h => ?_⟩
  refine wpAny_Call_Name_kw (ld_glob I hg hm ?_ hdb)
  refine PySem.W.callWith_K0 I.kIn T ?_
  obtain ⟨bm', N, nm, qn, bs, hdct, sn, sub, ab, col, dd, k0, k1, k2, k3, k5, mN, hC, hN, hni, Tt⟩ := exc_obj I.kIn q
  show wpAny _ _ (call (.ref C) []) _ _ _
  refine wpAny_call_exc_subT Fb Tt hC hN hni (fun h' a hm => ?_) (by show 0 ≤ sizeLine; exact Nat.zero_le _)
  have hn : H a = none := I.hok.gone hm.new
  obtain ⟨t, ht, _, _⟩ := hm.there
  exact ⟨.ref a, upd H a (exo a C none), I.laidN hm.keeps hm.new hn (exo_ok ht), rfl, h a hn⟩
end
/-! ### such an object read -/
/-- at a an exception of the class at C with these fields, the last one first -/
def ExAt (H : Hp) (v : V) (C : Addr) (fs : List (Str × V)) : Prop := ∃ a, v = .ref a ∧ ((fs = [] ∧ H a = some (exo a C none)) ∨ ∃ d, H a = some (exo a C (some d)) ∧ H d = some (exd d fs))
theorem ExAt.same {H H' : Hp} {v : V} {C : Addr} {fs : List (Str × V)} (h : ExAt H v C fs) (s : Same H H') : ExAt H' v C fs := by
  obtain ⟨a, e, h⟩ := h
  rcases h with ⟨h1, h2⟩ | ⟨d, h1, h2⟩
  · exact ⟨a, e, .inl ⟨h1, s _ _ h2⟩⟩
  · exact ⟨a, e, .inr ⟨d, s _ _ h1, s _ _ h2⟩⟩
section
variable {X : Cx} {C : Addr} {newId : String} {bm : List Value}
/-- e.f -/
def tFldE (K : PySem.W.Frag) (f : Str) (te : TE) : TE := fun σ H Q => te σ H fun x H1 => ∃ (C : Addr) (newId : String) (bm : List Value) (fs : List (Str × V)) (v : V), ExAt H1 x C fs ∧ ExCl K C newId bm ∧ PySem.W.findIn K (.ref C) f = some none ∧ fs.lookup f = some v ∧ Q v H1
theorem pe_fldE {e : Expr} {te : TE} {f : Str} {pos : Pos} (he : PE X e te) (hb : attributeBase e f X.env (eval e X.env) = eval e X.env := by rfl) : PE X (.Attribute e f pos) (tFldE X.K f te) := by
  refine ⟨fun pins s σ H Q I h => ?_⟩
  refine attr_of hb (thn (he.run pins s σ H _ I h) fun u s1 hh => ?_)
  obtain ⟨x, H1, I1, rx, C, nid, bm, fs, v, ha, T, hno, l, q⟩ := hh
  obtain ⟨a, ex, ha⟩ := ha
  subst ex
  obtain rfl : u = Value.ref a := rx
  rcases ha with ⟨h1, _⟩ | ⟨d, h1, h2⟩
  · subst h1
    cases l
  · obtain ⟨t1, ho⟩ := exo_at I1.hok h1
    obtain ⟨mA, hns, hr⟩ := exd_at I1.hok h2
    obtain ⟨od, hod, hl⟩ := lookIn_ns hns
    obtain ⟨u, hu, ru⟩ := RelO.some_of (v := v) (o := mA f) (by rw [← l]; exact hr f)
    have J : PySem.W.InstAt s1.heap a _ C (some od) := ⟨ho, rfl, rfl, hod⟩
    exact PySem.HandSPX.exc_get I1.kIn J T.hg T.hk T.hs (PySem.W.findObj_own T.hd hno rfl (by rw [hl, hu])) (handed_of ru) ⟨v, H1, I1.tok _, ru, q⟩
/-- isinstance(e, c) -/
def rIsE2 (K : PySem.W.Frag) : List V → Hp → VK → Prop := fun xs H Q => ∃ (x c : V) (cv : Value) (C : Addr) (newId : String) (bm : List Value) (fs : List (Str × V)) (b : Bool), xs = [x, c] ∧ ClsV c cv ∧ ExAt H x C fs ∧ ExCl K C newId bm ∧ PySem.W.kitOne K (.ref C) cv = some b ∧ Q (.bl b) H
def rIsET (K : PySem.W.Frag) : List V → Hp → VK → Prop := fun xs H Q => ∃ (x : V) (tp : Addr) (cs : List V) (us : List Value) (C : Addr) (newId : String) (bm : List Value) (fs : List (Str × V)) (b : Bool), xs = [x, .ref tp] ∧ H tp = some (.tup cs) ∧ Paired ClsV cs us ∧ ExAt H x C fs ∧ ExCl K C newId bm ∧ PySem.W.kitAny K (.ref C) us = some b ∧ Q (.bl b) H
theorem ExCl.kit {K : PySem.W.Frag} {x : Addr} {ox : Obj} {od : Option Obj} (T : ExCl K C newId bm) : PySem.W.KitX K (.ref x) (.ref C) (fun h => PySem.W.InstAt h x ox C od) := by
  obtain ⟨cd, hcl, _⟩ := PySem.W.any_some T.hd
  exact PySem.W.kitx_exc (by rw [hcl] <;> rfl) T.hg T.hk T.hs T.ha T.hn T.ht T.hm
theorem ExAt.inst {pins : List (Addr × Obj)} {σ : St} {H : Hp} {s : Shared} {x : V} {u : Value} {fs : List (Str × V)} (I : Inv X pins σ H s) (h : ExAt H x C fs) (r : RelV x u) : ∃ a ox od, u = .ref a ∧ PySem.W.InstAt s.heap a ox C od := by
  obtain ⟨a, ex, h⟩ := h
  subst ex
  obtain rfl : u = Value.ref a := r
  rcases h with ⟨_, h1⟩ | ⟨d, h1, h2⟩
  · obtain ⟨t1, ho⟩ := exo_at I.hok h1
    exact ⟨a, _, none, rfl, ho, rfl, rfl, trivial⟩
  · obtain ⟨t1, ho⟩ := exo_at I.hok h1
    obtain ⟨mA, hns, hr⟩ := exd_at I.hok h2
    obtain ⟨od, hod, hl⟩ := lookIn_ns hns
    exact ⟨a, _, some od, rfl, ho, rfl, rfl, hod⟩
theorem call_isE2 : CallR X (.builtin "isinstance") (rIsE2 X.K) := by
  intro pins s σ H xs us Q I r h
  obtain ⟨x, c, cv, C, nid, bm, fs, b, rfl, k, ha, T, e, q⟩ := h
  obtain ⟨u1, u2, rfl, r1, r2⟩ := vals2 r
  have e2 := k.eq r2
  subst e2
  obtain ⟨a, ox, od, rfl, J⟩ := ha.inst I r1
  exact PySem.W.kia_one T.kit I.kIn J e (fun z => nomatch z) fun tk => ⟨.bl b, H, I.tok tk, rfl, q⟩
theorem call_isET : CallR X (.builtin "isinstance") (rIsET X.K) := by
  intro pins s σ H xs us Q I r h
  obtain ⟨x, tp, cs, ws, C, nid, bm, fs, b, rfl, hT, k, ha, T, e, q⟩ := h
  obtain ⟨u1, u2, rfl, r1, r2⟩ := vals2 r
  cases (show u2 = Value.ref tp from r2)
  obtain ⟨a, ox, od, rfl, J⟩ := ha.inst I r1
  obtain ⟨_, its, rv, o, h1, h2, n, h3⟩ := (show ObjOk X.prog X.w H s.heap tp (.tup cs) from I.hok tp _ hT)
  have e3 := ClsV.all k rv
  subst e3
  obtain ⟨oc, od', dt, sl⟩ := o
  simp only at h2 h3
  subst h2 h3
  exact PySem.W.kia_tup T.kit I.kIn J h1 e (fun z => nomatch z) fun tk => ⟨.bl b, H, I.tok tk, rfl, q⟩
end
end L2
set_option Elab.async false
set_option linter.all false
set_option maxRecDepth 100000
set_option maxHeartbeats 4000000
namespace Oh
open PySem PySem.Spec PyProof.Rows L2
/-! ### the head's facts: the defs, and one Bool of the written part -/
def frag (n : Nat) (g : Addr → Option Obj) : PySem.W.Frag := He.frG g (sysModules :: He.asD g n)
structure Says (fa : List He.Fa) (fn : List He.DefD) (ex : PySem.W.Frag → Bool) (K : PySem.W.Frag) : Prop where
  d : He.SaysD fa fn K
  more : ex K = true
def obsO (n : Nat) (fa : List He.Fa) (fn : List He.DefD) (ex : PySem.W.Frag → Bool) (g : Addr → Option Obj) : He.AlD × Bool := (He.obsD fa fn (frag n g), ex (frag n g))
def hookO (n : Nat) (fa : List He.Fa) (fn : List He.DefD) (ex : PySem.W.Frag → Bool) : PySem.W.Hook where
  α := He.AlD × Bool
  obs s := obsO n fa fn ex s.heap.get?
  val _ := (He.valD fn, true)
  says _ h := ∃ K : PySem.W.Frag, K.In h ∧ Says fa fn ex K
  of _ s e := ⟨frag n s.heap.get?, He.frG_in, congrArg (fun z : He.AlD × Bool => z.1) e, congrArg (fun z : He.AlD × Bool => z.2) e⟩
  keeps _ _ _ h k := by
    obtain ⟨K, hK, c⟩ := h
    exact ⟨K, PySem.W.Frag.In.keeps hK k, c⟩
theorem obsO_eq {n : Nat} {fa : List He.Fa} {fn : List He.DefD} {ex : PySem.W.Frag → Bool} {g : Addr → Option Obj} {s : Shared} (h : ∀ a, g a = s.heap.get? a) : obsO n fa fn ex g = (hookO n fa fn ex).obs s := by
  have e := funext h
  subst e
  rfl
/-! ### an own exception class, read off the written part -/
def exB (K : PySem.W.Frag) (C : Addr) (newId : String) (bm : List Value) : Bool := match K.lookup C with
  | some ⟨.type ty, _, .cls cd, sl⟩ => (match cd.mro, sl.toList with
    | .ref D :: r, [_, _, _, _, some (.builtin n), _] => decide (ty = "type") && (decide (D = C) && (decide (r = bm) && (decide (n = newId) && (!cd.hasDel && cd.hasDict))))
    | _, _ => false)
  | _ => false
theorem exB_ok {K : PySem.W.Frag} {C : Addr} {newId : String} {bm : List Value} (h : exB K C newId bm = true) :
    ∃ nm q N bs sn sub ab col dd k0 k1 k2 k3 k5, K.lookup C = some (excClassObj nm q C N bs bm true sn sub ab col dd k0 k1 k2 k3 k5 newId) := by
  unfold exB at h
  split at h
  · rename_i ty dd cd sl ho
    split at h
    · rename_i D r k0 k1 k2 k3 n k5 hm hs
      simp only [Bool.and_eq_true, decide_eq_true_eq, Bool.not_eq_true'] at h
      obtain ⟨rfl, rfl, rfl, rfl, h5, h6⟩ := h
      obtain ⟨nm, bs, mro, ns, qn, hd, sn, sub, ab, col, del⟩ := cd
      dsimp only at hm h5 h6
      subst hm h5 h6
      have e : sl = #[k0, k1, k2, k3, some (.builtin n), k5] := by
        rw [← Array.toArray_toList (xs := sl), hs]
      subst e
      exact ⟨nm, qn, ns, bs, sn, sub, ab, col, dd, k0, k1, k2, k3, k5, ho⟩
    · cases h
  · cases h
def exAll (K : PySem.W.Frag) (C : Addr) (newId : String) (bm : List Value) : Bool :=
  exB K C newId bm && (He.eqO (PySem.W.findIn K (.ref C) "__setattr__") (some (some (.builtin "object.__setattr__"))) && (PySem.W.excOver K C bm && (PySem.W.keepIn K (.ref C)
    && (He.eqO (PySem.W.findIn K (.ref C) "__getattribute__") (some (some (.builtin "BaseException.__getattribute__"))) && (He.eqO (PySem.W.findIn K (.ref C) "__getattr__") (some none)
    && (decide (PySem.W.subIn K (.ref C) (.type "BaseException") = some true) && (PySem.W.hasDictIn K C && (He.eqO (PySem.W.findIn K (.ref C) "__class__") (some (some (.builtin "object.__class__")))
    && (He.eqO (PySem.W.specialIn K (.builtin "object.__class__") "__get__") (some (some (.builtin "getset_descriptor.__get__"))) && (decide (PySem.W.takesIn K (.builtin "object.__class__") = some true)
    && decide (PySem.W.mroIn K C (.type "object") = some true)))))))))))
theorem exAll_ok {K : PySem.W.Frag} {C : Addr} {newId : String} {bm : List Value} (b : ExBase newId bm) (h : exAll K C newId bm = true) : ExCl K C newId bm := by
  unfold exAll at h
  simp only [Bool.and_eq_true, decide_eq_true_eq] at h
  obtain ⟨h0, h1, hv, h2, h3, h4, h5, h6, h7, h8, h9, h10⟩ := h
  exact ⟨b, exB_ok h0, He.eqO_ok h1, hv, h2, He.eqO_ok h3, He.eqO_ok h4, h5, h6, He.eqO_ok h7, He.eqO_ok h8, h9, h10⟩
/-- the class x has a def of its own for __init__, and no name f -/
def iniB (K : PySem.W.Frag) (x : Str) : Bool := He.eqO (PySem.W.findIn K (.ref (He.ga K x)) "__init__") (some (some (.ref (He.ma K (He.ga K x) "__init__")))) && decide (PySem.W.typeIn K (.ref (He.ma K (He.ga K x) "__init__")) = some (.type "function"))
def noB (K : PySem.W.Frag) (C : Addr) (f : Str) : Bool := He.eqO (PySem.W.findIn K (.ref C) f) (some none)
end Oh
set_option Elab.async false
set_option linter.all false
set_option maxRecDepth 100000
set_option maxHeartbeats 4000000
namespace Oc
open PySem PySem.Spec PyProof.Rows L2
/-! ### a def that may be called by its name: it keeps its promise, it is bound by its places -/
structure Cal (P : Program) (w : World) (K : PySem.W.Frag) (mg : Str → Option Value) (base : Heap) (k : Nat) (x : Str) (ps : List Str) (sp : Sp) : Prop where
  ex : ∃ (f : Addr) (fd : FuncData), FnOk P w K mg base CX0 k f fd ps sp ∧ Binds K fd ps [] ∧ PySem.W.keepIn K (.ref f) = true ∧ mg x = some (.ref f)
theorem pe_cal {X : Cx} {k : Nat} {ps : List Str} {sp : Sp} {x : Str} {p pos : Pos} {e : Expr} {es : List Expr} {t : TA} (C : Cal X.prog X.w X.K X.mg X.base k x ps sp) (hr : Room k X.A) (ha : PA X (e :: es) t) (hg : Gl X x := by rfl)
    (hdb : (x == ("__debug__" : Str)) = false := by decide) (he : starEach (e :: es) X.env = (false, eval e X.env) :: starEach es X.env := by rfl) (hpl : (backTo pos (starEach es X.env)).any (·.1) = false := by rfl) :
    PE X (.Call (.Name x p) (e :: es) [] pos) (tCall sp [] E0 t) := by
  obtain ⟨f, fd, F, b, kp, hm⟩ := C.ex
  exact pe_call F hr hg hm kp b .nil pass0 ha hdb he hpl
theorem Cal.mk_of {P : Program} {w : World} {K : PySem.W.Frag} {mg : Str → Option Value} {base : Heap} {k : Nat} {x : Str} {ps : List Str} {sp : Sp} {d : He.DefD} {fd : FuncData}
    (F : FunD K d.name d.qual d.params d.body d.scope [] [] (He.fAd K d.at_) fd) (ok : FnOk P w K mg base CX0 k (He.fAd K d.at_) fd ps sp) (b : Binds K fd ps []) (g : mg x = some (.ref (He.fAd K d.at_))) : Cal P w K mg base k x ps sp :=
  ⟨_, fd, ok, b, F.kp, g⟩
/-! ### data at any depth: none, bools, ints, texts, lists, tuples, dicts -/
def kD : Key → PyData
  | .inl i => .int i
  | .inr x => .str x
mutual
inductive Dq (K : PySem.W.Frag) (H : Hp) : V → PyData → Prop
  | non : Dq K H .non .none
  | bl (b : Bool) : Dq K H (.bl b) (.bool b)
  | int (i : Int) : Dq K H (.int i) (.int i)
  | str (x : Str) : Dq K H (.str x) (.str x)
  | lst {a : Addr} {xs : List V} {ds : List PyData} : SqL K H a xs → DqAll K H xs ds → Dq K H (.ref a) (.list ds)
  | tup {a : Addr} {xs : List V} {ds : List PyData} : SqT K H a xs → DqAll K H xs ds → Dq K H (.ref a) (.tuple ds)
  | dic {a : Addr} {kvs : List (Key × V)} {ds : List (PyData × PyData)} : Rd H a (.dK kvs) → DqKv K H kvs ds → Dq K H (.ref a) (.dict ds)
inductive DqAll (K : PySem.W.Frag) (H : Hp) : List V → List PyData → Prop
  | nil : DqAll K H [] []
  | cons {v : V} {vs : List V} {d : PyData} {ds : List PyData} : Dq K H v d → DqAll K H vs ds → DqAll K H (v :: vs) (d :: ds)
inductive DqKv (K : PySem.W.Frag) (H : Hp) : List (Key × V) → List (PyData × PyData) → Prop
  | nil : DqKv K H [] []
  | cons {k : Key} {v : V} {vs : List (Key × V)} {d : PyData} {ds : List (PyData × PyData)} : Dq K H v d → DqKv K H vs ds → DqKv K H ((k, v) :: vs) ((kD k, d) :: ds)
end
theorem Rd.same {H H' : Hp} {a : Addr} {u : HO} (r : Rd H a u) (s : Same H H') : Rd H' a u := by
  rcases r with r | ⟨o, r⟩
  · exact .inl (s _ _ r)
  · exact .inr ⟨o, s _ _ r⟩
theorem SqT.same {K : PySem.W.Frag} {H H' : Hp} {a : Addr} {xs : List V} (h : SqT K H a xs) (e : Same H H') : SqT K H' a xs := by
  rcases h with (h | ⟨o, h⟩) | h
  · exact .inl (.inl (e _ _ h))
  · exact .inl (.inr ⟨o, e _ _ h⟩)
  · exact .inr h
mutual
theorem Dq.same {K : PySem.W.Frag} {H H' : Hp} (s : Same H H') : ∀ (d : PyData) (v : V), Dq K H v d → Dq K H' v d
  | .none, _, h => by cases h; exact .non
  | .bool b, _, h => by cases h; exact .bl b
  | .int i, _, h => by cases h; exact .int i
  | .str x, _, h => by cases h; exact .str x
  | .list ds, _, h => by cases h with | lst a b => exact .lst (s.seq a) (DqAll.same s ds _ b)
  | .tuple ds, _, h => by cases h with | tup a b => exact .tup (SqT.same a s) (DqAll.same s ds _ b)
  | .dict ds, _, h => by cases h with | dic a b => exact .dic (Rd.same a s) (DqKv.same s ds _ b)
theorem DqAll.same {K : PySem.W.Frag} {H H' : Hp} (s : Same H H') : ∀ (ds : List PyData) (vs : List V), DqAll K H vs ds → DqAll K H' vs ds
  | [], _, h => by cases h; exact .nil
  | d :: ds, _, h => by cases h with | cons a b => exact .cons (Dq.same s d _ a) (DqAll.same s ds _ b)
theorem DqKv.same {K : PySem.W.Frag} {H H' : Hp} (s : Same H H') : ∀ (ds : List (PyData × PyData)) (vs : List (Key × V)), DqKv K H vs ds → DqKv K H' vs ds
  | [], _, h => by cases h; exact .nil
  | (_, d) :: ds, _, h => by cases h with | cons a b => exact .cons (Dq.same s d _ a) (DqKv.same s ds _ b)
end
/-- where the module table stands is written down, and it is a dict -/
def sysB (K : PySem.W.Frag) : Bool := match K.lookup sysModules with
  | some ⟨.type c, _, .dict _ _, _⟩ => decide (c = "dict")
  | _ => false
theorem sysB_ok {K : PySem.W.Frag} (h : sysB K = true) : ∃ o, K.lookup sysModules = some o ∧ o.cls = .type "dict" := by
  unfold sysB at h
  split at h
  · rename_i c dd es n sl ho
    exact ⟨_, ho, by rw [of_decide_eq_true h]⟩
  · cases h
end Oc
set_option Elab.async false
set_option linter.all false
set_option maxRecDepth 100000
set_option maxHeartbeats 4000000
namespace Oc
open PySem PySem.Spec PyProof.Rows L2
/-! ### the law's own def, called by the claim's caller: no repr is under way there -/
def LawOk (P : Program) (w : World) (K : PySem.W.Frag) (mg : Str → Option Value) (base : Heap) (f : Addr) (fd : FuncData) (ps : List Str) (sp : Sp) : Prop :=
  ∀ (s : Shared) (H : Hp) (us : List Value) (vs : List V) (Q : VK) (E : XK), Env0 P w K mg base callerA [] s H → BindsTo s fd ⟨us, []⟩ (ps.zip us) → Vals vs us → sp vs H Q E → codeAny (model P w) callerA (.call (.ref f) ⟨us, []⟩) (CR CX0 [] P w H s Q E) s
section
variable {P : Program} {w : World} {K : PySem.W.Frag} {mg mb : Str → Option Value} {base : Heap}
theorem law_of {f : Addr} {fd : FuncData} {d : He.DefD} {N ps : List Str} {sp : Sp} (F : FunD K d.name d.qual d.params d.body d.scope [] [] f fd) (S : FnScope N ps d.scope) (len : ∀ vs H Q E, sp vs H Q E → vs.length = ps.length)
    (hbody : ∀ (cdv : Value) (s : Shared) (H : Hp) (vs : List V) (Q : VK) (E : XK), sp vs H Q E →
      ∃ t, PSs (cxOf CX0 P w K mg base N d.qual d.scope f cdv callerA [] s H E) d.body t ∧ t { nx := fun _ H' => Q .non H', rt := Q } (start N vs) H) : LawOk P w K mg base f fd ps sp := by
  obtain ⟨oc, od, dV, kV, doc, pm, an, cdv, ct, osl, rfl, lk, hcd, _, _⟩ := F.ex
  intro s H us vs Q E e0 hb r hsp
  have kb : ∀ b o, base.get? b = some o → s.heap.get? b = some o := fun b o e => (e0.bs b o e).1
  have KX := e0.mod.kin.keeps kb
  refine codeAny_call_function (by decide) (KX _ _ lk) rfl S.co S.gen rfl (PySem.W.codeRec_of KX hcd) (hb _ _ _ _ (wpAny_newFunctionEnv_cells S.kind (fun y hy => ?_) fun env he s1 x => ?_))
  · rcases S.par y.1 (List.of_mem_zip hy).1 with q | q
    · exact .inl q
    · exact .inr ⟨q, PySem.W.cellsFrom_some _ _ _ (.inl q)⟩
  · subst he
    obtain ⟨t, ht, hq⟩ := hbody cdv s H vs Q E hsp
    have I := inv_start (CX := CX0) (P := P) (w := w) (E := E) (f := f) (cd := cdv) (qual := d.qual) S rfl e0 (len _ _ _ _ hsp) r x
    refine ⟨(e0.mod.nolimit.keeps kb).keeps x.toInCall.keep, codeAny_func (wpAny_mono (ht.run [] s1 (start N vs) H _ I hq) (fun fl s' hs => ?_) fun e s' hs => hs)⟩
    cases fl with
    | ret u => obtain ⟨v, σ', H', J, rv, q⟩ := hs; exact ⟨v, H', J.os, J.bare, J.base, J.hok, rv, q⟩
    | next => obtain ⟨σ', H', J, q⟩ := hs; exact ⟨.non, H', J.os, J.bare, J.base, J.hok, rfl, q⟩
    | brk => obtain ⟨_, _, _, q⟩ := hs; exact False.elim q
    | cont => obtain ⟨_, _, _, q⟩ := hs; exact False.elim q
/-- the heap at the entry: nothing is tracked but the script, where it is none of the written part -/
theorem law_callG {fa a : Addr} {fd : FuncData} {x : Str} {sp : Sp} {s1 : Shared} {vs : List Value} {ns : List Int}
    (KX : K.In s1.heap) (hns : s1.heap.Ns mainGlobals mg) (hb : s1.heap.Ns builtinsNs mb) (hbb : ∀ x : Str, x ≠ "__name__" → mb x = bootBuiltins x) (hlim : s1.heap.NoLimit) (hg : s1.gens = #[])
    (ha : s1.heap.get? a = some { cls := .type "list", data := .seq vs.toArray }) (hi : IntsAre vs ns) (hl : ns.length ≤ sizeLine) (hka : K.lookup a = none)
    (F : ∀ base : Heap, K.In base → base.Ns mainGlobals mg → LawOk P w K mg base fa fd [x] sp) (hbind : ∀ (s : Shared) (u : Value), BindsTo s fd ⟨[u], []⟩ [(x, u)])
    (hsp : ∀ H : Hp, Only H → SqL K H a (ns.map V.int) → sp [.ref a] H (fun v _ => v = .bl true) fun _ _ _ => False) :
    codeAny (model P w) callerA (.call (.ref fa) ⟨[.ref a], []⟩) (fun r s' => r = .ok (.ret (.bool true)) ∧ OldK s1.heap s'.heap ∧ s'.os = s1.os ∧ AllBare s'.gens) s1 := by
  obtain ⟨H, hH⟩ : ∃ H : Hp, H = fun b => if b = a then some (HO.frz { cls := .type "list", data := .seq vs.toArray } (.lst (ns.map V.int))) else none := ⟨_, rfl⟩
  have hHa : H a = some (HO.frz { cls := .type "list", data := .seq vs.toArray } (.lst (ns.map V.int))) := by rw [hH]; exact if_pos rfl
  have hHn : ∀ b, b ≠ a → H b = none := fun b e => by rw [hH]; exact if_neg e
  have hO : Only H := fun b => by
    by_cases e : b = a
    · rw [e]; exact .inr ⟨_, _, hHa⟩
    · exact .inl (hHn b e)
  have bk : ∀ {b : Addr} {o : Obj}, b ≠ a → s1.heap.get? b = some o → (hidT s1.heap H).get? b = some o := fun e q => hidT_get q (hHn _ e)
  have nsK : ∀ {b : Addr} {m : Str → Option Value}, s1.heap.Ns b m → (hidT s1.heap H).Ns b m := fun {b m} ⟨o, es, ep, e, d, r⟩ => by
    have ne : b ≠ a := fun z => by
      rw [z, ha] at e
      cases e
      have d' : Data.seq vs.toArray _ = Data.dict es ep := d
      cases d'
    exact ⟨o, es, ep, bk ne e, d, r⟩
  have hKb : K.In (hidT s1.heap H) := fun b o e => bk (fun z => by rw [z, hka] at e; cases e) (KX b o e)
  have hM : Mod K mg (hidT s1.heap H) := ⟨hKb, nsK hns, ⟨mb, nsK hb, hbb⟩, let ⟨mc, h1, h2⟩ := hlim; ⟨mc, nsK h1, h2⟩⟩
  have hok : HOk P w H s1.heap := fun b o e => by
    by_cases z : b = a
    · rw [z, hHa] at e
      cases e
      rw [z]
      exact ⟨ha, by rw [List.length_map]; exact hl, vs, _, vals_ints hi, ha⟩
    · rw [hHn b z] at e
      cases e
  have e0 : Env0 P w K mg (hidT s1.heap H) callerA [] s1 H := ⟨rfl, hM, fun b o e => of_hidT e, Nat.le_of_eq (hidT_size _ _), trivial, (fun b hb => absurd (show b ∈ ([] : List Addr) from hb) (by simp)), hok, .of_eq hg⟩
  refine codeAny_mono (F _ hKb (nsK hns) s1 H [.ref a] [.ref a] _ _ e0 (hbind s1 (.ref a)) (.cons rfl .nil) (hsp H hO (.inl (.inr ⟨_, hHa⟩)))) fun r s' h => ?_
  cases r with
  | error e => exact False.elim h
  | ok fl =>
    cases fl with
    | next => exact False.elim h
    | brk => exact False.elim h
    | cont => exact False.elim h
    | ret u =>
      obtain ⟨v, H', os, bare, un, hok', r', q⟩ := h
      have q' : v = .bl true := q
      subst q'
      obtain rfl : u = Value.bool true := r'
      refine ⟨rfl, OldK.of_keep fun b o e => ?_, os, bare⟩
      by_cases z : b = a
      · rw [z] at e ⊢
        rw [ha] at e
        cases e
        exact (hok' a _ (un.frzs a _ _ hHa)).1
      · exact un.keep b o e (hHn b z) (by intro z; cases z) (by intro z; cases z)
end
/-- the end of a law's row over a head by facts; the written part must not hold the script -/
theorem walk_ofG {l : PySem.W.OpenLaw} {n : Nat} {q : Program} {loose : List Str} {XP : (Str → Option Value) → Heap → Prop} {YP : World → Heap → Prop} {d : DefRec} {x : Str}
    (hn : l.most = some n) (hn2 : n ≤ sizeLine) (hdf : d.params.defaults = [])
    (F : ∀ (w : World) (mg : Str → Option Value) (fa : Addr) (h : Heap), YP w h → h.Ns mainGlobals mg → mg d.name = some (.ref fa) →
      ∃ (K : PySem.W.Frag) (fd : FuncData) (sp : Sp), K.In h ∧ (∀ a o, K.lookup a = some o → o.cls ≠ .type "list") ∧ (∀ (s : Shared) (u : Value), BindsTo s fd ⟨[u], []⟩ [(x, u)]) ∧
        (∀ (H : Hp) (a : Addr) (ns : List Int), ns.length ≤ n → Only H → SqL K H a (ns.map V.int) → sp [.ref a] H (fun v _ => v = .bl true) fun _ _ _ => False) ∧
        ∀ base : Heap, K.In base → base.Ns mainGlobals mg → LawOk l.prog w K mg base fa fd [x] sp) :
    PySem.W.WalkO q loose XP YP l.row.toRowW d [] (fun f vs => PySem.call f vs) := by
  refine Att.attach_call hn hdf fun w s0 s1 mg mb fa o pm cd doc a vs ns G Y ho hd hcd hmg hobj hints hlen hg => ?_
  obtain ⟨K, fd, sp, KX, hnl, hb, hsp, hF⟩ := F w mg fa _ Y G.T.g hmg
  refine law_callG KX G.T.g G.T.b G.T.builtins G.T.nolimit hg hobj hints (Nat.le_trans hlen hn2) ?_ hF hb fun H hO hS => hsp H a ns hlen hO hS
  cases e : K.lookup a with
  | none => rfl
  | some o =>
    have z := KX a o e
    rw [hobj] at z
    cases z
    exact absurd rfl (hnl a _ e)
end Oc
set_option Elab.async false
set_option linter.all false
set_option maxRecDepth 100000
set_option maxHeartbeats 4000000
namespace Oc
open PySem PySem.Spec PyProof.Rows L2
section
variable {X : Cx} {pins : List (Addr × Obj)} {σ : L2.St} {H : Hp} {s : Shared}
theorem keys_read {P : Program} {w : World} {h : Heap} : ∀ {es : List DictEntry} {vs : List (Key × Value)} {kvs : List (Key × V)} {ds : List (PyData × PyData)} {K : PySem.W.Frag} {H : Hp}, Pairs (mixKind P w) es vs → KV kvs vs → DqKv K H kvs ds → ReadsAll h (es.map (·.key)) (ds.map (·.1)) [] := by
  intro es
  induction es with
  | nil =>
    intro vs kvs ds K H p q r
    cases p
    cases q
    cases r
    exact .nil
  | cons e es ih =>
    intro vs kvs ds K H p q r
    cases p with
    | cons h1 h2 h3 =>
      cases q with
      | cons g1 g2 =>
        cases r with
        | @cons k v rest d dr r1 r2 =>
          have z := ih h3 g2 r2
          have e1 : k = _ := g1.1
          have hk : keyIs k e.key = true := by
            rw [e1]
            exact h1
          show ReadsAll h (e.key :: es.map (·.key)) (kD k :: dr.map (·.1)) []
          rcases keyIs_shape hk with ⟨i, t, rfl, ek⟩ | ⟨x, t, rfl, ek⟩
          · rw [ek]
            exact .cons (as := []) (bs := []) (Reads.int i t) z
          · rw [ek]
            exact .cons (as := []) (bs := []) (Reads.str x t) z
theorem ne_sys {a : Addr} {o oS : Obj} {c : String} (hS : s.heap.get? sysModules = some oS) (hc : oS.cls = .type "dict") (ho : s.heap.get? a = some o) (hl : o.cls = .type c) (hn : c ≠ "dict") : sysModules ≠ a := fun z => by
  rw [z, ho] at hS
  cases hS
  rw [hl] at hc
  exact hn (Value.type.inj hc)
mutual
theorem Dq.reads (I : Inv X pins σ H s) {oS : Obj} (hS : s.heap.get? sysModules = some oS) (hc : oS.cls = .type "dict") : ∀ (d : PyData) (v : V) (u : Value), Dq X.K H v d → RelV v u → ∃ as, Reads s.heap u d as ∧ sysModules ∉ as
  | .none, _, _, h, r => by
    cases h
    cases r
    exact ⟨_, Reads.none, by simp⟩
  | .bool b, _, _, h, r => by
    cases h
    cases r
    exact ⟨_, Reads.bool b, by simp⟩
  | .int i, _, _, h, r => by
    cases h
    obtain ⟨t, rfl⟩ := r
    exact ⟨_, Reads.int i t, by simp⟩
  | .str x, _, _, h, r => by
    cases h
    obtain ⟨t, rfl⟩ := r
    exact ⟨_, Reads.str x t, by simp⟩
  | .list ds, _, _, h, r => by
    cases h with
    | lst hs ha =>
      cases r
      obtain ⟨its, rv, ⟨o, n, ho, hcl, _, hd⟩, _⟩ := I.list hs
      obtain ⟨as, hr, hn⟩ := DqAll.reads I hS hc ds _ its ha rv
      refine ⟨_, Reads.list ho hcl hd hr, fun z => ?_⟩
      rcases List.mem_cons.mp z with z | z
      · exact ne_sys hS hc ho hcl (by decide) z
      · exact hn z
  | .tuple ds, _, _, h, r => by
    cases h with
    | tup hs ha =>
      cases r
      obtain ⟨its, rv, ⟨o, ho, hcl, n, hd⟩, _⟩ := I.tuple hs
      obtain ⟨as, hr, hn⟩ := DqAll.reads I hS hc ds _ its ha rv
      exact ⟨_, Reads.tuple ho hcl hd hr, hn⟩
  | .dict ds, _, _, h, r => by
    cases h with
    | dic hs ha =>
      cases r
      obtain ⟨z, hne, vs, kv, o, es, ep, ho, hx, hd, _, hp, _⟩ := hs.ok I.hok
      obtain ⟨bs, hr, hn⟩ := DqKv.reads I hS hc ds _ vs es.toList ha kv hp
      refine ⟨_, Reads.dict ho hx.1 hd (keys_read hp kv ha) hr, fun z => ?_⟩
      simp only [List.cons_append, List.mem_cons, List.nil_append] at z
      rcases z with z | z
      · rw [z] at hne
        simp at hne
      · exact hn z
theorem DqAll.reads (I : Inv X pins σ H s) {oS : Obj} (hS : s.heap.get? sysModules = some oS) (hc : oS.cls = .type "dict") : ∀ (ds : List PyData) (vs : List V) (us : List Value), DqAll X.K H vs ds → Vals vs us → ∃ as, ReadsAll s.heap us ds as ∧ sysModules ∉ as
  | [], _, _, h, r => by
    cases h
    cases r
    exact ⟨_, ReadsAll.nil, by simp⟩
  | d :: ds, _, _, h, r => by
    cases h with
    | cons h1 h2 =>
      cases r with
      | cons r1 r2 =>
        obtain ⟨as, q1, n1⟩ := Dq.reads I hS hc d _ _ h1 r1
        obtain ⟨bs, q2, n2⟩ := DqAll.reads I hS hc ds _ _ h2 r2
        exact ⟨_, ReadsAll.cons q1 q2, fun z => (List.mem_append.mp z).elim n1 n2⟩
theorem DqKv.reads (I : Inv X pins σ H s) {oS : Obj} (hS : s.heap.get? sysModules = some oS) (hc : oS.cls = .type "dict") : ∀ (ds : List (PyData × PyData)) (kvs : List (Key × V)) (vs : List (Key × Value)) (es : List DictEntry), DqKv X.K H kvs ds → KV kvs vs → Pairs (mixKind X.prog X.w) es vs →
    ∃ as, ReadsAll s.heap (es.map (·.val)) (ds.map (·.2)) as ∧ sysModules ∉ as
  | [], _, _, _, h, r, p => by
    cases h
    cases r
    cases p
    exact ⟨_, ReadsAll.nil, by simp⟩
  | (k, d) :: ds, _, _, _, h, r, p => by
    cases h with
    | cons h1 h2 =>
      cases r with
      | cons r1 r2 =>
        cases p with
        | cons p1 p2 p3 =>
          obtain ⟨bs, q2, n2⟩ := DqKv.reads I hS hc ds _ _ _ h2 r2 p3
          obtain ⟨as, q1, n1⟩ := Dq.reads I hS hc d _ _ h1 r1.2
          refine ⟨_, ?_, fun z => (List.mem_append.mp z).elim n1 n2⟩
          show ReadsAll s.heap (_ :: _) (d :: ds.map (·.2)) (as ++ bs)
          refine ReadsAll.cons ?_ q2
          simpa only [p2] using q1
end
end
/-- repr(x) of such data, where no repr is under way -/
def rRepr (K : PySem.W.Frag) : List V → Hp → VK → Prop := fun xs H Q => ∃ (x : V) (d : PyData), xs = [x] ∧ Dq K H x d ∧ d.showable = true ∧ d.depth ≤ 64 ∧ d.shown.length ≤ sizeLine ∧ Q (.str d.shown) H
theorem call_reprD {X : Cx} (hg : X.A.guards = some []) (hu : X.A.units + 100 < cLine) (hs : sysB X.K = true) : CallR X (.builtin "repr") (rRepr X.K) := by
  intro pins s σ H xs us Q I r h
  obtain ⟨x, d, rfl, hd, sh, dp, hl, q⟩ := h
  obtain ⟨u, rfl, rx⟩ := vals1 r
  obtain ⟨oS, lS, cS⟩ := sysB_ok hs
  obtain ⟨as, hr, hn⟩ := Dq.reads I (I.kIn _ _ lS) cS d x u hd rx
  cases hd with
  | non =>
    cases rx
    exact P.repr_of_none ⟨.str _, H, I.tok _, ⟨_, rfl⟩, q⟩
  | bl b =>
    cases rx
    exact P.repr_of_bool ⟨.str _, H, I.tok _, ⟨_, rfl⟩, q⟩
  | int i =>
    obtain ⟨t, rfl⟩ := rx
    exact P.repr_of_int (of_decide_eq_true sh) ⟨.str _, H, I.tok _, ⟨_, rfl⟩, q⟩
  | str y =>
    obtain ⟨t, rfl⟩ := rx
    exact P.repr_of_str ⟨.str _, H, I.tok _, ⟨_, rfl⟩, q⟩ hl
  | _ =>
    cases rx
    refine repr_of_reads' hr sh (fun _ => hn) hg (by omega) (fun _ _ z => z) (fun h' u tk k => ⟨.str _, H, I.kept (t' := tk) k, ⟨_, rfl⟩, q⟩) hl
end Oc
set_option Elab.async false
set_option linter.all false
set_option maxRecDepth 100000
set_option maxHeartbeats 4000000
namespace Oc
open PySem PySem.Spec PyProof.Rows L2
/-- a text times a small number -/
def repS (z : Str) (i : Int) : Str := if i < 1 then Str.empty else if (i == 1 || z.length == 0) = true then z else ⟨(List.replicate i.toNat z.cps).foldl (· ++ ·) #[]⟩
theorem foldl_size (z : Array Nat) : ∀ (n : Nat) (a : Array Nat), ((List.replicate n z).foldl (· ++ ·) a).size = a.size + n * z.size
  | 0, a => by simp
  | n + 1, a => by
    rw [List.replicate_succ, List.foldl_cons, foldl_size z n (a ++ z), Array.size_append, Nat.succ_mul]
    omega
theorem repS_length (z : Str) (i : Int) (h0 : 0 ≤ i) : (repS z i).length = i.toNat * z.length := by
  unfold repS
  by_cases h : i < 1
  · rw [if_pos h]
    have e : i.toNat = 0 := by omega
    rw [e, Nat.zero_mul]
    rfl
  · rw [if_neg h]
    by_cases h2 : (i == 1 || z.length == 0) = true
    · rw [if_pos h2]
      rcases Bool.or_eq_true_iff.mp h2 with q | q
      · have e : i = 1 := by simpa using q
        rw [e]
        simp
      · have e : z.length = 0 := by simpa using q
        rw [e]
        simp
    · rw [if_neg h2]
      show ((List.replicate i.toNat z.cps).foldl (· ++ ·) #[]).size = _
      rw [foldl_size]
      show 0 + i.toNat * z.cps.size = i.toNat * z.cps.size
      omega
theorem op_mul_str {X : Cx} : OpR X (binaryOp .Mult) (fun x y H Q => ∃ z i, x = .str z ∧ y = .int i ∧ 0 ≤ i ∧ i ≤ 1000 ∧ z.length ≤ 1000 ∧ Q (.str (repS z i)) H) := by
  intro pins s σ H x y v u Q I rx ry h
  obtain ⟨z, i, rfl, rfl, h0, h1, h2, q⟩ := h
  obtain ⟨t, rfl⟩ := rx
  obtain ⟨t', rfl⟩ := ry
  have small : i.toNat * z.length ≤ 1000000 := Nat.le_trans (Nat.mul_le_mul (by omega : i.toNat ≤ 1000) h2) (by decide)
  refine PySem.P.mul_str ?_ (fun a b => ?_) (fun a b => ?_) ?_
  · have e1 : ¬ i < -(2 ^ 63 : Int) := by omega
    have e2 : ¬ i ≥ 2 ^ 63 := by omega
    rw [decide_eq_false e1, decide_eq_false e2]
    rfl
  · have e : ((2 : Int) ^ 63 - 1) / i ≥ 1000 := by
      have : (1000 : Int) ≤ (2 ^ 63 - 1) / i := by
        rw [Int.le_ediv_iff_mul_le (by omega)]
        omega
      exact this
    omega
  · rw [Nat.mul_comm]
    show decide _ = false
    refine decide_eq_false ?_
    rw [sizeLine_eq]
    omega
  · unfold repS at q
    by_cases c1 : i < 1
    · rw [if_pos c1] at q ⊢
      exact ⟨by decide, .str _, H, I.tok _, ⟨_, rfl⟩, q⟩
    · rw [if_neg c1] at q ⊢
      by_cases c2 : (i == 1 || z.length == 0) = true
      · rw [if_pos c2] at q ⊢
        exact ⟨.str _, H, I, ⟨_, rfl⟩, q⟩
      · rw [if_neg c2] at q ⊢
        refine ⟨?_, .str _, H, I.tok _, ⟨_, rfl⟩, q⟩
        show ((List.replicate i.toNat z.cps).foldl (· ++ ·) #[]).size ≤ _
        rw [foldl_size, sizeLine_eq]
        have : i.toNat * z.cps.size ≤ 1000000 := small
        show 0 + _ ≤ _
        omega
/-- small data, that may be shown -/
def okD (d : PyData) : Bool := d.showable && (decide (d.depth ≤ 8) && decide (d.shown.length ≤ 300))
/-- such data stands there, whatever becomes of the pen at p -/
def AnyV (K : PySem.W.Frag) (H : Hp) (p : Addr) (v : V) : Prop := ∃ d, Dq K (delH H p) v d ∧ okD d = true
theorem delH_at {H : Hp} {p a : Addr} {o : HO} (h : H a = some o) (n : a ≠ p) : delH H p a = some o := by
  rw [delH_ne n]
  exact h
theorem Same.alloc {H : Hp} {q : Addr} {o : HO} (n : H q = none) : Same H (upd H q o) := fun b u e => by
  rw [upd_ne (ne_of_none e n)]
  exact e
/-- a new object at q, the pen at p -/
structure Alc (H H' : Hp) (p q : Addr) (o : HO) : Prop where
  s : Same H H'
  e : H' q = some o
  n : q ≠ p
theorem alc {H : Hp} {p q : Addr} {o u : HO} (hp : H p = some u) (n : H q = none) : Alc H (upd H q o) p q o := ⟨Same.alloc n, upd_same, (ne_of_none hp n).symm⟩
theorem alcD {H : Hp} {p q : Addr} {o o' u : HO} (hp : H p = some u) (n : H q = none) : Alc H (upd (upd H q o') q o) p q o := by
  rw [upd_upd]
  exact alc hp n
theorem AnyV.dq {K : PySem.W.Frag} {H : Hp} {p : Addr} {v : V} (h : AnyV K H p v) : ∃ d, Dq K H v d ∧ okD d = true := by
  obtain ⟨d, h1, h2⟩ := h
  refine ⟨d, Dq.same (fun b o e => ?_) d v h1, h2⟩
  by_cases z : b = p
  · rw [z, delH_same] at e
    cases e
  · rw [delH_ne z] at e
    exact e
theorem AnyV.keep {K : PySem.W.Frag} {H H' : Hp} {p : Addr} {v : V} (h : AnyV K H p v) (b : ∀ c o, H c = some o → c ≠ p → H' c = some o) : AnyV K H' p v := by
  obtain ⟨d, h1, h2⟩ := h
  refine ⟨d, Dq.same (fun c o e => ?_) d v h1, h2⟩
  by_cases z : c = p
  · rw [z, delH_same] at e
    cases e
  · rw [delH_ne z] at e ⊢
    exact b c o e z
end Oc
set_option Elab.async false
set_option linter.all false
set_option maxRecDepth 100000
set_option maxHeartbeats 4000000
namespace Oc
open PySem PySem.Spec PyProof.Rows L2
theorem PE.weak {X : Cx} {e : Expr} {t t' : TE} (h : PE X e t) (w : ∀ σ H Q, t' σ H Q → t σ H Q) : PE X e t' := ⟨fun pins s σ H Q I q => h.run pins s σ H Q I (w _ _ _ q)⟩
theorem FunD.kbnN {K : PySem.W.Frag} {x qual : Str} {params : Arguments} {body : List Stmt} {scope : Scope} {f : Addr} {fd : FuncData} {ps ks : List Str} {n : Nat} {g : List Value → List Value → List Value} {gV : List V → List V → List V} (F : FunD K x qual params body scope [] [] f fd)
    (h : ∀ (kV doc pm : Value) (an : Option Addr) (cdv ct : Value) (us ws : List Value), us.length = n → ws.length = ks.length → bindArgs (PySem.W.fnOf x qual params body scope .none kV doc pm an cdv ct) ⟨us, ks.zip ws⟩ = pure (ps.zip (g us ws)))
    (r : ∀ {vs : List V} {us : List Value} {zs : List V} {ws : List Value}, Vals vs us → Vals zs ws → Vals (gV vs zs) (g us ws)) : KBn K fd ps n ks g gV := by
  obtain ⟨oc, od, dV, kV, doc, pm, an, cdv, ct, osl, rfl, lk, hcd, hD, hK⟩ := F.ex
  rcases hD with ⟨_, rfl⟩ | ⟨e, _⟩
  · exact ⟨fun s us ws X l1 l2 => .of_eq (h kV doc pm an cdv ct us ws l1 l2), r⟩
  · exact absurd rfl e
/-! ### __init__ that stores its one argument, or its two -/
def spI1 (C : Addr) (f : Str) : Sp := fun vs H Q _ => ∃ (a : Addr) (x : V), vs = [.ref a, x] ∧ H a = some (exo a C none) ∧ ∀ dx, H dx = none → dx ≠ a → Q .non (upd (upd H dx (exd dx [(f, x)])) a (exo a C (some dx)))
def spI2 (C : Addr) (f g : Str) : Sp := fun vs H Q _ => ∃ (a : Addr) (x y : V), vs = [.ref a, x, y] ∧ H a = some (exo a C none) ∧ ∀ dx, H dx = none → dx ≠ a → Q .non (upd (upd (upd H dx (exd dx [(f, x)])) a (exo a C (some dx))) dx (exd dx [(g, y), (f, x)]))
/-- the class at C, its __init__ with it -/
structure ExK (K : PySem.W.Frag) (mg : Str → Option Value) (x : Str) (C fI : Addr) (newId : String) (bm : List Value) : Prop where
  cl : ExCl K C newId bm
  ini : PySem.W.findIn K (.ref C) "__init__" = some (some (.ref fI))
  fn : PySem.W.typeIn K (.ref fI) = some (.type "function")
  g : mg x = some (.ref C)
structure Ex1 (P : Program) (w : World) (K : PySem.W.Frag) (mg : Str → Option Value) (base : Heap) (x f : Str) (C : Addr) (newId : String) (bm : List Value) : Prop where
  ex : ∃ (fI : Addr) (fd : FuncData), ExK K mg x C fI newId bm ∧ FnOk P w K mg base CX0 1 fI fd ["self", f] (spI1 C f) ∧ Binds K fd ["self", f] [] ∧ KBn K fd ["self", f] 1 [f] (fun us ws => us ++ ws) (fun vs zs => vs ++ zs)
  no : PySem.W.findIn K (.ref C) f = some none
structure Ex2 (P : Program) (w : World) (K : PySem.W.Frag) (mg : Str → Option Value) (base : Heap) (x f g : Str) (C : Addr) (newId : String) (bm : List Value) : Prop where
  ex : ∃ (fI : Addr) (fd : FuncData), ExK K mg x C fI newId bm ∧ FnOk P w K mg base CX0 1 fI fd ["self", f, g] (spI2 C f g) ∧ Binds K fd ["self", f, g] [] ∧ KBn K fd ["self", f, g] 1 [g, f] (fun us ws => us ++ ws.reverse) (fun vs zs => vs ++ zs.reverse)
  noF : PySem.W.findIn K (.ref C) f = some none
  noG : PySem.W.findIn K (.ref C) g = some none
theorem made_same {H : Hp} {a dx C : Addr} {fs : List (Str × V)} (na : H a = none) (nd : upd H a (exo a C none) dx = none) (ne : dx ≠ a) : Same H (upd (upd (upd H a (exo a C none)) dx (exd dx fs)) a (exo a C (some dx))) := fun b o e => by
  have h1 : b ≠ a := ne_of_none e na
  rw [upd_ne ne] at nd
  rw [upd_ne h1, upd_ne (ne_of_none e nd), upd_ne h1]
  exact e
theorem made_at {H : Hp} {a dx C : Addr} {fs : List (Str × V)} (ne : dx ≠ a) : ExAt (upd (upd (upd H a (exo a C none)) dx (exd dx fs)) a (exo a C (some dx))) (.ref a) C fs :=
  ⟨a, rfl, .inr ⟨dx, upd_same, by rw [upd_ne ne, upd_same]⟩⟩
section
variable {X : Cx} {x f g : Str} {C : Addr} {newId : String} {bm : List Value} {e e' : Expr} {te tu : TE} {p pos q q' : Pos}
/-- C(e), C(f=e), C(e, e'), C(g=e', f=e) -/
theorem pe_ex1 (E : Ex1 X.prog X.w X.K X.mg X.base x f C newId bm) (hr : Room 2 X.A) (he : PE X e te) (hg : Gl X x := by rfl) (hdb : (x == ("__debug__" : Str)) = false := by decide) (hs : starEach [e] X.env = (false, eval e X.env) :: starEach [] X.env := by rfl) :
    PE X (.Call (.Name x p) [e] [] pos) (tMkE C 1 0 (spI1 C f) (fun vs _ => vs) (tCons te tNil) tNil) := by
  obtain ⟨fI, fd, ⟨cl, ini, fn, g⟩, F, b, _⟩ := E.ex
  exact pe_mkE (n := 1) cl ini fn F hr hg g b pass0 (pa_cons he pa_nil hs) rfl (by decide) hdb hs rfl
theorem pe_ex1k (E : Ex1 X.prog X.w X.K X.mg X.base x f C newId bm) (hr : Room 2 X.A) (he : PE X e te) (hg : Gl X x := by rfl) (hdb : (x == ("__debug__" : Str)) = false := by decide) :
    PE X (.Call (.Name x p) [] [⟨some f, e, q⟩] pos) (tMkE C 0 1 (spI1 C f) (fun vs zs => vs ++ zs) tNil (tCons te tNil)) := by
  obtain ⟨fI, fd, ⟨cl, ini, fn, g⟩, F, _, b⟩ := E.ex
  exact pe_mkEK (ks := [f]) cl ini fn F hr hg g b pass0 (pk_cons he pk_nil) rfl rfl hdb rfl
theorem pe_ex2 (E : Ex2 X.prog X.w X.K X.mg X.base x f g C newId bm) (hr : Room 2 X.A) (he : PE X e te) (hu : PE X e' tu) (hg : Gl X x := by rfl) (hdb : (x == ("__debug__" : Str)) = false := by decide) (hs : starEach [e, e'] X.env = (false, eval e X.env) :: starEach [e'] X.env := by rfl)
    (hs' : starEach [e'] X.env = (false, eval e' X.env) :: starEach [] X.env := by rfl) (hpl : (backTo pos (starEach [e'] X.env)).any (·.1) = false := by rfl) :
    PE X (.Call (.Name x p) [e, e'] [] pos) (tMkE C 2 0 (spI2 C f g) (fun vs _ => vs) (tCons te (tCons tu tNil)) tNil) := by
  obtain ⟨fI, fd, ⟨cl, ini, fn, g⟩, F, b, _⟩ := E.ex
  exact pe_mkE (n := 2) cl ini fn F hr hg g b pass0 (pa_cons he (pa_cons hu pa_nil hs') hs) rfl (by decide) hdb hs hpl
theorem pe_ex2k (E : Ex2 X.prog X.w X.K X.mg X.base x f g C newId bm) (hr : Room 2 X.A) (he : PE X e te) (hu : PE X e' tu) (hg : Gl X x := by rfl) (hdb : (x == ("__debug__" : Str)) = false := by decide) :
    PE X (.Call (.Name x p) [] [⟨some g, e, q⟩, ⟨some f, e', q'⟩] pos) (tMkE C 0 2 (spI2 C f g) (fun vs zs => vs ++ zs.reverse) tNil (tCons te (tCons tu tNil))) := by
  obtain ⟨fI, fd, ⟨cl, ini, fn, g⟩, F, _, b⟩ := E.ex
  exact pe_mkEK (ks := [_, _]) cl ini fn F hr hg g b pass0 (pk_cons he (pk_cons hu pk_nil)) rfl rfl hdb rfl
end
section
variable {H : Hp} {C : Addr} {f g : Str} {x y : V} {R : Addr → Hp → Prop} {E : XK}
/-- what such a call asks behind its arguments -/
theorem ans1 (k : ∀ a H', Same H H' → ExAt H' (.ref a) C [(f, x)] → R a H') : [x].length = 1 ∧ ([] : List V).length = 0 ∧ ∀ a, H a = none → spI1 C f (.ref a :: [x]) (upd H a (exo a C none)) (fun v H3 => v = .non ∧ R a H3) E :=
  ⟨rfl, rfl, fun a na => ⟨a, x, rfl, upd_same, fun dx nd ne => ⟨rfl, k _ _ (made_same na nd ne) (made_at ne)⟩⟩⟩
theorem ans1k (k : ∀ a H', Same H H' → ExAt H' (.ref a) C [(f, x)] → R a H') : ([] : List V).length = 0 ∧ [x].length = 1 ∧ ∀ a, H a = none → spI1 C f ([.ref a] ++ [x]) (upd H a (exo a C none)) (fun v H3 => v = .non ∧ R a H3) E :=
  ⟨rfl, rfl, fun a na => ⟨a, x, rfl, upd_same, fun dx nd ne => ⟨rfl, k _ _ (made_same na nd ne) (made_at ne)⟩⟩⟩
theorem made2_same {a dx : Addr} {fs gs : List (Str × V)} (na : H a = none) (nd : upd H a (exo a C none) dx = none) (ne : dx ≠ a) : Same H (upd (upd (upd (upd H a (exo a C none)) dx (exd dx fs)) a (exo a C (some dx))) dx (exd dx gs)) := fun b o e => by
  have h1 := made_same (fs := fs) (C := C) na nd ne b o e
  rw [upd_ne ne] at nd
  rw [upd_ne (ne_of_none e nd)]
  exact h1
theorem made2_at {a dx : Addr} {fs gs : List (Str × V)} (ne : dx ≠ a) : ExAt (upd (upd (upd (upd H a (exo a C none)) dx (exd dx fs)) a (exo a C (some dx))) dx (exd dx gs)) (.ref a) C gs :=
  ⟨a, rfl, .inr ⟨dx, by rw [upd_ne ne.symm, upd_same], upd_same⟩⟩
theorem ans2 (k : ∀ a H', Same H H' → ExAt H' (.ref a) C [(g, y), (f, x)] → R a H') : [x, y].length = 2 ∧ ([] : List V).length = 0 ∧ ∀ a, H a = none → spI2 C f g (.ref a :: [x, y]) (upd H a (exo a C none)) (fun v H3 => v = .non ∧ R a H3) E :=
  ⟨rfl, rfl, fun a na => ⟨a, x, y, rfl, upd_same, fun dx nd ne => ⟨rfl, k _ _ (made2_same na nd ne) (made2_at ne)⟩⟩⟩
theorem ans2k (k : ∀ a H', Same H H' → ExAt H' (.ref a) C [(g, y), (f, x)] → R a H') : ([] : List V).length = 0 ∧ [y, x].length = 2 ∧ ∀ a, H a = none → spI2 C f g ([.ref a] ++ [y, x].reverse) (upd H a (exo a C none)) (fun v H3 => v = .non ∧ R a H3) E :=
  ⟨rfl, rfl, fun a na => ⟨a, x, y, rfl, upd_same, fun dx nd ne => ⟨rfl, k _ _ (made2_same na nd ne) (made2_at ne)⟩⟩⟩
theorem made0 {a : Addr} (_n : H a = none) : ExAt (upd H a (exo a C none)) (.ref a) C [] := ⟨a, rfl, .inl ⟨rfl, upd_same⟩⟩
end
end Oc
set_option Elab.async false
set_option linter.all false
set_option maxRecDepth 100000
set_option maxHeartbeats 4000000
namespace Oc
open PySem PySem.Spec PyProof.Rows L2
/-! ### xs.count(k), a list of True and False -/
def isB (k : Bool) : Value → Bool
  | .bool b => b == k
  | _ => false
theorem bools_at {k : Bool} {A : Around} {s : Shared} : ∀ {bs : List Bool} {us : List Value}, Vals (bs.map V.bl) us → ∀ y ∈ us, SeqAt.EqAt A s y (.bool k) (isB k y)
  | [], _, .nil => fun y hy => by cases hy
  | b :: bs, _, .cons (r : _ = Value.bool b) h => fun y hy => by
    rcases List.mem_cons.mp hy with e | e
    · rw [e, r]
      exact SeqAt.EqAt.bool_bool b k
    · exact bools_at h y e
theorem bools_count {k : Bool} : ∀ {bs : List Bool} {us : List Value}, Vals (bs.map V.bl) us → us.countP (isB k) = bs.count k
  | [], _, .nil => rfl
  | b :: bs, _, .cons (r : _ = Value.bool b) h => by
    rw [List.countP_cons, bools_count h, List.count_cons, r]
    rfl
def rCntB (K : PySem.W.Frag) : V → List V → Hp → VK → Prop := fun x xs H Q => ∃ (p : Addr) (bs : List Bool) (k : Bool), x = .ref p ∧ xs = [.bl k] ∧ SqL K H p (bs.map V.bl) ∧ Q (.int (bs.count k : Nat)) H
theorem mt_bcount {X : Cx} : MtR X "list.count" (rCntB X.K) := by
  intro pins s σ H x xs v us Q I rx rxs h
  obtain ⟨p, bs, k, rfl, rfl, hs, q⟩ := h
  cases rx
  obtain ⟨u, rfl, ru⟩ := vals1 rxs
  cases (show u = Value.bool k from ru)
  obtain ⟨its, rv, ⟨⟨cls, dd, data, sl⟩, n, ho, hc, hdn, hd⟩, hlen⟩ := I.list hs
  simp only at hc hd
  subst hc hd
  refine PySem.call_meets PySem.F.slot_list_count ⟨_, ho, rfl⟩ PySem.F.entry_list_count (PySem.F.args_list_count_2 _ _) (SeqAt.list_countAt p its.toArray n dd sl (.bool k) (isB k)) ⟨ho, fun y hy => bools_at rv y (by simpa using hy), ?_⟩
  refine ⟨.int (bs.count k : Nat), H, I.tok _, ⟨s.toks, ?_⟩, q⟩
  show Value.int ((its.toArray.toList.countP (isB k) : Nat) : Int) s.toks = _
  rw [show its.toArray.toList = its from rfl, bools_count rv]
end Oc
set_option Elab.async false
set_option linter.all false
set_option maxRecDepth 100000
set_option maxHeartbeats 4000000
namespace Ol
open PySem PySem.Spec PyProof.Rows L2
abbrev R : PySem.W.OpenRow := PySem.W.OpenLaw.row PySem.Challenge.rw_onlylooks_k92_errors_and_limits
def top (i : Nat) : Stmt := PySem.Challenge.pw_onlylooks_k92_errors_and_limits.main.body.getD i (.Pass ⟨0, 0, 0, 0⟩)
abbrev s_InvalidTable_init : Stmt := inClass (top 1) 0
abbrev s_InvalidRow_init : Stmt := inClass (top 3) 0
abbrev s_InvalidRule_init : Stmt := inClass (top 5) 0
abbrev s_Misfit_init : Stmt := inClass (top 6) 0
abbrev s_Circle_init : Stmt := inClass (top 7) 0
abbrev s_InvalidFact_init : Stmt := inClass (top 8) 0
abbrev s_InvalidChange_init : Stmt := inClass (top 9) 0
abbrev s_InvalidAnswer_init : Stmt := inClass (top 10) 0
abbrev s_InvalidTemplate_init : Stmt := inClass (top 11) 0
abbrev s_InvalidNames_init : Stmt := inClass (top 12) 0
abbrev s_InvalidLimit_init : Stmt := inClass (top 14) 0
abbrev s_Unreadable_init : Stmt := inClass (top 15) 0
abbrev s_UnknownTable_init : Stmt := inClass (top 17) 0
abbrev s_UnknownColumn_init : Stmt := inClass (top 18) 0
abbrev s_OutOfRange_init : Stmt := inClass (top 19) 0
abbrev s_NoAnswer_init : Stmt := inClass (top 20) 0
abbrev s_NoCase_init : Stmt := inClass (top 21) 0
abbrev s_NoBranch_init : Stmt := inClass (top 22) 0
abbrev s_TooMany_init : Stmt := inClass (top 24) 0
abbrev s_TooDear_init : Stmt := inClass (top 25) 0
abbrev s_Broken_init : Stmt := inClass (top 26) 0
abbrev s_Unfit_init : Stmt := inClass (top 27) 0
abbrev s_Refused_init : Stmt := inClass (top 29) 0
abbrev s_LookFailed_init : Stmt := inClass (top 30) 0
abbrev s_NoLook_init : Stmt := inClass (top 31) 0
abbrev s_law_pen : Stmt := top 45
abbrev s_law_draw : Stmt := top 46
abbrev s_law_pick : Stmt := top 47
abbrev s_law_any_value : Stmt := top 48
abbrev s_law_some_errors : Stmt := top 49
abbrev s_law_other_errors : Stmt := top 50
abbrev s_law_classes : Stmt := top 51
abbrev s_law_sorts : Stmt := top 52
abbrev s_law : Stmt := top 53
def d_InvalidTable_init : He.DefD := ⟨("InvalidTable", some "__init__"), "__init__", "InvalidTable.__init__", defArgs s_InvalidTable_init, defBody s_InvalidTable_init, defScope s_InvalidTable_init, [], []⟩
def d_InvalidRow_init : He.DefD := ⟨("InvalidRow", some "__init__"), "__init__", "InvalidRow.__init__", defArgs s_InvalidRow_init, defBody s_InvalidRow_init, defScope s_InvalidRow_init, [], []⟩
def d_InvalidRule_init : He.DefD := ⟨("InvalidRule", some "__init__"), "__init__", "InvalidRule.__init__", defArgs s_InvalidRule_init, defBody s_InvalidRule_init, defScope s_InvalidRule_init, [], []⟩
def d_Misfit_init : He.DefD := ⟨("Misfit", some "__init__"), "__init__", "Misfit.__init__", defArgs s_Misfit_init, defBody s_Misfit_init, defScope s_Misfit_init, [], []⟩
def d_Circle_init : He.DefD := ⟨("Circle", some "__init__"), "__init__", "Circle.__init__", defArgs s_Circle_init, defBody s_Circle_init, defScope s_Circle_init, [], []⟩
def d_InvalidFact_init : He.DefD := ⟨("InvalidFact", some "__init__"), "__init__", "InvalidFact.__init__", defArgs s_InvalidFact_init, defBody s_InvalidFact_init, defScope s_InvalidFact_init, [], []⟩
def d_InvalidChange_init : He.DefD := ⟨("InvalidChange", some "__init__"), "__init__", "InvalidChange.__init__", defArgs s_InvalidChange_init, defBody s_InvalidChange_init, defScope s_InvalidChange_init, [], []⟩
def d_InvalidAnswer_init : He.DefD := ⟨("InvalidAnswer", some "__init__"), "__init__", "InvalidAnswer.__init__", defArgs s_InvalidAnswer_init, defBody s_InvalidAnswer_init, defScope s_InvalidAnswer_init, [], []⟩
def d_InvalidTemplate_init : He.DefD := ⟨("InvalidTemplate", some "__init__"), "__init__", "InvalidTemplate.__init__", defArgs s_InvalidTemplate_init, defBody s_InvalidTemplate_init, defScope s_InvalidTemplate_init, [], []⟩
def d_InvalidNames_init : He.DefD := ⟨("InvalidNames", some "__init__"), "__init__", "InvalidNames.__init__", defArgs s_InvalidNames_init, defBody s_InvalidNames_init, defScope s_InvalidNames_init, [], []⟩
def d_InvalidLimit_init : He.DefD := ⟨("InvalidLimit", some "__init__"), "__init__", "InvalidLimit.__init__", defArgs s_InvalidLimit_init, defBody s_InvalidLimit_init, defScope s_InvalidLimit_init, [], []⟩
def d_Unreadable_init : He.DefD := ⟨("Unreadable", some "__init__"), "__init__", "Unreadable.__init__", defArgs s_Unreadable_init, defBody s_Unreadable_init, defScope s_Unreadable_init, [], []⟩
def d_UnknownTable_init : He.DefD := ⟨("UnknownTable", some "__init__"), "__init__", "UnknownTable.__init__", defArgs s_UnknownTable_init, defBody s_UnknownTable_init, defScope s_UnknownTable_init, [], []⟩
def d_UnknownColumn_init : He.DefD := ⟨("UnknownColumn", some "__init__"), "__init__", "UnknownColumn.__init__", defArgs s_UnknownColumn_init, defBody s_UnknownColumn_init, defScope s_UnknownColumn_init, [], []⟩
def d_OutOfRange_init : He.DefD := ⟨("OutOfRange", some "__init__"), "__init__", "OutOfRange.__init__", defArgs s_OutOfRange_init, defBody s_OutOfRange_init, defScope s_OutOfRange_init, [], []⟩
def d_NoAnswer_init : He.DefD := ⟨("NoAnswer", some "__init__"), "__init__", "NoAnswer.__init__", defArgs s_NoAnswer_init, defBody s_NoAnswer_init, defScope s_NoAnswer_init, [], []⟩
def d_NoCase_init : He.DefD := ⟨("NoCase", some "__init__"), "__init__", "NoCase.__init__", defArgs s_NoCase_init, defBody s_NoCase_init, defScope s_NoCase_init, [], []⟩
def d_NoBranch_init : He.DefD := ⟨("NoBranch", some "__init__"), "__init__", "NoBranch.__init__", defArgs s_NoBranch_init, defBody s_NoBranch_init, defScope s_NoBranch_init, [], []⟩
def d_TooMany_init : He.DefD := ⟨("TooMany", some "__init__"), "__init__", "TooMany.__init__", defArgs s_TooMany_init, defBody s_TooMany_init, defScope s_TooMany_init, [], []⟩
def d_TooDear_init : He.DefD := ⟨("TooDear", some "__init__"), "__init__", "TooDear.__init__", defArgs s_TooDear_init, defBody s_TooDear_init, defScope s_TooDear_init, [], []⟩
def d_Broken_init : He.DefD := ⟨("Broken", some "__init__"), "__init__", "Broken.__init__", defArgs s_Broken_init, defBody s_Broken_init, defScope s_Broken_init, [], []⟩
def d_Unfit_init : He.DefD := ⟨("Unfit", some "__init__"), "__init__", "Unfit.__init__", defArgs s_Unfit_init, defBody s_Unfit_init, defScope s_Unfit_init, [], []⟩
def d_Refused_init : He.DefD := ⟨("Refused", some "__init__"), "__init__", "Refused.__init__", defArgs s_Refused_init, defBody s_Refused_init, defScope s_Refused_init, [], []⟩
def d_LookFailed_init : He.DefD := ⟨("LookFailed", some "__init__"), "__init__", "LookFailed.__init__", defArgs s_LookFailed_init, defBody s_LookFailed_init, defScope s_LookFailed_init, [], []⟩
def d_NoLook_init : He.DefD := ⟨("NoLook", some "__init__"), "__init__", "NoLook.__init__", defArgs s_NoLook_init, defBody s_NoLook_init, defScope s_NoLook_init, [], []⟩
def d_law_pen : He.DefD := ⟨("_law_pen", none), "_law_pen", "_law_pen", defArgs s_law_pen, defBody s_law_pen, defScope s_law_pen, [], []⟩
def d_law_draw : He.DefD := ⟨("_law_draw", none), "_law_draw", "_law_draw", defArgs s_law_draw, defBody s_law_draw, defScope s_law_draw, [], []⟩
def d_law_pick : He.DefD := ⟨("_law_pick", none), "_law_pick", "_law_pick", defArgs s_law_pick, defBody s_law_pick, defScope s_law_pick, [], []⟩
def d_law_any_value : He.DefD := ⟨("_law_any_value", none), "_law_any_value", "_law_any_value", defArgs s_law_any_value, defBody s_law_any_value, defScope s_law_any_value, [], []⟩
def d_law_some_errors : He.DefD := ⟨("_law_some_errors", none), "_law_some_errors", "_law_some_errors", defArgs s_law_some_errors, defBody s_law_some_errors, defScope s_law_some_errors, [], []⟩
def d_law_other_errors : He.DefD := ⟨("_law_other_errors", none), "_law_other_errors", "_law_other_errors", defArgs s_law_other_errors, defBody s_law_other_errors, defScope s_law_other_errors, [], []⟩
def d_law_classes : He.DefD := ⟨("_law_classes", none), "_law_classes", "_law_classes", defArgs s_law_classes, defBody s_law_classes, defScope s_law_classes, [], []⟩
def d_law_sorts : He.DefD := ⟨("_law_sorts", none), "_law_sorts", "_law_sorts", defArgs s_law_sorts, defBody s_law_sorts, defScope s_law_sorts, [], []⟩
def d_law : He.DefD := ⟨("law", none), "law", "law", defArgs s_law, defBody s_law, defScope s_law, [], []⟩
def fn0 : List He.DefD := [d_InvalidTable_init, d_InvalidRow_init, d_InvalidRule_init, d_Misfit_init, d_Circle_init, d_InvalidFact_init, d_InvalidChange_init, d_InvalidAnswer_init, d_InvalidTemplate_init, d_InvalidNames_init, d_InvalidLimit_init, d_Unreadable_init, d_UnknownTable_init, d_UnknownColumn_init, d_OutOfRange_init, d_NoAnswer_init, d_NoCase_init, d_NoBranch_init, d_TooMany_init, d_TooDear_init, d_Broken_init, d_Unfit_init, d_Refused_init, d_LookFailed_init, d_NoLook_init, d_law_pen, d_law_draw, d_law_pick, d_law_any_value, d_law_some_errors]
def fn1 : List He.DefD := [d_law_other_errors, d_law_classes, d_law_sorts, d_law]
def fn : List He.DefD := fn0 ++ (fn1)
def fa0 : List He.Fa := [.glo "InvalidTable", .glo "InvalidSchema", .glo "InvalidRow", .glo "OtherSchema", .glo "InvalidRule", .glo "Misfit", .glo "Circle", .glo "InvalidFact", .glo "InvalidChange", .glo "InvalidAnswer", .glo "InvalidTemplate", .glo "InvalidNames", .glo "InvalidPair", .glo "InvalidLimit", .glo "Unreadable", .glo "NoLine", .glo "UnknownTable", .glo "UnknownColumn", .glo "OutOfRange", .glo "NoAnswer", .glo "NoCase", .glo "NoBranch", .glo "Nothing", .glo "TooMany", .glo "TooDear", .glo "Broken", .glo "Unfit", .glo "NeverFits", .glo "Refused", .glo "LookFailed"]
def fa1 : List He.Fa := [.glo "NoLook", .glo "_law_pen", .glo "_law_draw", .glo "_law_pick", .glo "_law_any_value", .glo "_law_some_errors", .glo "_law_other_errors", .glo "_law_classes", .glo "_law_sorts", .glo "law", .free "IndexError", .free "KeyError", .free "LookupError", .free "NotImplementedError", .free "OverflowError", .free "RuntimeError", .free "ValueError", .free "abs", .free "int", .free "isinstance", .free "len", .free "list", .free "min", .free "range", .free "repr", .free "zip", .int "MAX_WORD" 8, .int "MAX_TABLES" 4, .int "MAX_COLUMNS" 3, .int "MAX_STATEMENTS" 5]
def fa2 : List He.Fa := [.int "MAX_LEAST" 2, .int "MAX_MOST" 3, .int "MAX_ENTRIES" 3, .int "MAX_WANTED" 16, .int "MAX_PAPER" 6, .int "MAX_ANSWERS" 200, .int "MAX_OPEN" 8, .int "MAX_NAMES" 4]
def fa : List He.Fa := fa0 ++ (fa1 ++ (fa2))
abbrev veBm : List Value := [.type "ValueError", .type "Exception", .type "BaseException", .type "object"]
abbrev leBm : List Value := [.type "LookupError", .type "Exception", .type "BaseException", .type "object"]
abbrev oeBm : List Value := [.type "OverflowError", .type "ArithmeticError", .type "Exception", .type "BaseException", .type "object"]
abbrev reBm : List Value := [.type "RuntimeError", .type "Exception", .type "BaseException", .type "object"]
/-- the four kinds of classes -/
inductive Bs where | v | l | o | r
  deriving DecidableEq
def Bs.bm : Bs → List Value | .v => veBm | .l => leBm | .o => oeBm | .r => reBm
def Bs.nid : Bs → String | .v => "ValueError.__new__" | .l => "LookupError.__new__" | .o => "OverflowError.__new__" | .r => "RuntimeError.__new__"
def Bs.word : Bs → Str | .v => "value" | .l => "lookup" | .o => "overflow" | .r => "runtime"
theorem Bs.base (b : Bs) : ExBase b.nid b.bm := by
  cases b
  · exact ⟨⟨_, _, PySem.F.excBase_ValueError, PySem.F.store_ValueError⟩⟩
  · exact ⟨⟨_, _, PySem.F.excBase_LookupError, PySem.F.store_LookupError⟩⟩
  · exact ⟨⟨_, _, PySem.F.excBase_OverflowError, PySem.F.store_OverflowError⟩⟩
  · exact ⟨⟨_, _, PySem.F.excBase_RuntimeError, PySem.F.store_RuntimeError⟩⟩
/-- a class of the text: its name, its kind, the fields that its __init__ stores (none: it has no __init__) -/
structure Row where
  name : Str
  kind : Bs
  flds : List Str
def rows0 : List Row := [⟨"InvalidTable", .v, ["argument"]⟩, ⟨"InvalidSchema", .v, []⟩, ⟨"InvalidRow", .v, ["value"]⟩, ⟨"OtherSchema", .v, []⟩, ⟨"InvalidRule", .v, ["argument"]⟩, ⟨"Misfit", .v, ["index"]⟩, ⟨"Circle", .v, ["value"]⟩, ⟨"InvalidFact", .v, ["index"]⟩, ⟨"InvalidChange", .v, ["index"]⟩, ⟨"InvalidAnswer", .v, ["value"]⟩, ⟨"InvalidTemplate", .v, ["index"]⟩, ⟨"InvalidNames", .v, ["value"]⟩, ⟨"InvalidPair", .v, []⟩, ⟨"InvalidLimit", .v, ["value"]⟩, ⟨"Unreadable", .v, ["index"]⟩, ⟨"NoLine", .v, []⟩]
def rows1 : List Row := [⟨"UnknownTable", .l, ["value"]⟩, ⟨"UnknownColumn", .l, ["value"]⟩, ⟨"OutOfRange", .l, ["value"]⟩, ⟨"NoAnswer", .l, ["value"]⟩, ⟨"NoCase", .l, ["case"]⟩, ⟨"NoBranch", .l, ["value"]⟩, ⟨"Nothing", .l, []⟩, ⟨"TooMany", .o, ["limit"]⟩, ⟨"TooDear", .o, ["number"]⟩, ⟨"Broken", .r, ["index", "spot"]⟩, ⟨"Unfit", .r, ["index"]⟩, ⟨"NeverFits", .r, []⟩, ⟨"Refused", .r, ["change"]⟩, ⟨"LookFailed", .r, ["number"]⟩, ⟨"NoLook", .r, ["value"]⟩]
def rows : List Row := rows0 ++ (rows1)
def Row.ok (K : PySem.W.Frag) (r : Row) : Bool := Oh.exAll K (He.ga K r.name) r.kind.nid r.kind.bm && ((match r.flds with
  | [] => PySem.W.excIn K (He.ga K r.name) r.kind.bm r.kind.nid
  | f :: fs => Oh.iniB K r.name && (f :: fs).all fun f => Oh.noB K (He.ga K r.name) f))
/-- isinstance of an object of the one class and the other class -/
def instB (K : PySem.W.Frag) : Bool := rows.all fun r => rows.all fun s => decide (PySem.W.kitOne K (.ref (He.ga K r.name)) (.ref (He.ga K s.name)) = some (decide (r.name = s.name)))
def kindB (K : PySem.W.Frag) : Bool := rows.all fun r => [Bs.v, Bs.l, Bs.o, Bs.r].all fun b => decide (PySem.W.kitOne K (.ref (He.ga K r.name)) (b.bm.headD .none) = some (decide (r.kind = b)))
def deepB (K : PySem.W.Frag) : Bool := rows.all fun r => decide (PySem.W.kitAny K (.ref (He.ga K r.name)) [.type "IndexError", .type "KeyError", .type "NotImplementedError"] = some false)
def noL (K : PySem.W.Frag) : Bool := K.all fun p => decide (p.2.cls ≠ .type "list")
def ex (K : PySem.W.Frag) : Bool := rows.all (fun r => r.ok K) && (instB K && (kindB K && (deepB K && (Oc.sysB K && noL K))))
def ob (s : PySem.W.SharedT) : He.AlD × Bool := Oh.obsO 5 fa fn ex (HandSHeadRun.getT s)
abbrev hk : PySem.W.Hook := Oh.hookO 5 fa fn ex
theorem ob_eq (s : PySem.W.SharedT) : ob s = hk.obs s.abs := Oh.obsO_eq (HandSHeadRun.getT_eq s)
def nm0 : List PySem.Str := ["InvalidTable", "InvalidSchema", "InvalidRow", "OtherSchema", "InvalidRule", "Misfit", "Circle", "InvalidFact", "InvalidChange", "InvalidAnswer", "InvalidTemplate", "InvalidNames", "InvalidPair", "InvalidLimit", "Unreadable", "NoLine", "UnknownTable", "UnknownColumn", "OutOfRange", "NoAnswer", "NoCase", "NoBranch", "Nothing", "TooMany", "TooDear", "Broken", "Unfit", "NeverFits", "Refused", "LookFailed"]
def nm1 : List PySem.Str := ["NoLook", "MAX_WORD", "MAX_TABLES", "MAX_COLUMNS", "MAX_STATEMENTS", "MAX_LEAST", "MAX_MOST", "MAX_ENTRIES", "MAX_WANTED", "MAX_PAPER", "MAX_ANSWERS", "MAX_OPEN", "MAX_NAMES", "_law_pen", "_law_draw", "_law_pick", "_law_any_value", "_law_some_errors", "_law_other_errors", "_law_classes", "_law_sorts"]
def nms : List PySem.Str := nm0 ++ (nm1)
set_option maxHeartbeats 0 in
theorem run (w : World) : HandSHeadRun.RunEq R (PySem.W.view R.prog [53]) hk ob 60000 nms w := by
  intro os
  kernel_rfl
end Ol
set_option Elab.async false
set_option linter.all false
set_option maxRecDepth 100000
set_option maxHeartbeats 4000000
namespace Ol
open PySem PySem.Spec PyProof.Rows L2
/-- what the walk asks of the written part and the module's names -/
structure Tx (K : PySem.W.Frag) (mg : Str → Option Value) : Prop where
  at_ : ∃ h : Heap, K.In h ∧ h.Ns mainGlobals mg
  says : Oh.Says fa fn ex K
section
variable {K : PySem.W.Frag} {mg : Str → Option Value}
theorem Tx.glo (T : Tx K mg) (i : Nat) {x : Str} (h : fa[i]? = some (.glo x) := by rfl) : mg x = some (.ref (He.ga K x)) := by
  obtain ⟨h1, X, G⟩ := T.at_
  exact He.glo_ok X G (T.says.d.fact i h)
theorem Tx.free (T : Tx K mg) (i : Nat) {x : Str} (h : fa[i]? = some (.free x) := by rfl) : mg x = none := by
  obtain ⟨h1, X, G⟩ := T.at_
  exact He.free_ok X G (T.says.d.fact i h)
theorem Tx.int_ (T : Tx K mg) (i : Nat) {x : Str} {v : Int} (h : fa[i]? = some (.int x v) := by rfl) : ∃ t, mg x = some (.int v t) := by
  obtain ⟨h1, X, G⟩ := T.at_
  exact He.int_ok X G (T.says.d.fact i h)
theorem Tx.def_ (T : Tx K mg) (i : Nat) {d : He.DefD} (h : fn[i]? = some d := by rfl) : ∃ fd, FunD K d.name d.qual d.params d.body d.scope (d.dvs K) (d.kws K) (He.fAd K d.at_) fd := T.says.d.def_ i h
theorem g_InvalidTable (T : Tx K mg) : mg "InvalidTable" = some (.ref (He.ga K "InvalidTable")) := T.glo 0
theorem g_InvalidSchema (T : Tx K mg) : mg "InvalidSchema" = some (.ref (He.ga K "InvalidSchema")) := T.glo 1
theorem g_InvalidRow (T : Tx K mg) : mg "InvalidRow" = some (.ref (He.ga K "InvalidRow")) := T.glo 2
theorem g_OtherSchema (T : Tx K mg) : mg "OtherSchema" = some (.ref (He.ga K "OtherSchema")) := T.glo 3
theorem g_InvalidRule (T : Tx K mg) : mg "InvalidRule" = some (.ref (He.ga K "InvalidRule")) := T.glo 4
theorem g_Misfit (T : Tx K mg) : mg "Misfit" = some (.ref (He.ga K "Misfit")) := T.glo 5
theorem g_Circle (T : Tx K mg) : mg "Circle" = some (.ref (He.ga K "Circle")) := T.glo 6
theorem g_InvalidFact (T : Tx K mg) : mg "InvalidFact" = some (.ref (He.ga K "InvalidFact")) := T.glo 7
theorem g_InvalidChange (T : Tx K mg) : mg "InvalidChange" = some (.ref (He.ga K "InvalidChange")) := T.glo 8
theorem g_InvalidAnswer (T : Tx K mg) : mg "InvalidAnswer" = some (.ref (He.ga K "InvalidAnswer")) := T.glo 9
theorem g_InvalidTemplate (T : Tx K mg) : mg "InvalidTemplate" = some (.ref (He.ga K "InvalidTemplate")) := T.glo 10
theorem g_InvalidNames (T : Tx K mg) : mg "InvalidNames" = some (.ref (He.ga K "InvalidNames")) := T.glo 11
theorem g_InvalidPair (T : Tx K mg) : mg "InvalidPair" = some (.ref (He.ga K "InvalidPair")) := T.glo 12
theorem g_InvalidLimit (T : Tx K mg) : mg "InvalidLimit" = some (.ref (He.ga K "InvalidLimit")) := T.glo 13
theorem g_Unreadable (T : Tx K mg) : mg "Unreadable" = some (.ref (He.ga K "Unreadable")) := T.glo 14
theorem g_NoLine (T : Tx K mg) : mg "NoLine" = some (.ref (He.ga K "NoLine")) := T.glo 15
theorem g_UnknownTable (T : Tx K mg) : mg "UnknownTable" = some (.ref (He.ga K "UnknownTable")) := T.glo 16
theorem g_UnknownColumn (T : Tx K mg) : mg "UnknownColumn" = some (.ref (He.ga K "UnknownColumn")) := T.glo 17
theorem g_OutOfRange (T : Tx K mg) : mg "OutOfRange" = some (.ref (He.ga K "OutOfRange")) := T.glo 18
theorem g_NoAnswer (T : Tx K mg) : mg "NoAnswer" = some (.ref (He.ga K "NoAnswer")) := T.glo 19
theorem g_NoCase (T : Tx K mg) : mg "NoCase" = some (.ref (He.ga K "NoCase")) := T.glo 20
theorem g_NoBranch (T : Tx K mg) : mg "NoBranch" = some (.ref (He.ga K "NoBranch")) := T.glo 21
theorem g_Nothing (T : Tx K mg) : mg "Nothing" = some (.ref (He.ga K "Nothing")) := T.glo 22
theorem g_TooMany (T : Tx K mg) : mg "TooMany" = some (.ref (He.ga K "TooMany")) := T.glo 23
theorem g_TooDear (T : Tx K mg) : mg "TooDear" = some (.ref (He.ga K "TooDear")) := T.glo 24
theorem g_Broken (T : Tx K mg) : mg "Broken" = some (.ref (He.ga K "Broken")) := T.glo 25
theorem g_Unfit (T : Tx K mg) : mg "Unfit" = some (.ref (He.ga K "Unfit")) := T.glo 26
theorem g_NeverFits (T : Tx K mg) : mg "NeverFits" = some (.ref (He.ga K "NeverFits")) := T.glo 27
theorem g_Refused (T : Tx K mg) : mg "Refused" = some (.ref (He.ga K "Refused")) := T.glo 28
theorem g_LookFailed (T : Tx K mg) : mg "LookFailed" = some (.ref (He.ga K "LookFailed")) := T.glo 29
theorem g_NoLook (T : Tx K mg) : mg "NoLook" = some (.ref (He.ga K "NoLook")) := T.glo 30
theorem g_law_pen (T : Tx K mg) : mg "_law_pen" = some (.ref (He.ga K "_law_pen")) := T.glo 31
theorem g_law_draw (T : Tx K mg) : mg "_law_draw" = some (.ref (He.ga K "_law_draw")) := T.glo 32
theorem g_law_pick (T : Tx K mg) : mg "_law_pick" = some (.ref (He.ga K "_law_pick")) := T.glo 33
theorem g_law_any_value (T : Tx K mg) : mg "_law_any_value" = some (.ref (He.ga K "_law_any_value")) := T.glo 34
theorem g_law_some_errors (T : Tx K mg) : mg "_law_some_errors" = some (.ref (He.ga K "_law_some_errors")) := T.glo 35
theorem g_law_other_errors (T : Tx K mg) : mg "_law_other_errors" = some (.ref (He.ga K "_law_other_errors")) := T.glo 36
theorem g_law_classes (T : Tx K mg) : mg "_law_classes" = some (.ref (He.ga K "_law_classes")) := T.glo 37
theorem g_law_sorts (T : Tx K mg) : mg "_law_sorts" = some (.ref (He.ga K "_law_sorts")) := T.glo 38
theorem g_law (T : Tx K mg) : mg "law" = some (.ref (He.ga K "law")) := T.glo 39
theorem f_IndexError (T : Tx K mg) : mg "IndexError" = none := T.free 40
theorem f_KeyError (T : Tx K mg) : mg "KeyError" = none := T.free 41
theorem f_LookupError (T : Tx K mg) : mg "LookupError" = none := T.free 42
theorem f_NotImplementedError (T : Tx K mg) : mg "NotImplementedError" = none := T.free 43
theorem f_OverflowError (T : Tx K mg) : mg "OverflowError" = none := T.free 44
theorem f_RuntimeError (T : Tx K mg) : mg "RuntimeError" = none := T.free 45
theorem f_ValueError (T : Tx K mg) : mg "ValueError" = none := T.free 46
theorem f_abs (T : Tx K mg) : mg "abs" = none := T.free 47
theorem f_int (T : Tx K mg) : mg "int" = none := T.free 48
theorem f_isinstance (T : Tx K mg) : mg "isinstance" = none := T.free 49
theorem f_len (T : Tx K mg) : mg "len" = none := T.free 50
theorem f_list (T : Tx K mg) : mg "list" = none := T.free 51
theorem f_min (T : Tx K mg) : mg "min" = none := T.free 52
theorem f_range (T : Tx K mg) : mg "range" = none := T.free 53
theorem f_repr (T : Tx K mg) : mg "repr" = none := T.free 54
theorem f_zip (T : Tx K mg) : mg "zip" = none := T.free 55
theorem i_MAX_WORD (T : Tx K mg) : ∃ t, mg "MAX_WORD" = some (.int 8 t) := T.int_ 56
theorem i_MAX_TABLES (T : Tx K mg) : ∃ t, mg "MAX_TABLES" = some (.int 4 t) := T.int_ 57
theorem i_MAX_COLUMNS (T : Tx K mg) : ∃ t, mg "MAX_COLUMNS" = some (.int 3 t) := T.int_ 58
theorem i_MAX_STATEMENTS (T : Tx K mg) : ∃ t, mg "MAX_STATEMENTS" = some (.int 5 t) := T.int_ 59
theorem i_MAX_LEAST (T : Tx K mg) : ∃ t, mg "MAX_LEAST" = some (.int 2 t) := T.int_ 60
theorem i_MAX_MOST (T : Tx K mg) : ∃ t, mg "MAX_MOST" = some (.int 3 t) := T.int_ 61
theorem i_MAX_ENTRIES (T : Tx K mg) : ∃ t, mg "MAX_ENTRIES" = some (.int 3 t) := T.int_ 62
theorem i_MAX_WANTED (T : Tx K mg) : ∃ t, mg "MAX_WANTED" = some (.int 16 t) := T.int_ 63
theorem i_MAX_PAPER (T : Tx K mg) : ∃ t, mg "MAX_PAPER" = some (.int 6 t) := T.int_ 64
theorem i_MAX_ANSWERS (T : Tx K mg) : ∃ t, mg "MAX_ANSWERS" = some (.int 200 t) := T.int_ 65
theorem i_MAX_OPEN (T : Tx K mg) : ∃ t, mg "MAX_OPEN" = some (.int 8 t) := T.int_ 66
theorem i_MAX_NAMES (T : Tx K mg) : ∃ t, mg "MAX_NAMES" = some (.int 4 t) := T.int_ 67
theorem D_InvalidTable_init (T : Tx K mg) : ∃ fd, FunD K d_InvalidTable_init.name d_InvalidTable_init.qual d_InvalidTable_init.params d_InvalidTable_init.body d_InvalidTable_init.scope [] [] (He.ma K (He.ga K "InvalidTable") "__init__") fd := T.def_ 0 (d := d_InvalidTable_init)
theorem D_InvalidRow_init (T : Tx K mg) : ∃ fd, FunD K d_InvalidRow_init.name d_InvalidRow_init.qual d_InvalidRow_init.params d_InvalidRow_init.body d_InvalidRow_init.scope [] [] (He.ma K (He.ga K "InvalidRow") "__init__") fd := T.def_ 1 (d := d_InvalidRow_init)
theorem D_InvalidRule_init (T : Tx K mg) : ∃ fd, FunD K d_InvalidRule_init.name d_InvalidRule_init.qual d_InvalidRule_init.params d_InvalidRule_init.body d_InvalidRule_init.scope [] [] (He.ma K (He.ga K "InvalidRule") "__init__") fd := T.def_ 2 (d := d_InvalidRule_init)
theorem D_Misfit_init (T : Tx K mg) : ∃ fd, FunD K d_Misfit_init.name d_Misfit_init.qual d_Misfit_init.params d_Misfit_init.body d_Misfit_init.scope [] [] (He.ma K (He.ga K "Misfit") "__init__") fd := T.def_ 3 (d := d_Misfit_init)
theorem D_Circle_init (T : Tx K mg) : ∃ fd, FunD K d_Circle_init.name d_Circle_init.qual d_Circle_init.params d_Circle_init.body d_Circle_init.scope [] [] (He.ma K (He.ga K "Circle") "__init__") fd := T.def_ 4 (d := d_Circle_init)
theorem D_InvalidFact_init (T : Tx K mg) : ∃ fd, FunD K d_InvalidFact_init.name d_InvalidFact_init.qual d_InvalidFact_init.params d_InvalidFact_init.body d_InvalidFact_init.scope [] [] (He.ma K (He.ga K "InvalidFact") "__init__") fd := T.def_ 5 (d := d_InvalidFact_init)
theorem D_InvalidChange_init (T : Tx K mg) : ∃ fd, FunD K d_InvalidChange_init.name d_InvalidChange_init.qual d_InvalidChange_init.params d_InvalidChange_init.body d_InvalidChange_init.scope [] [] (He.ma K (He.ga K "InvalidChange") "__init__") fd := T.def_ 6 (d := d_InvalidChange_init)
theorem D_InvalidAnswer_init (T : Tx K mg) : ∃ fd, FunD K d_InvalidAnswer_init.name d_InvalidAnswer_init.qual d_InvalidAnswer_init.params d_InvalidAnswer_init.body d_InvalidAnswer_init.scope [] [] (He.ma K (He.ga K "InvalidAnswer") "__init__") fd := T.def_ 7 (d := d_InvalidAnswer_init)
theorem D_InvalidTemplate_init (T : Tx K mg) : ∃ fd, FunD K d_InvalidTemplate_init.name d_InvalidTemplate_init.qual d_InvalidTemplate_init.params d_InvalidTemplate_init.body d_InvalidTemplate_init.scope [] [] (He.ma K (He.ga K "InvalidTemplate") "__init__") fd := T.def_ 8 (d := d_InvalidTemplate_init)
theorem D_InvalidNames_init (T : Tx K mg) : ∃ fd, FunD K d_InvalidNames_init.name d_InvalidNames_init.qual d_InvalidNames_init.params d_InvalidNames_init.body d_InvalidNames_init.scope [] [] (He.ma K (He.ga K "InvalidNames") "__init__") fd := T.def_ 9 (d := d_InvalidNames_init)
theorem D_InvalidLimit_init (T : Tx K mg) : ∃ fd, FunD K d_InvalidLimit_init.name d_InvalidLimit_init.qual d_InvalidLimit_init.params d_InvalidLimit_init.body d_InvalidLimit_init.scope [] [] (He.ma K (He.ga K "InvalidLimit") "__init__") fd := T.def_ 10 (d := d_InvalidLimit_init)
theorem D_Unreadable_init (T : Tx K mg) : ∃ fd, FunD K d_Unreadable_init.name d_Unreadable_init.qual d_Unreadable_init.params d_Unreadable_init.body d_Unreadable_init.scope [] [] (He.ma K (He.ga K "Unreadable") "__init__") fd := T.def_ 11 (d := d_Unreadable_init)
theorem D_UnknownTable_init (T : Tx K mg) : ∃ fd, FunD K d_UnknownTable_init.name d_UnknownTable_init.qual d_UnknownTable_init.params d_UnknownTable_init.body d_UnknownTable_init.scope [] [] (He.ma K (He.ga K "UnknownTable") "__init__") fd := T.def_ 12 (d := d_UnknownTable_init)
theorem D_UnknownColumn_init (T : Tx K mg) : ∃ fd, FunD K d_UnknownColumn_init.name d_UnknownColumn_init.qual d_UnknownColumn_init.params d_UnknownColumn_init.body d_UnknownColumn_init.scope [] [] (He.ma K (He.ga K "UnknownColumn") "__init__") fd := T.def_ 13 (d := d_UnknownColumn_init)
theorem D_OutOfRange_init (T : Tx K mg) : ∃ fd, FunD K d_OutOfRange_init.name d_OutOfRange_init.qual d_OutOfRange_init.params d_OutOfRange_init.body d_OutOfRange_init.scope [] [] (He.ma K (He.ga K "OutOfRange") "__init__") fd := T.def_ 14 (d := d_OutOfRange_init)
theorem D_NoAnswer_init (T : Tx K mg) : ∃ fd, FunD K d_NoAnswer_init.name d_NoAnswer_init.qual d_NoAnswer_init.params d_NoAnswer_init.body d_NoAnswer_init.scope [] [] (He.ma K (He.ga K "NoAnswer") "__init__") fd := T.def_ 15 (d := d_NoAnswer_init)
theorem D_NoCase_init (T : Tx K mg) : ∃ fd, FunD K d_NoCase_init.name d_NoCase_init.qual d_NoCase_init.params d_NoCase_init.body d_NoCase_init.scope [] [] (He.ma K (He.ga K "NoCase") "__init__") fd := T.def_ 16 (d := d_NoCase_init)
theorem D_NoBranch_init (T : Tx K mg) : ∃ fd, FunD K d_NoBranch_init.name d_NoBranch_init.qual d_NoBranch_init.params d_NoBranch_init.body d_NoBranch_init.scope [] [] (He.ma K (He.ga K "NoBranch") "__init__") fd := T.def_ 17 (d := d_NoBranch_init)
theorem D_TooMany_init (T : Tx K mg) : ∃ fd, FunD K d_TooMany_init.name d_TooMany_init.qual d_TooMany_init.params d_TooMany_init.body d_TooMany_init.scope [] [] (He.ma K (He.ga K "TooMany") "__init__") fd := T.def_ 18 (d := d_TooMany_init)
theorem D_TooDear_init (T : Tx K mg) : ∃ fd, FunD K d_TooDear_init.name d_TooDear_init.qual d_TooDear_init.params d_TooDear_init.body d_TooDear_init.scope [] [] (He.ma K (He.ga K "TooDear") "__init__") fd := T.def_ 19 (d := d_TooDear_init)
theorem D_Broken_init (T : Tx K mg) : ∃ fd, FunD K d_Broken_init.name d_Broken_init.qual d_Broken_init.params d_Broken_init.body d_Broken_init.scope [] [] (He.ma K (He.ga K "Broken") "__init__") fd := T.def_ 20 (d := d_Broken_init)
theorem D_Unfit_init (T : Tx K mg) : ∃ fd, FunD K d_Unfit_init.name d_Unfit_init.qual d_Unfit_init.params d_Unfit_init.body d_Unfit_init.scope [] [] (He.ma K (He.ga K "Unfit") "__init__") fd := T.def_ 21 (d := d_Unfit_init)
theorem D_Refused_init (T : Tx K mg) : ∃ fd, FunD K d_Refused_init.name d_Refused_init.qual d_Refused_init.params d_Refused_init.body d_Refused_init.scope [] [] (He.ma K (He.ga K "Refused") "__init__") fd := T.def_ 22 (d := d_Refused_init)
theorem D_LookFailed_init (T : Tx K mg) : ∃ fd, FunD K d_LookFailed_init.name d_LookFailed_init.qual d_LookFailed_init.params d_LookFailed_init.body d_LookFailed_init.scope [] [] (He.ma K (He.ga K "LookFailed") "__init__") fd := T.def_ 23 (d := d_LookFailed_init)
theorem D_NoLook_init (T : Tx K mg) : ∃ fd, FunD K d_NoLook_init.name d_NoLook_init.qual d_NoLook_init.params d_NoLook_init.body d_NoLook_init.scope [] [] (He.ma K (He.ga K "NoLook") "__init__") fd := T.def_ 24 (d := d_NoLook_init)
theorem D_law_pen (T : Tx K mg) : ∃ fd, FunD K d_law_pen.name d_law_pen.qual d_law_pen.params d_law_pen.body d_law_pen.scope [] [] (He.ga K "_law_pen") fd := T.def_ 25 (d := d_law_pen)
theorem D_law_draw (T : Tx K mg) : ∃ fd, FunD K d_law_draw.name d_law_draw.qual d_law_draw.params d_law_draw.body d_law_draw.scope [] [] (He.ga K "_law_draw") fd := T.def_ 26 (d := d_law_draw)
theorem D_law_pick (T : Tx K mg) : ∃ fd, FunD K d_law_pick.name d_law_pick.qual d_law_pick.params d_law_pick.body d_law_pick.scope [] [] (He.ga K "_law_pick") fd := T.def_ 27 (d := d_law_pick)
theorem D_law_any_value (T : Tx K mg) : ∃ fd, FunD K d_law_any_value.name d_law_any_value.qual d_law_any_value.params d_law_any_value.body d_law_any_value.scope [] [] (He.ga K "_law_any_value") fd := T.def_ 28 (d := d_law_any_value)
theorem D_law_some_errors (T : Tx K mg) : ∃ fd, FunD K d_law_some_errors.name d_law_some_errors.qual d_law_some_errors.params d_law_some_errors.body d_law_some_errors.scope [] [] (He.ga K "_law_some_errors") fd := T.def_ 29 (d := d_law_some_errors)
theorem D_law_other_errors (T : Tx K mg) : ∃ fd, FunD K d_law_other_errors.name d_law_other_errors.qual d_law_other_errors.params d_law_other_errors.body d_law_other_errors.scope [] [] (He.ga K "_law_other_errors") fd := T.def_ 30 (d := d_law_other_errors)
theorem D_law_classes (T : Tx K mg) : ∃ fd, FunD K d_law_classes.name d_law_classes.qual d_law_classes.params d_law_classes.body d_law_classes.scope [] [] (He.ga K "_law_classes") fd := T.def_ 31 (d := d_law_classes)
theorem D_law_sorts (T : Tx K mg) : ∃ fd, FunD K d_law_sorts.name d_law_sorts.qual d_law_sorts.params d_law_sorts.body d_law_sorts.scope [] [] (He.ga K "_law_sorts") fd := T.def_ 32 (d := d_law_sorts)
theorem D_law (T : Tx K mg) : ∃ fd, FunD K d_law.name d_law.qual d_law.params d_law.body d_law.scope [] [] (He.ga K "law") fd := T.def_ 33 (d := d_law)
end
end Ol
set_option Elab.async false
set_option linter.all false
set_option maxRecDepth 100000
set_option maxHeartbeats 4000000
namespace Ol
open PySem PySem.Spec PyProof.Rows L2 Oc
/-! ### the pen: its cells, how many draws were made, what is left of a great number -/
def penK (c : Addr) (t l : Int) : List (Key × V) := [(.inr "cells", .ref c), (.inr "turn", .int t), (.inr "left", .int l)]
theorem k_ct : ¬ ((.inr "cells" : Key) = .inr "turn") := by decide +kernel
theorem k_cl : ¬ ((.inr "cells" : Key) = .inr "left") := by decide +kernel
theorem k_tl : ¬ ((.inr "turn" : Key) = .inr "left") := by decide +kernel
theorem pen_cells (c : Addr) (t l : Int) : valV (penK c t l) (.inr "cells" : Key) = some (.ref c) := valV_pos rfl
theorem pen_turn (c : Addr) (t l : Int) : valV (penK c t l) (.inr "turn" : Key) = some (.int t) := (valV_neg k_ct).trans (valV_pos rfl)
theorem pen_left (c : Addr) (t l : Int) : valV (penK c t l) (.inr "left" : Key) = some (.int l) := (valV_neg k_cl).trans ((valV_neg k_tl).trans (valV_pos rfl))
theorem pen_putT (c : Addr) (t l u : Int) : putK (penK c t l) (.inr "turn" : Key) (.int u) = penK c u l := by
  have e : ¬ ((.inr "left" : Key) = .inr "turn") := fun z => k_tl z.symm
  show (if _ then _ else _) = _
  rw [if_pos (by show (decide _ || (decide _ || _)) = true; rw [decide_eq_true (rfl : (.inr "turn" : Key) = .inr "turn"), Bool.true_or, Bool.or_true])]
  simp only [penK, List.map_cons, List.map_nil, eq_false k_ct, eq_false e, if_false, if_true]
theorem pen_putL (c : Addr) (t l u : Int) : putK (penK c t l) (.inr "left" : Key) (.int u) = penK c t u := by
  show (if _ then _ else _) = _
  rw [if_pos (by show (decide _ || (decide _ || (decide _ || false))) = true; rw [decide_eq_true (rfl : (.inr "left" : Key) = .inr "left"), Bool.true_or, Bool.or_true, Bool.or_true])]
  simp only [penK, List.map_cons, List.map_nil, eq_false k_cl, eq_false k_tl, if_false, if_true]
def PenAt (H : Hp) (p : Addr) (n : Nat) : Prop := ∃ (c : Addr) (t l : Int) (cells : List Int), H p = some (.dK (penK c t l)) ∧ H c = some (.lst (cells.map V.int)) ∧ cells.length ≤ 63 ∧ 0 ≤ t ∧ t ≤ (n : Int) ∧ 0 ≤ l
theorem PenAt.mono {H : Hp} {p : Addr} {n m : Nat} (h : PenAt H p n) (e : n ≤ m) : PenAt H p m := by
  obtain ⟨c, t, l, cells, h1, h2, h3, h4, h5, h6⟩ := h
  exact ⟨c, t, l, cells, h1, h2, h3, h4, by omega, h6⟩
theorem PenAt.same {H H' : Hp} {p : Addr} {n : Nat} (h : PenAt H p n) (s : Same H H') : PenAt H' p n := by
  obtain ⟨c, t, l, cells, h1, h2, h3⟩ := h
  exact ⟨c, t, l, cells, s _ _ h1, s _ _ h2, h3⟩
theorem PenAt.got {H : Hp} {p : Addr} {n : Nat} (h : PenAt H p n) : ∃ c t l, H p = some (.dK (penK c t l)) := by
  obtain ⟨c, t, l, cells, h1, _⟩ := h
  exact ⟨c, t, l, h1⟩
/-- all but the pen's dict is as it was -/
def But (p : Addr) (H H' : Hp) : Prop := ∀ b o, H b = some o → b ≠ p → H' b = some o
theorem But.refl (p : Addr) (H : Hp) : But p H H := fun _ _ h _ => h
theorem But.trans {p : Addr} {H H1 H2 : Hp} (a : But p H H1) (b : But p H1 H2) : But p H H2 := fun c o e n => b c o (a c o e n) n
theorem Same.but {p : Addr} {H H' : Hp} (s : Same H H') : But p H H' := fun b o e _ => s b o e
theorem But.sqL {K : PySem.W.Frag} {p a : Addr} {H H' : Hp} {xs : List V} {kvs : List (Key × V)} (b : But p H H') (hp : H p = some (.dK kvs)) (h : SqL K H a xs) : SqL K H' a xs := by
  rcases h with (h | ⟨o, h⟩) | h
  · exact .inl (.inl (b _ _ h (ne_of h hp (by intro z; cases z))))
  · exact .inl (.inr ⟨o, b _ _ h (ne_of h hp (by intro z; cases z))⟩)
  · exact .inr h
theorem Same.upd_new {H : Hp} {a : Addr} {o : HO} (h : H a = none) : Same H (upd H a o) := fun b u e => by
  rw [upd_ne (ne_of_none e h)]
  exact e
def spPen (K : PySem.W.Frag) : Sp := fun vs H Q _ => ∃ (a : Addr) (ns : List Int), vs = [.ref a] ∧ SqL K H a (ns.map V.int) ∧ ∀ (p : Addr) (H' : Hp), PenAt H' p 0 → Same H H' → H p = none → Q (.ref p) H'
def spDraw : Sp := fun vs H Q _ => ∃ (p : Addr) (n k : Nat), vs = [.ref p, .int k] ∧ 0 < k ∧ k < 1073741824 ∧ PenAt H p n ∧ n < 1099511627776 ∧
  ∀ (j : Nat) (H' : Hp), j < k → PenAt H' p (n + 1) → But p H H' → Q (.int j) H'
def spPick (K : PySem.W.Frag) : Sp := fun vs H Q _ => ∃ (p a : Addr) (n : Nat) (xs : List V), vs = [.ref p, .ref a] ∧ SqL K H a xs ∧ 0 < xs.length ∧ xs.length < 1073741824 ∧ PenAt H p n ∧ n < 1099511627776 ∧
  ∀ (j : Nat) (x : V) (H' : Hp), xs[j]? = some x → PenAt H' p (n + 1) → But p H H' → Q x H'
theorem cut63 (ns : List Int) : ∃ ms : List Int, cutV (ns.map V.int) none (some 63) = ms.map V.int ∧ ms.length ≤ 63 := by
  have e : cutV (ns.map V.int) none (some 63) = (ns.take 63).map V.int := by
    simp [cutV, HT.sIx]
  exact ⟨ns.take 63, e, by rw [List.length_take]; omega⟩
section
variable {P : Program} {w : World} {K : PySem.W.Frag} {mg : Str → Option Value} {base : Heap}
theorem sc_pen : FnScope ["_law_script"] ["_law_script"] (defScope s_law_pen) := ⟨rfl, rfl, rfl, by decide +kernel, rfl, by decide +kernel, by decide +kernel⟩
theorem c_pen (T : Tx K mg) : Cal P w K mg base 1 "_law_pen" ["_law_script"] (spPen K) := by
  obtain ⟨fd, F⟩ := D_law_pen T
  refine Cal.mk_of (d := d_law_pen) F (FunD.ok F sc_pen (fun vs H Q E h => ?_) (fun cdv A outer s H vs Q E hr h => ?_)) (F.bindsN fun _ _ _ _ _ _ us hl => match us, hl with | [_], _ => rfl) (g_law_pen T)
  · obtain ⟨a, ns, rfl, _⟩ := h
    rfl
  · obtain ⟨a, ns, rfl, hS, k⟩ := h
    have sc := sc_pen
    refine ⟨_, (pss_one (ps_ret (pe_disp (pps_cons pe_str (pe_callTy call_list_of (by rfl) (f_list T) (by decide +kernel) (pa_cons (pe_slice sl_list (pv 0) po_none (po_some pe_int)) pa_nil)) (pps_cons pe_str pe_int (pps_cons pe_str pe_int pps_nil))) (by rfl) (by rfl) (fun z => by cases z) (by decide)))), ?_⟩
    intro p np
    have s0 : Same H (upd H p (.dK [])) := Same.upd_new np
    refine ⟨_, rfl, _, rfl, a, _, rfl, s0.seq hS, fun q nq => ?_⟩
    have npq : p ≠ q := ne_of_none upd_same nq
    obtain ⟨ms, em, hm⟩ := cut63 ns
    refine ⟨q, _, rfl, .inl (.inl (.inl upd_same)), fun l nl => ?_⟩
    have npl : p ≠ l := ne_of_none (o := .dK []) (by rw [upd_ne npq]; exact upd_same) nl
    have nql : q ≠ l := ne_of_none upd_same nl
    refine ⟨by rw [upd_ne npl, upd_ne npq]; exact upd_same, penK l 0 0, rfl, (by show 3 ≤ 15; decide), ?_⟩
    refine k p _ ⟨l, 0, 0, ms, upd_same, by rw [upd_ne npl.symm, upd_same, em], hm, by decide, by decide, by decide⟩ (fun b o e => ?_) np
    have e1 := s0 b o e
    have nb : b ≠ p := ne_of_none e np
    rw [upd_ne nb]
    exact Same.upd_new nl _ _ (Same.upd_new nq _ _ e1)
theorem get_cells {H : Hp} {p c : Addr} {t l : Int} (h : H p = some (.dK (penK c t l))) : DGet H p (.str "cells") (some (.ref c)) := by
  rw [← pen_cells c t l]
  exact DGet.k (k := .inr "cells") h
theorem get_turn {H : Hp} {p c : Addr} {t l : Int} (h : H p = some (.dK (penK c t l))) : DGet H p (.str "turn") (some (.int t)) := by
  rw [← pen_turn c t l]
  exact DGet.k (k := .inr "turn") h
theorem get_left {H : Hp} {p c : Addr} {t l : Int} (h : H p = some (.dK (penK c t l))) : DGet H p (.str "left") (some (.int l)) := by
  rw [← pen_left c t l]
  exact DGet.k (k := .inr "left") h
theorem put_turn {H : Hp} {p c : Addr} {t l u : Int} (h : H p = some (.dK (penK c t l))) : DPut H p (.str "turn") (.int u) (upd H p (.dK (penK c u l))) := by
  rw [← pen_putT c t l u]
  exact DPut.k (k := .inr "turn") h (small1000 (by show 3 ≤ 1000; decide))
theorem put_left {H : Hp} {p c : Addr} {t l u : Int} (h : H p = some (.dK (penK c t l))) : DPut H p (.str "left") (.int u) (upd H p (.dK (penK c t u))) := by
  rw [← pen_putL c t l u]
  exact DPut.k (k := .inr "left") h (small1000 (by show 3 ≤ 1000; decide))
theorem fdivN {l : Int} {k : Nat} (h : 0 ≤ l) (hk : 0 < k) : 0 ≤ l.fdiv (k : Int) := by
  rw [Int.fdiv_eq_ediv_of_nonneg _ (by omega)]
  exact Int.ediv_nonneg h (by omega)
theorem fmodN {l : Int} {k : Nat} (hk : 0 < k) : ∃ j : Nat, l.fmod (k : Int) = (j : Int) ∧ j < k := by
  rw [Int.fmod_eq_emod_of_nonneg _ (by omega)]
  have h1 := Int.emod_nonneg l (by omega : (k : Int) ≠ 0)
  have h2 := Int.emod_lt_of_pos l (by omega : (0 : Int) < k)
  exact ⟨(l % (k : Int)).toNat, by omega, by omega⟩
theorem upd_but {H : Hp} {p : Addr} {o : HO} : But p H (upd H p o) := fun b u e n => by
  rw [upd_ne n]
  exact e
def primesV : List V := [.int 2147483629, .int 2147483647, .int 2147483587, .int 2147483563, .int 2147483579]
theorem prime_at (t : Int) : ∃ z : Int, atI primesV (t.fmod 5) = some (.int z) ∧ 0 < z ∧ z < 4294967296 := by
  obtain ⟨j, ej, hj⟩ := fmodN (l := t) (k := 5) (by decide)
  have e : t.fmod 5 = (j : Int) := ej
  rw [e]
  match j, hj with
  | 0, _ => exact ⟨_, rfl, by decide, by decide⟩
  | 1, _ => exact ⟨_, rfl, by decide, by decide⟩
  | 2, _ => exact ⟨_, rfl, by decide, by decide⟩
  | 3, _ => exact ⟨_, rfl, by decide, by decide⟩
  | 4, _ => exact ⟨_, rfl, by decide, by decide⟩
theorem fmod_in {a z : Int} (h0 : 0 < z) (h1 : z < 4294967296) : -(2 ^ 64) < a.fmod z ∧ a.fmod z < 2 ^ 64 := by
  rw [Int.fmod_eq_emod_of_nonneg _ (by omega)]
  have h2 := Int.emod_nonneg a (by omega : z ≠ 0)
  have h3 := Int.emod_lt_of_pos a h0
  constructor <;> omega
theorem dpInts {H : Hp} : ∀ ns : List Int, DpAll K H (ns.map V.int) (ns.map PyData.int)
  | [] => .nil
  | n :: r => .cons (.int n) (dpInts r)
theorem shapedInts (ns : List Int) : SeqAt.shaped (.list (ns.map PyData.int)) = true := by
  have h : ∀ ms : List Int, PyData.canLayAll0 (ms.map PyData.int) = true ∧ PyData.depthAll (ms.map PyData.int) ≤ 1 := by
    intro ms
    induction ms with
    | nil => exact ⟨rfl, by decide⟩
    | cons m r ih =>
      refine ⟨by simp [PyData.canLayAll0, PyData.canLay0, ih.1], ?_⟩
      simp [PyData.depthAll, PyData.depth]
      omega
  have h1 := (h ns).1
  have h2 := (h ns).2
  have h3 : PyData.depth (.list (ns.map PyData.int)) ≤ 64 := by
    simp only [PyData.depth]
    omega
  simp only [SeqAt.shaped, PyData.canLay0, h1, Bool.true_and]
  exact decide_eq_true h3
theorem sc_draw : FnScope ["_law_pen_here", "_law_span", "_law_digit", "_law_turn", "_law_cell", "_law_primes", "_law_prime", "_law_drawn"] ["_law_pen_here", "_law_span"] (defScope s_law_draw) := ⟨rfl, rfl, rfl, by decide +kernel, rfl, by decide +kernel, by decide +kernel⟩
theorem c_draw (T : Tx K mg) : Cal P w K mg base 1 "_law_draw" ["_law_pen_here", "_law_span"] spDraw := by
  obtain ⟨fd, F⟩ := D_law_draw T
  refine Cal.mk_of (d := d_law_draw) F (FunD.ok F sc_draw (fun vs H Q E h => ?_) (fun cdv A outer s H vs Q E hr h => ?_)) (F.bindsN fun _ _ _ _ _ _ us hl => match us, hl with | [_, _], _ => rfl) (g_law_draw T)
  · obtain ⟨p, n, k, rfl, _⟩ := h
    rfl
  · obtain ⟨p, n, k, rfl, h0, hk, ⟨c, t, l, cells, hp, hc, hz, ht, htn, hl⟩, hn, kk⟩ := h
    have sc := sc_draw
    have hu := hu_of hr
    refine ⟨_, (pss_cons (ps_if (pt_cmpR op_gt (pe_dget hu (pv 0) pe_str (fun _ _ => rfl)) pe_int (nomark _)) (pss_cons (ps_set (i := 2) sc.nd rfl (Or.inl rfl) (pe_op op_modN (pe_callTy call_int1 (by rfl) (f_int T) (by decide +kernel) (pa_cons (pe_dget hu (pv 0) pe_str (fun _ _ => rfl)) pa_nil)) (pv 1)))
      (pss_cons (ps_dput hu (pv 0) pe_str (pe_op op_fdivN (pe_dget hu (pv 0) pe_str (fun _ _ => rfl)) (pv 1)) rfl)
      (pss_one (ps_ret (pv 2))))) pss_nil)
      (pss_cons (ps_set (i := 3) sc.nd rfl (Or.inl rfl) (pe_dget hu (pv 0) pe_str (fun _ _ => rfl)))
      (pss_cons (ps_dput hu (pv 0) pe_str (pe_op op_add (pv 3) pe_int) rfl)
      (pss_cons (ps_set (i := 4) sc.nd rfl (Or.inl rfl) (pe_op op_add (pe_op op_mul pe_int (pv 3)) pe_int))
      (pss_cons (ps_if (pt_cmpR (op_neD hr.units) (pe_dget hu (pv 0) pe_str (fun _ _ => rfl)) (pe_lst pa_nil) (nomark _)) (pss_one (ps_set (i := 4) sc.nd rfl (Or.inl rfl) (pe_ix ix_list (pe_dget hu (pv 0) pe_str (fun _ _ => rfl)) (pe_op op_modN (pe_callTy call_int1 (by rfl) (f_int T) (by decide +kernel) (pa_cons (pv 3) pa_nil)) (pe_callB call_len (by rfl) (f_len T) (by decide +kernel) (pa_cons (pe_dget hu (pv 0) pe_str (fun _ _ => rfl)) pa_nil))) (fun _ _ => rfl)))) pss_nil)
      (pss_cons (ps_if (PW.pt (pw_and (pt_cmpR op_lt (pv 3) (pe_callB call_len (by rfl) (f_len T) (by decide +kernel) (pa_cons (pe_dget hu (pv 0) pe_str (fun _ _ => rfl)) pa_nil)) (nomark _)) (pw_and1 (pt_cmpR op_ge (pe_callB call_abs (by rfl) (f_abs T) (by decide +kernel) (pa_cons (pv 4) pa_nil)) (pe_op op_pow pe_int pe_int) (nomark _))))) (pss_cons (ps_dput hu (pv 0) pe_str (pe_op op_fdivN (pe_op op_sub (pe_callB call_abs (by rfl) (f_abs T) (by decide +kernel) (pa_cons (pv 4) pa_nil)) (pe_op op_pow pe_int pe_int)) (pv 1)) rfl)
      (pss_one (ps_ret (pe_op op_modN (pe_callTy call_int1 (by rfl) (f_int T) (by decide +kernel) (pa_cons (pe_op op_sub (pe_callB call_abs (by rfl) (f_abs T) (by decide +kernel) (pa_cons (pv 4) pa_nil)) (pe_op op_pow pe_int pe_int)) pa_nil)) (pv 1))))) pss_nil)
      (pss_cons (ps_set (i := 5) sc.nd rfl (Or.inl rfl) (pe_lst (pa_cons pe_int (pa_cons pe_int (pa_cons pe_int (pa_cons pe_int (pa_cons pe_int pa_nil)))))))
      (pss_cons (ps_set (i := 6) sc.nd rfl (Or.inl rfl) (pe_ix ix_list (pv 5) (pe_op op_modN (pe_callTy call_int1 (by rfl) (f_int T) (by decide +kernel) (pa_cons (pv 3) pa_nil)) pe_int) (fun _ _ => rfl)))
      (pss_cons (ps_set (i := 7) sc.nd rfl (Or.inl rfl) (pe_op op_modN (pe_callTy call_int1 (by rfl) (f_int T) (by decide +kernel) (pa_cons (pe_op op_add (pe_op op_add (pe_op op_mul (pe_op op_modN (pe_callTy call_int1 (by rfl) (f_int T) (by decide +kernel) (pa_cons (pv 4) pa_nil)) (pv 6)) pe_int) (pe_op op_mul (pv 3) (pe_op op_add (pe_op op_mul pe_int (pv 3)) pe_int))) pe_int) pa_nil)) (pv 6)))
      (pss_cons (ps_set (i := 7) sc.nd rfl (Or.inl rfl) (pe_op op_modN (pe_callTy call_int1 (by rfl) (f_int T) (by decide +kernel) (pa_cons (pe_op op_mul (pv 7) (pe_op op_add (pv 7) pe_int)) pa_nil)) (pe_ix ix_list (pv 5) (pe_op op_modN (pe_callTy call_int1 (by rfl) (f_int T) (by decide +kernel) (pa_cons (pe_op op_add (pv 3) pe_int) pa_nil)) pe_int) (fun _ _ => rfl))))
      (pss_one (ps_ret (pe_op op_modN (pe_callTy call_int1 (by rfl) (f_int T) (by decide +kernel) (pa_cons (pe_op op_fdivN (pe_op op_modN (pe_callTy call_int1 (by rfl) (f_int T) (by decide +kernel) (pa_cons (pe_op op_add (pe_op op_add (pe_op op_mul (pv 7) (pv 7)) (pe_op op_mul pe_int (pv 7))) (pv 3)) pa_nil)) pe_int) pe_int) pa_nil)) (pv 1)))))))))))))), ?_⟩
    have npc : c ≠ p := ne_of hc hp (by intro z; cases z)
    have fin : ∀ (z : Int) (H' : Hp), PenAt H' p (n + 1) → But p H H' → Q (.int (z.fmod (k : Int))) H' := fun z H' a b => by
      obtain ⟨j, ej, hj⟩ := fmodN (l := z) h0
      rw [ej]
      exact kk j H' hj a b
    obtain ⟨z, ez, hz0, hz1⟩ := prime_at t
    obtain ⟨y, ey, hy0, hy1⟩ := prime_at (t + 2)
    refine ⟨_, rfl, p, _, rfl, get_left hp, _, _, rfl, rfl, _, rfl, ?_⟩
    refine ite2 (fun e => ?_) (fun e => ?_)
    · -- something is left of a great number
      obtain ⟨j, ej, hj⟩ := fmodN (l := l) h0
      refine ⟨_, rfl, p, _, rfl, get_left hp, .inl ⟨_, rfl, _, rfl, _, _, rfl, rfl, by omega, ?_⟩⟩
      refine ⟨_, rfl, p, _, rfl, get_left hp, _, rfl, _, _, rfl, rfl, ⟨by omega, by omega⟩, _, rfl, p, _, rfl, put_left hp, ?_⟩
      refine ⟨_, rfl, ?_⟩
      show Q (.int (l.fmod (k : Int))) _
      rw [ej]
      refine kk j _ hj ⟨c, t, _, cells, upd_same, by rw [upd_ne npc]; exact hc, hz, ht, by omega, fdivN hl h0⟩ upd_but
    · -- the next turn
      refine ⟨_, rfl, p, _, rfl, get_turn hp, ?_⟩
      refine ⟨_, rfl, _, _, rfl, rfl, _, rfl, p, _, rfl, put_turn hp, ?_⟩
      refine ⟨_, rfl, _, _, rfl, rfl, .inl ⟨by decide, by decide⟩, _, _, rfl, rfl, ?_⟩
      have hp1 : upd H p (.dK (penK c (t + 1) l)) p = some (.dK (penK c (t + 1) l)) := upd_same
      have hc1 : upd H p (.dK (penK c (t + 1) l)) c = some (.lst (cells.map V.int)) := by rw [upd_ne npc]; exact hc
      have b1 : But p H (upd H p (.dK (penK c (t + 1) l))) := upd_but
      generalize upd H p (.dK (penK c (t + 1) l)) = H1 at hp1 hc1 b1 ⊢
      refine ⟨_, rfl, p, _, rfl, get_cells hp1, by decide, fun q nq => ?_⟩
      have s1 : Same H1 (upd H1 q (.lst [])) := Same.upd_new nq
      have nqH : upd H1 q (.lst []) q = some (.lst []) := upd_same
      refine ⟨_, _, Dp.lst (.inl (.inl (s1 _ _ hc1))) (dpInts cells), Dp.lst (.inl (.inl nqH)) .nil, shapedInts cells, by decide, _, rfl, ?_⟩
      have hp2 := s1 _ _ hp1
      have hc2 := s1 _ _ hc1
      have b2 : But p H (upd H1 q (.lst [])) := b1.trans (Same.but s1)
      generalize upd H1 q (.lst []) = H2 at hp2 hc2 b2 ⊢
      have hsq : SqL K H2 c (cells.map V.int) := .inl (.inl hc2)
      refine ite2 (fun e2 => ?_) (fun e2 => ?_)
      · have hne : cells ≠ [] := fun z => by
          rw [z] at e2
          exact absurd e2 (by decide)
        have hpos : 0 < cells.length := List.length_pos_iff.mpr hne
        obtain ⟨j, ej, hj⟩ := fmodN (l := t) hpos
        have hz2 : (cells.map V.int).length = cells.length := List.length_map _
        refine ⟨_, rfl, p, _, rfl, get_cells hp2, _, rfl, .inl ⟨_, rfl, _, rfl, p, _, rfl, get_cells hp2, _, _, rfl, .inl ⟨_, hsq, rfl⟩, _, _, rfl, rfl, (by rw [hz2]; omega), c, _, _, .int (cells.getD j 0), rfl, rfl, hsq, ?_, ?_⟩⟩
        · rw [hz2, ej]
          refine atI_nat ?_
          rw [List.getElem?_map, List.getD_eq_getElem?_getD, List.getElem?_eq_getElem hj]
          rfl
        · refine ⟨_, rfl, _, rfl, p, _, rfl, get_cells hp2, _, _, rfl, .inl ⟨_, hsq, rfl⟩, _, _, rfl, rfl, _, rfl, ?_⟩
          have low : ∀ (A : Prop), A → A := fun _ h => h
          refine ite2 (fun e3 => ?_) (fun e3 => iteF ?_)
          · refine ⟨_, rfl, _, rfl, _, _, rfl, rfl, ⟨by decide, by decide, by decide⟩, _, _, rfl, rfl, _, rfl, ?_⟩
            refine ite2 (fun e4 => ?_) (fun e4 => ?_)
            · refine ⟨_, rfl, _, rfl, _, _, rfl, rfl, ⟨by decide, by decide, by decide⟩, _, _, rfl, rfl, _, rfl, _, _, rfl, rfl, ⟨by omega, by omega⟩, _, rfl, p, _, rfl, put_left hp2, ?_⟩
              refine ⟨_, rfl, _, rfl, _, _, rfl, rfl, ⟨by decide, by decide, by decide⟩, _, _, rfl, rfl, .inl ⟨_, rfl, _, rfl, _, _, rfl, rfl, by omega, ?_⟩⟩
              exact fin _ _ ⟨c, _, _, cells, upd_same, by rw [upd_ne npc]; exact hc2, hz, by omega, by omega, fdivN (Int.sub_nonneg_of_le (of_decide_eq_true e4)) h0⟩ (b2.trans upd_but)
            · refine ⟨by show 5 ≤ sizeLine; decide, fun r nr => ?_⟩
              have s3 := Same.upd_new (o := .lst primesV) nr
              have hr3 : SqL K (upd H2 r (.lst primesV)) r primesV := .inl (.inl upd_same)
              refine ⟨_, rfl, _, rfl, .inl ⟨_, rfl, _, _, rfl, rfl, (show (5 : Int) ≠ 0 by decide), r, primesV, _, _, rfl, rfl, hr3, ez, ?_⟩⟩
              refine ⟨_, rfl, .inl ⟨_, rfl, _, rfl, _, _, rfl, rfl, by omega, _, _, rfl, rfl, .inr ⟨by decide, by decide⟩, _, rfl, _, rfl, _, _, rfl, rfl, .inl ⟨by decide, by decide⟩, _, _, rfl, rfl, _, _, rfl, rfl, .inl ⟨by omega, by omega⟩, _, _, rfl, rfl, _, _, rfl, rfl, .inl ⟨_, rfl, _, rfl, _, _, rfl, rfl, by omega, ?_⟩⟩⟩
              refine ⟨_, rfl, _, rfl, _, _, rfl, rfl, _, _, rfl, rfl, .inl (fmod_in hz0 hz1), .inl ⟨_, rfl, _, rfl, _, rfl, _, _, rfl, rfl, .inl ⟨_, rfl, _, _, rfl, rfl, (show (5 : Int) ≠ 0 by decide), r, primesV, _, _, rfl, rfl, hr3, ey, _, _, rfl, rfl, by omega, ?_⟩⟩⟩
              refine ⟨_, rfl, _, rfl, _, _, rfl, rfl, .inl (fmod_in hy0 hy1), _, rfl, _, _, rfl, rfl, .inl ⟨by decide, by decide⟩, _, _, rfl, rfl, _, rfl, _, _, rfl, rfl, .inl ⟨_, rfl, _, _, rfl, rfl, (show (2147483549 : Int) ≠ 0 by decide), _, _, rfl, rfl, ⟨by decide, by decide⟩, .inl ⟨_, rfl, _, rfl, _, _, rfl, rfl, by omega, ?_⟩⟩⟩
              exact fin _ _ ⟨c, _, _, cells, s3 _ _ hp2, s3 _ _ hc2, hz, by omega, by omega, hl⟩ (b2.trans (Same.but s3))
          · refine ⟨by show 5 ≤ sizeLine; decide, fun r nr => ?_⟩
            have s3 := Same.upd_new (o := .lst primesV) nr
            have hr3 : SqL K (upd H2 r (.lst primesV)) r primesV := .inl (.inl upd_same)
            refine ⟨_, rfl, _, rfl, .inl ⟨_, rfl, _, _, rfl, rfl, (show (5 : Int) ≠ 0 by decide), r, primesV, _, _, rfl, rfl, hr3, ez, ?_⟩⟩
            refine ⟨_, rfl, .inl ⟨_, rfl, _, rfl, _, _, rfl, rfl, by omega, _, _, rfl, rfl, .inr ⟨by decide, by decide⟩, _, rfl, _, rfl, _, _, rfl, rfl, .inl ⟨by decide, by decide⟩, _, _, rfl, rfl, _, _, rfl, rfl, .inl ⟨by omega, by omega⟩, _, _, rfl, rfl, _, _, rfl, rfl, .inl ⟨_, rfl, _, rfl, _, _, rfl, rfl, by omega, ?_⟩⟩⟩
            refine ⟨_, rfl, _, rfl, _, _, rfl, rfl, _, _, rfl, rfl, .inl (fmod_in hz0 hz1), .inl ⟨_, rfl, _, rfl, _, rfl, _, _, rfl, rfl, .inl ⟨_, rfl, _, _, rfl, rfl, (show (5 : Int) ≠ 0 by decide), r, primesV, _, _, rfl, rfl, hr3, ey, _, _, rfl, rfl, by omega, ?_⟩⟩⟩
            refine ⟨_, rfl, _, rfl, _, _, rfl, rfl, .inl (fmod_in hy0 hy1), _, rfl, _, _, rfl, rfl, .inl ⟨by decide, by decide⟩, _, _, rfl, rfl, _, rfl, _, _, rfl, rfl, .inl ⟨_, rfl, _, _, rfl, rfl, (show (2147483549 : Int) ≠ 0 by decide), _, _, rfl, rfl, ⟨by decide, by decide⟩, .inl ⟨_, rfl, _, rfl, _, _, rfl, rfl, by omega, ?_⟩⟩⟩
            exact fin _ _ ⟨c, _, _, cells, s3 _ _ hp2, s3 _ _ hc2, hz, by omega, by omega, hl⟩ (b2.trans (Same.but s3))
      · refine ⟨_, rfl, _, rfl, p, _, rfl, get_cells hp2, _, _, rfl, .inl ⟨_, hsq, rfl⟩, _, _, rfl, rfl, _, rfl, ?_⟩
        have low : ∀ (A : Prop), A → A := fun _ h => h
        refine ite2 (fun e3 => ?_) (fun e3 => iteF ?_)
        · refine ⟨_, rfl, _, rfl, _, _, rfl, rfl, ⟨by decide, by decide, by decide⟩, _, _, rfl, rfl, _, rfl, ?_⟩
          refine ite2 (fun e4 => ?_) (fun e4 => ?_)
          · refine ⟨_, rfl, _, rfl, _, _, rfl, rfl, ⟨by decide, by decide, by decide⟩, _, _, rfl, rfl, _, rfl, _, _, rfl, rfl, ⟨by omega, by omega⟩, _, rfl, p, _, rfl, put_left hp2, ?_⟩
            refine ⟨_, rfl, _, rfl, _, _, rfl, rfl, ⟨by decide, by decide, by decide⟩, _, _, rfl, rfl, .inl ⟨_, rfl, _, rfl, _, _, rfl, rfl, by omega, ?_⟩⟩
            exact fin _ _ ⟨c, _, _, cells, upd_same, by rw [upd_ne npc]; exact hc2, hz, by omega, by omega, fdivN (Int.sub_nonneg_of_le (of_decide_eq_true e4)) h0⟩ (b2.trans upd_but)
          · refine ⟨by show 5 ≤ sizeLine; decide, fun r nr => ?_⟩
            have s3 := Same.upd_new (o := .lst primesV) nr
            have hr3 : SqL K (upd H2 r (.lst primesV)) r primesV := .inl (.inl upd_same)
            refine ⟨_, rfl, _, rfl, .inl ⟨_, rfl, _, _, rfl, rfl, (show (5 : Int) ≠ 0 by decide), r, primesV, _, _, rfl, rfl, hr3, ez, ?_⟩⟩
            refine ⟨_, rfl, .inl ⟨_, rfl, _, rfl, _, _, rfl, rfl, by omega, _, _, rfl, rfl, .inr ⟨by decide, by decide⟩, _, rfl, _, rfl, _, _, rfl, rfl, .inl ⟨by decide, by decide⟩, _, _, rfl, rfl, _, _, rfl, rfl, .inl ⟨by omega, by omega⟩, _, _, rfl, rfl, _, _, rfl, rfl, .inl ⟨_, rfl, _, rfl, _, _, rfl, rfl, by omega, ?_⟩⟩⟩
            refine ⟨_, rfl, _, rfl, _, _, rfl, rfl, _, _, rfl, rfl, .inl (fmod_in hz0 hz1), .inl ⟨_, rfl, _, rfl, _, rfl, _, _, rfl, rfl, .inl ⟨_, rfl, _, _, rfl, rfl, (show (5 : Int) ≠ 0 by decide), r, primesV, _, _, rfl, rfl, hr3, ey, _, _, rfl, rfl, by omega, ?_⟩⟩⟩
            refine ⟨_, rfl, _, rfl, _, _, rfl, rfl, .inl (fmod_in hy0 hy1), _, rfl, _, _, rfl, rfl, .inl ⟨by decide, by decide⟩, _, _, rfl, rfl, _, rfl, _, _, rfl, rfl, .inl ⟨_, rfl, _, _, rfl, rfl, (show (2147483549 : Int) ≠ 0 by decide), _, _, rfl, rfl, ⟨by decide, by decide⟩, .inl ⟨_, rfl, _, rfl, _, _, rfl, rfl, by omega, ?_⟩⟩⟩
            exact fin _ _ ⟨c, _, _, cells, s3 _ _ hp2, s3 _ _ hc2, hz, by omega, by omega, hl⟩ (b2.trans (Same.but s3))
        · refine ⟨by show 5 ≤ sizeLine; decide, fun r nr => ?_⟩
          have s3 := Same.upd_new (o := .lst primesV) nr
          have hr3 : SqL K (upd H2 r (.lst primesV)) r primesV := .inl (.inl upd_same)
          refine ⟨_, rfl, _, rfl, .inl ⟨_, rfl, _, _, rfl, rfl, (show (5 : Int) ≠ 0 by decide), r, primesV, _, _, rfl, rfl, hr3, ez, ?_⟩⟩
          refine ⟨_, rfl, .inl ⟨_, rfl, _, rfl, _, _, rfl, rfl, by omega, _, _, rfl, rfl, .inr ⟨by decide, by decide⟩, _, rfl, _, rfl, _, _, rfl, rfl, .inl ⟨by decide, by decide⟩, _, _, rfl, rfl, _, _, rfl, rfl, .inl ⟨by omega, by omega⟩, _, _, rfl, rfl, _, _, rfl, rfl, .inl ⟨_, rfl, _, rfl, _, _, rfl, rfl, by omega, ?_⟩⟩⟩
          refine ⟨_, rfl, _, rfl, _, _, rfl, rfl, _, _, rfl, rfl, .inl (fmod_in hz0 hz1), .inl ⟨_, rfl, _, rfl, _, rfl, _, _, rfl, rfl, .inl ⟨_, rfl, _, _, rfl, rfl, (show (5 : Int) ≠ 0 by decide), r, primesV, _, _, rfl, rfl, hr3, ey, _, _, rfl, rfl, by omega, ?_⟩⟩⟩
          refine ⟨_, rfl, _, rfl, _, _, rfl, rfl, .inl (fmod_in hy0 hy1), _, rfl, _, _, rfl, rfl, .inl ⟨by decide, by decide⟩, _, _, rfl, rfl, _, rfl, _, _, rfl, rfl, .inl ⟨_, rfl, _, _, rfl, rfl, (show (2147483549 : Int) ≠ 0 by decide), _, _, rfl, rfl, ⟨by decide, by decide⟩, .inl ⟨_, rfl, _, rfl, _, _, rfl, rfl, by omega, ?_⟩⟩⟩
          exact fin _ _ ⟨c, _, _, cells, s3 _ _ hp2, s3 _ _ hc2, hz, by omega, by omega, hl⟩ (b2.trans (Same.but s3))
theorem sc_pick : FnScope ["_law_pen_here", "_law_options"] ["_law_pen_here", "_law_options"] (defScope s_law_pick) := ⟨rfl, rfl, rfl, by decide +kernel, rfl, by decide +kernel, by decide +kernel⟩
theorem c_pick (T : Tx K mg) : Cal P w K mg base 2 "_law_pick" ["_law_pen_here", "_law_options"] (spPick K) := by
  have c_law_draw : Cal P w K mg base 1 "_law_draw" _ spDraw := c_draw T
  obtain ⟨fd, F⟩ := D_law_pick T
  refine Cal.mk_of (d := d_law_pick) F (FunD.ok F sc_pick (fun vs H Q E h => ?_) (fun cdv A outer s H vs Q E hr h => ?_)) (F.bindsN fun _ _ _ _ _ _ us hl => match us, hl with | [_, _], _ => rfl) (g_law_pick T)
  · obtain ⟨p, a, n, xs, rfl, _⟩ := h
    rfl
  · obtain ⟨p, a, n, xs, rfl, hS, h0, h1, hp, hn, k⟩ := h
    have sc := sc_pick
    refine ⟨_, (pss_one (ps_ret (pe_ix ix_list (pv 1) (pe_cal c_law_draw hr (pa_cons (pv 0) (pa_cons (pe_callB call_len (by rfl) (f_len T) (by decide +kernel) (pa_cons (pv 1) pa_nil)) pa_nil))) (fun _ _ => rfl)))), ?_⟩
    obtain ⟨c, t, l, hpd⟩ := hp.got
    refine ⟨_, rfl, _, rfl, _, rfl, _, _, rfl, .inl ⟨_, hS, rfl⟩, p, n, xs.length, rfl, h0, h1, hp, hn, fun j H' hj hp' hb => ?_⟩
    have hS' := hb.sqL hpd hS
    exact ⟨a, xs, _, xs[j], rfl, rfl, hS', atI_nat (List.getElem?_eq_getElem hj), k j _ H' (List.getElem?_eq_getElem hj) hp' hb⟩
end
end Ol
set_option Elab.async false
set_option linter.all false
set_option maxRecDepth 100000
set_option maxHeartbeats 8000000
namespace Ol
open PySem PySem.Spec PyProof.Rows L2 Oc
theorem line_ok {n : Nat} (h : n ≤ 1000) : n ≤ sizeLine := Nat.le_of_lt (small1000 h)
theorem all_cons {P : V → Prop} {x : V} {xs : List V} (h : P x) (r : ∀ y ∈ xs, P y) : ∀ y ∈ x :: xs, P y := fun y hy => by
  rcases List.mem_cons.mp hy with z | z
  · rw [z]
    exact h
  · exact r y z
/-- one of some odd values -/
def spAny (K : PySem.W.Frag) : Sp := fun vs H Q _ => ∃ (p : Addr) (n : Nat), vs = [.ref p] ∧ PenAt H p n ∧ n < 1099511627776 ∧ ∀ (v : V) (H' : Hp), AnyV K H' p v → PenAt H' p (n + 1) → But p H H' → Q v H'
section
variable {P : Program} {w : World} {K : PySem.W.Frag} {mg : Str → Option Value} {base : Heap}
theorem sc_any : FnScope ["_law_pen_here", "_law_some"] ["_law_pen_here"] (defScope s_law_any_value) := ⟨rfl, rfl, rfl, by decide +kernel, rfl, by decide +kernel, by decide +kernel⟩
theorem c_any (T : Tx K mg) : Cal P w K mg base 3 "_law_any_value" ["_law_pen_here"] (spAny K) := by
  have c_law_pick : Cal P w K mg base 2 "_law_pick" _ (spPick K) := c_pick T
  obtain ⟨fd, F⟩ := D_law_any_value T
  refine Cal.mk_of (d := d_law_any_value) F (FunD.ok F sc_any (fun vs H Q E h => ?_) (fun cdv A outer s H vs Q E hr h => ?_)) (F.bindsN fun _ _ _ _ _ _ us hl => match us, hl with | [_], _ => rfl) (g_law_any_value T)
  · obtain ⟨p, n, rfl, _⟩ := h
    rfl
  · obtain ⟨p, n, rfl, hp, hn, k⟩ := h
    have sc := sc_any
    obtain ⟨c, t, l, h0⟩ := hp.got
    refine ⟨_, (pss_cons (ps_set (i := 1) sc.nd rfl (Or.inl rfl) (pe_lst (pa_cons pe_non (pa_cons pe_bl (pa_cons pe_bl (pa_cons pe_int (pa_cons pe_int (pa_cons (pe_un un_neg pe_int) (pa_cons (pe_op op_pow pe_int pe_int) (pa_cons pe_str (pa_cons pe_str (pa_cons pe_str (pa_cons pe_str (pa_cons pe_str (pa_cons (pe_tup pa_nil) (pa_cons (pe_tup (pa_cons pe_str pa_nil)) (pa_cons (pe_lst (pa_cons pe_str (pa_cons pe_str pa_nil))) (pa_cons pe_dnewK (pa_cons (pe_lst (pa_cons pe_int pa_nil)) pa_nil)))))))))))))))))))
      (pss_cons (ps_set (i := 1) sc.nd rfl (Or.inl rfl) (pe_op op_cat (pv 1) (pe_lst (pa_cons (pe_tup (pa_cons pe_str (pa_cons pe_str pa_nil))) pa_nil))))
      (pss_cons (ps_set (i := 1) sc.nd rfl (Or.inl rfl) (pe_op op_cat (pv 1) (pe_lst (pa_cons (pe_tup (pa_cons pe_str (pa_cons pe_int pa_nil))) (pa_cons (pe_disp (pps_cons pe_str pe_str pps_nil) (by rfl) (by rfl) (fun z => by cases z) (by decide)) (pa_cons (pe_op op_mul_str pe_str pe_int) (pa_cons (pe_op op_mul_str pe_str pe_int) (pa_cons (pe_lst (pa_cons (pe_lst (pa_cons pe_str pa_nil)) pa_nil)) (pa_cons (pe_tup (pa_cons pe_int (pa_cons pe_int pa_nil))) (pa_cons pe_str (pa_cons (pe_lst pa_nil) (pa_cons (pe_tup (pa_cons pe_str (pa_cons (pe_tup (pa_cons pe_str (pa_cons pe_str pa_nil))) pa_nil))) (pa_cons pe_str (pa_cons (pe_lst (pa_cons pe_str pa_nil)) pa_nil))))))))))))))
      (pss_one (ps_ret (pe_cal c_law_pick hr (pa_cons (pv 0) (pa_cons (pe_op op_cat (pv 1) (pe_lst (pa_cons (pe_tup (pa_cons pe_non pa_nil)) (pa_cons (pe_tup (pa_cons pe_str (pa_cons (pe_lst (pa_cons pe_str (pa_cons pe_str pa_nil))) pa_nil))) (pa_cons pe_str pa_nil))))) pa_nil)))))))), ?_⟩
    refine ⟨_, rfl, ?_⟩
    refine ⟨_, _, rfl, rfl, ⟨by decide, by decide, by decide⟩, ?_⟩
    refine ⟨line_ok (Nat.le_of_ble_eq_true rfl), fun q1 n1 => ?_⟩
    have a1 := alc (o := .tup []) h0 n1
    have h1 := a1.s _ _ h0
    refine ⟨line_ok (Nat.le_of_ble_eq_true rfl), fun q2 n2 => ?_⟩
    have a2 := alc (o := .tup [.str "a"]) h1 n2
    have h2 := a2.s _ _ h1
    refine ⟨line_ok (Nat.le_of_ble_eq_true rfl), fun q3 n3 => ?_⟩
    have a3 := alc (o := .lst [.str "a", .str "b"]) h2 n3
    have h3 := a3.s _ _ h2
    refine fun q4 n4 => ?_
    have a4 := alc (o := .dK []) h3 n4
    have h4 := a4.s _ _ h3
    refine ⟨line_ok (Nat.le_of_ble_eq_true rfl), fun q5 n5 => ?_⟩
    have a5 := alc (o := .lst [.int 1]) h4 n5
    have h5 := a5.s _ _ h4
    refine ⟨line_ok (Nat.le_of_ble_eq_true rfl), fun q6 n6 => ?_⟩
    have a6 := alc (o := .lst [.non, .bl true, .bl false, .int 0, .int 1, .int (-1), .int (10 ^ (59 : Int).toNat), .str "", .str "a", .str "A", .str "a b", .str "ab", .ref q1, .ref q2, .ref q3, .ref q4, .ref q5]) h5 n6
    have h6 := a6.s _ _ h5
    refine ⟨_, rfl, ?_⟩
    refine ⟨line_ok (Nat.le_of_ble_eq_true rfl), fun q7 n7 => ?_⟩
    have a7 := alc (o := .tup [.str "a", .str "b"]) h6 n7
    have h7 := a7.s _ _ h6
    refine ⟨line_ok (Nat.le_of_ble_eq_true rfl), fun q8 n8 => ?_⟩
    have a8 := alc (o := .lst [.ref q7]) h7 n8
    have h8 := a8.s _ _ h7
    refine ⟨_, _, _, _, rfl, rfl, (a8.s _ _ (a7.s _ _ a6.e)), a8.e, line_ok (Nat.le_of_ble_eq_true rfl), fun q9 n9 => ?_⟩
    have a9 := alc (o := .lst (([.non, .bl true, .bl false, .int 0, .int 1, .int (-1), .int (10 ^ (59 : Int).toNat), .str "", .str "a", .str "A", .str "a b", .str "ab", .ref q1, .ref q2, .ref q3, .ref q4, .ref q5] : List V) ++ ([.ref q7] : List V))) h8 n9
    have h9 := a9.s _ _ h8
    refine ⟨_, rfl, ?_⟩
    refine ⟨line_ok (Nat.le_of_ble_eq_true rfl), fun q10 n10 => ?_⟩
    have a10 := alc (o := .tup [.str "a", .int 1]) h9 n10
    have h10 := a10.s _ _ h9
    refine fun q11 n11 => ⟨upd_same, [(.inr "a", .str "b")], rfl, by decide, ?_⟩
    have a11 := alcD (o := .dK [(.inr "a", .str "b")]) (o' := .dK []) h10 n11
    have h11 := a11.s _ _ h10
    refine ⟨_, _, rfl, rfl, by decide, by decide, by decide, ?_⟩
    refine ⟨_, _, rfl, rfl, by decide, by decide, by decide, ?_⟩
    refine ⟨line_ok (Nat.le_of_ble_eq_true rfl), fun q12 n12 => ?_⟩
    have a12 := alc (o := .lst [.str "a"]) h11 n12
    have h12 := a12.s _ _ h11
    refine ⟨line_ok (Nat.le_of_ble_eq_true rfl), fun q13 n13 => ?_⟩
    have a13 := alc (o := .lst [.ref q12]) h12 n13
    have h13 := a13.s _ _ h12
    refine ⟨line_ok (Nat.le_of_ble_eq_true rfl), fun q14 n14 => ?_⟩
    have a14 := alc (o := .tup [.int 0, .int 1]) h13 n14
    have h14 := a14.s _ _ h13
    refine ⟨line_ok (Nat.le_of_ble_eq_true rfl), fun q15 n15 => ?_⟩
    have a15 := alc (o := .lst []) h14 n15
    have h15 := a15.s _ _ h14
    refine ⟨line_ok (Nat.le_of_ble_eq_true rfl), fun q16 n16 => ?_⟩
    have a16 := alc (o := .tup [.str "b", .str "c"]) h15 n16
    have h16 := a16.s _ _ h15
    refine ⟨line_ok (Nat.le_of_ble_eq_true rfl), fun q17 n17 => ?_⟩
    have a17 := alc (o := .tup [.str "a", .ref q16]) h16 n17
    have h17 := a17.s _ _ h16
    refine ⟨line_ok (Nat.le_of_ble_eq_true rfl), fun q18 n18 => ?_⟩
    have a18 := alc (o := .lst [.str "a"]) h17 n18
    have h18 := a18.s _ _ h17
    refine ⟨line_ok (Nat.le_of_ble_eq_true rfl), fun q19 n19 => ?_⟩
    have a19 := alc (o := .lst [.ref q10, .ref q11, .str (repS "a" 8), .str (repS "a" 9), .ref q13, .ref q14, .str "aa", .ref q15, .ref q17, .str "a1", .ref q18]) h18 n19
    have h19 := a19.s _ _ h18
    refine ⟨_, _, _, _, rfl, rfl, (a19.s _ _ (a18.s _ _ (a17.s _ _ (a16.s _ _ (a15.s _ _ (a14.s _ _ (a13.s _ _ (a12.s _ _ (a11.s _ _ (a10.s _ _ a9.e)))))))))), a19.e, line_ok (Nat.le_of_ble_eq_true rfl), fun q20 n20 => ?_⟩
    have a20 := alc (o := .lst ((([.non, .bl true, .bl false, .int 0, .int 1, .int (-1), .int (10 ^ (59 : Int).toNat), .str "", .str "a", .str "A", .str "a b", .str "ab", .ref q1, .ref q2, .ref q3, .ref q4, .ref q5] : List V) ++ ([.ref q7] : List V)) ++ ([.ref q10, .ref q11, .str (repS "a" 8), .str (repS "a" 9), .ref q13, .ref q14, .str "aa", .ref q15, .ref q17, .str "a1", .ref q18] : List V))) h19 n20
    have h20 := a20.s _ _ h19
    refine ⟨_, rfl, _, rfl, ?_⟩
    refine ⟨line_ok (Nat.le_of_ble_eq_true rfl), fun q21 n21 => ?_⟩
    have a21 := alc (o := .tup [.non]) h20 n21
    have h21 := a21.s _ _ h20
    refine ⟨line_ok (Nat.le_of_ble_eq_true rfl), fun q22 n22 => ?_⟩
    have a22 := alc (o := .lst [.str "b", .str "c"]) h21 n22
    have h22 := a22.s _ _ h21
    refine ⟨line_ok (Nat.le_of_ble_eq_true rfl), fun q23 n23 => ?_⟩
    have a23 := alc (o := .tup [.str "a", .ref q22]) h22 n23
    have h23 := a23.s _ _ h22
    refine ⟨line_ok (Nat.le_of_ble_eq_true rfl), fun q24 n24 => ?_⟩
    have a24 := alc (o := .lst [.ref q21, .ref q23, .str "any"]) h23 n24
    have h24 := a24.s _ _ h23
    refine ⟨_, _, _, _, rfl, rfl, (a24.s _ _ (a23.s _ _ (a22.s _ _ (a21.s _ _ a20.e)))), a24.e, line_ok (Nat.le_of_ble_eq_true rfl), fun q25 n25 => ?_⟩
    have a25 := alc (o := .lst (((([.non, .bl true, .bl false, .int 0, .int 1, .int (-1), .int (10 ^ (59 : Int).toNat), .str "", .str "a", .str "A", .str "a b", .str "ab", .ref q1, .ref q2, .ref q3, .ref q4, .ref q5] : List V) ++ ([.ref q7] : List V)) ++ ([.ref q10, .ref q11, .str (repS "a" 8), .str (repS "a" 9), .ref q13, .ref q14, .str "aa", .ref q15, .ref q17, .str "a1", .ref q18] : List V)) ++ ([.ref q21, .ref q23, .str "any"] : List V))) h24 n25
    have h25 := a25.s _ _ h24
    have S24 := a25.s
    have S23 := a24.s.trans S24
    have S22 := a23.s.trans S23
    have S21 := a22.s.trans S22
    have S20 := a21.s.trans S21
    have S19 := a20.s.trans S20
    have S18 := a19.s.trans S19
    have S17 := a18.s.trans S18
    have S16 := a17.s.trans S17
    have S15 := a16.s.trans S16
    have S14 := a15.s.trans S15
    have S13 := a14.s.trans S14
    have S12 := a13.s.trans S13
    have S11 := a12.s.trans S12
    have S10 := a11.s.trans S11
    have S9 := a10.s.trans S10
    have S8 := a9.s.trans S9
    have S7 := a8.s.trans S8
    have S6 := a7.s.trans S7
    have S5 := a6.s.trans S6
    have S4 := a5.s.trans S5
    have S3 := a4.s.trans S4
    have S2 := a3.s.trans S3
    have S1 := a2.s.trans S2
    have S0 := a1.s.trans S1
    have f1 := delH_at (S1 _ _ a1.e) a1.n
    have f2 := delH_at (S2 _ _ a2.e) a2.n
    have f3 := delH_at (S3 _ _ a3.e) a3.n
    have f4 := delH_at (S4 _ _ a4.e) a4.n
    have f5 := delH_at (S5 _ _ a5.e) a5.n
    have f6 := delH_at (S6 _ _ a6.e) a6.n
    have f7 := delH_at (S7 _ _ a7.e) a7.n
    have f8 := delH_at (S8 _ _ a8.e) a8.n
    have f9 := delH_at (S9 _ _ a9.e) a9.n
    have f10 := delH_at (S10 _ _ a10.e) a10.n
    have f11 := delH_at (S11 _ _ a11.e) a11.n
    have f12 := delH_at (S12 _ _ a12.e) a12.n
    have f13 := delH_at (S13 _ _ a13.e) a13.n
    have f14 := delH_at (S14 _ _ a14.e) a14.n
    have f15 := delH_at (S15 _ _ a15.e) a15.n
    have f16 := delH_at (S16 _ _ a16.e) a16.n
    have f17 := delH_at (S17 _ _ a17.e) a17.n
    have f18 := delH_at (S18 _ _ a18.e) a18.n
    have f19 := delH_at (S19 _ _ a19.e) a19.n
    have f20 := delH_at (S20 _ _ a20.e) a20.n
    have f21 := delH_at (S21 _ _ a21.e) a21.n
    have f22 := delH_at (S22 _ _ a22.e) a22.n
    have f23 := delH_at (S23 _ _ a23.e) a23.n
    have f24 := delH_at (S24 _ _ a24.e) a24.n
    have all : ∀ x ∈ ((((([.non, .bl true, .bl false, .int 0, .int 1, .int (-1), .int (10 ^ (59 : Int).toNat), .str "", .str "a", .str "A", .str "a b", .str "ab", .ref q1, .ref q2, .ref q3, .ref q4, .ref q5] : List V) ++ ([.ref q7] : List V)) ++ ([.ref q10, .ref q11, .str (repS "a" 8), .str (repS "a" 9), .ref q13, .ref q14, .str "aa", .ref q15, .ref q17, .str "a1", .ref q18] : List V)) ++ ([.ref q21, .ref q23, .str "any"] : List V)) : List V), AnyV K _ p x :=
      (all_cons ⟨.none, .non, by decide +kernel⟩
      (all_cons ⟨.bool true, .bl _, by decide +kernel⟩
      (all_cons ⟨.bool false, .bl _, by decide +kernel⟩
      (all_cons ⟨.int 0, .int _, by decide +kernel⟩
      (all_cons ⟨.int 1, .int _, by decide +kernel⟩
      (all_cons ⟨.int (-1), .int _, by decide +kernel⟩
      (all_cons ⟨.int (10 ^ (59 : Int).toNat), .int _, by decide +kernel⟩
      (all_cons ⟨.str "", .str _, by decide +kernel⟩
      (all_cons ⟨.str "a", .str _, by decide +kernel⟩
      (all_cons ⟨.str "A", .str _, by decide +kernel⟩
      (all_cons ⟨.str "a b", .str _, by decide +kernel⟩
      (all_cons ⟨.str "ab", .str _, by decide +kernel⟩
      (all_cons ⟨.tuple [], .tup (.inl (.inl f1)) .nil, by decide +kernel⟩
      (all_cons ⟨.tuple [.str "a"], .tup (.inl (.inl f2)) (.cons (.str _) .nil), by decide +kernel⟩
      (all_cons ⟨.list [.str "a", .str "b"], .lst (.inl (.inl f3)) (.cons (.str _) (.cons (.str _) .nil)), by decide +kernel⟩
      (all_cons ⟨.dict [], .dic (.inl f4) .nil, by decide +kernel⟩
      (all_cons ⟨.list [.int 1], .lst (.inl (.inl f5)) (.cons (.int _) .nil), by decide +kernel⟩
      (all_cons ⟨.tuple [.str "a", .str "b"], .tup (.inl (.inl f7)) (.cons (.str _) (.cons (.str _) .nil)), by decide +kernel⟩
      (all_cons ⟨.tuple [.str "a", .int 1], .tup (.inl (.inl f10)) (.cons (.str _) (.cons (.int _) .nil)), by decide +kernel⟩
      (all_cons ⟨.dict [(.str "a", .str "b")], .dic (.inl f11) (.cons (.str _) .nil), by decide +kernel⟩
      (all_cons ⟨.str (repS "a" 8), .str _, by decide +kernel⟩
      (all_cons ⟨.str (repS "a" 9), .str _, by decide +kernel⟩
      (all_cons ⟨.list [.list [.str "a"]], .lst (.inl (.inl f13)) (.cons (.lst (.inl (.inl f12)) (.cons (.str _) .nil)) .nil), by decide +kernel⟩
      (all_cons ⟨.tuple [.int 0, .int 1], .tup (.inl (.inl f14)) (.cons (.int _) (.cons (.int _) .nil)), by decide +kernel⟩
      (all_cons ⟨.str "aa", .str _, by decide +kernel⟩
      (all_cons ⟨.list [], .lst (.inl (.inl f15)) .nil, by decide +kernel⟩
      (all_cons ⟨.tuple [.str "a", .tuple [.str "b", .str "c"]], .tup (.inl (.inl f17)) (.cons (.str _) (.cons (.tup (.inl (.inl f16)) (.cons (.str _) (.cons (.str _) .nil))) .nil)), by decide +kernel⟩
      (all_cons ⟨.str "a1", .str _, by decide +kernel⟩
      (all_cons ⟨.list [.str "a"], .lst (.inl (.inl f18)) (.cons (.str _) .nil), by decide +kernel⟩
      (all_cons ⟨.tuple [.none], .tup (.inl (.inl f21)) (.cons (.non) .nil), by decide +kernel⟩
      (all_cons ⟨.tuple [.str "a", .list [.str "b", .str "c"]], .tup (.inl (.inl f23)) (.cons (.str _) (.cons (.lst (.inl (.inl f22)) (.cons (.str _) (.cons (.str _) .nil))) .nil)), by decide +kernel⟩
      (all_cons ⟨.str "any", .str _, by decide +kernel⟩
      (fun _ h => nomatch h)))))))))))))))))))))))))))))))))
    refine ⟨p, q25, n, ((((([.non, .bl true, .bl false, .int 0, .int 1, .int (-1), .int (10 ^ (59 : Int).toNat), .str "", .str "a", .str "A", .str "a b", .str "ab", .ref q1, .ref q2, .ref q3, .ref q4, .ref q5] : List V) ++ ([.ref q7] : List V)) ++ ([.ref q10, .ref q11, .str (repS "a" 8), .str (repS "a" 9), .ref q13, .ref q14, .str "aa", .ref q15, .ref q17, .str "a1", .ref q18] : List V)) ++ ([.ref q21, .ref q23, .str "any"] : List V)) : List V), rfl, .inl (.inl a25.e), (by show 0 < 32; decide), (by show 32 < 1073741824; decide), hp.same S0, hn, fun j x H' hj hp' hb => ?_⟩
    exact k x H' ((all x (List.mem_of_getElem? hj)).keep hb) hp' ((Same.but S0).trans hb)
end
end Ol
set_option Elab.async false
set_option linter.all false
set_option maxRecDepth 100000
set_option maxHeartbeats 4000000
namespace Ol
open PySem PySem.Spec PyProof.Rows L2 Oc
section
variable {P : Program} {w : World} {K : PySem.W.Frag} {mg : Str → Option Value} {base : Heap}
theorem and4 {a b c d e f : Bool} (h : (a && (b && (c && (d && (e && f))))) = true) : a = true ∧ b = true ∧ c = true ∧ d = true ∧ e = true ∧ f = true := by
  simpa [Bool.and_eq_true] using h
theorem Tx.rows (T : Tx K mg) (i : Nat) {r : Row} (h : rows[i]? = some r := by rfl) : Oh.exAll K (He.ga K r.name) r.kind.nid r.kind.bm = true ∧ (match r.flds with
    | [] => PySem.W.excIn K (He.ga K r.name) r.kind.bm r.kind.nid
    | f :: fs => Oh.iniB K r.name && (f :: fs).all fun f => Oh.noB K (He.ga K r.name) f) = true := by
  have z := List.all_eq_true.mp (and4 T.says.more).1 r (List.mem_of_getElem? h)
  exact Bool.and_eq_true_iff.mp z
theorem Tx.cls (T : Tx K mg) (i : Nat) {r : Row} (h : Ol.rows[i]? = some r := by rfl) : ExCl K (He.ga K r.name) r.kind.nid r.kind.bm := Oh.exAll_ok r.kind.base (T.rows i h).1
theorem ini_ok {x : Str} (h : Oh.iniB K x = true) : PySem.W.findIn K (.ref (He.ga K x)) "__init__" = some (some (.ref (He.ma K (He.ga K x) "__init__"))) ∧ PySem.W.typeIn K (.ref (He.ma K (He.ga K x) "__init__")) = some (.type "function") := by
  unfold Oh.iniB at h
  obtain ⟨h1, h2⟩ := Bool.and_eq_true_iff.mp h
  exact ⟨He.eqO_ok h1, of_decide_eq_true h2⟩
theorem sc_InvalidTable : FnScope ["self", "argument"] ["self", "argument"] (defScope s_InvalidTable_init) := ⟨rfl, rfl, rfl, by decide +kernel, rfl, by decide +kernel, by decide +kernel⟩
theorem e_InvalidTable (T : Tx K mg) : Ex1 P w K mg base "InvalidTable" "argument" (He.ga K "InvalidTable") (Bs.v).nid (Bs.v).bm := by
  obtain ⟨fd, F⟩ := D_InvalidTable_init T
  have cl := T.cls 0 (r := ⟨"InvalidTable", .v, ["argument"]⟩)
  obtain ⟨h1, h2⟩ := Bool.and_eq_true_iff.mp (T.rows 0 (r := ⟨"InvalidTable", .v, ["argument"]⟩)).2
  obtain ⟨h3, _⟩ := Bool.and_eq_true_iff.mp h2
  have no := He.eqO_ok h3
  refine ⟨⟨_, fd, ⟨cl, (ini_ok h1).1, (ini_ok h1).2, g_InvalidTable T⟩, FunD.ok F sc_InvalidTable (fun vs H Q E h => ?_) (fun cdv A outer s H vs Q E hr h => ?_), F.bindsN fun _ _ _ _ _ _ us hl => match us, hl with | [_, _], _ => rfl, FunD.kbnN F (fun _ _ _ _ _ _ us ws l1 l2 => match us, ws, l1, l2 with | [_], [_], _, _ => rfl) (fun a b => a.append b)⟩, no⟩
  · obtain ⟨a, x, rfl, _⟩ := h
    rfl
  · obtain ⟨a, x, rfl, ha, k⟩ := h
    exact ⟨_, pss_one (ps_ostB (pv 0) (pv 1)), _, rfl, _, rfl, a, _, _, _, rfl, cl, no, .inl ⟨ha, k⟩⟩
theorem e_InvalidSchema (T : Tx K mg) : PySem.W.excIn K (He.ga K "InvalidSchema") (Bs.v).bm (Bs.v).nid = true := (T.rows 1 (r := ⟨"InvalidSchema", .v, []⟩)).2
theorem sc_InvalidRow : FnScope ["self", "value"] ["self", "value"] (defScope s_InvalidRow_init) := ⟨rfl, rfl, rfl, by decide +kernel, rfl, by decide +kernel, by decide +kernel⟩
theorem e_InvalidRow (T : Tx K mg) : Ex1 P w K mg base "InvalidRow" "value" (He.ga K "InvalidRow") (Bs.v).nid (Bs.v).bm := by
  obtain ⟨fd, F⟩ := D_InvalidRow_init T
  have cl := T.cls 2 (r := ⟨"InvalidRow", .v, ["value"]⟩)
  obtain ⟨h1, h2⟩ := Bool.and_eq_true_iff.mp (T.rows 2 (r := ⟨"InvalidRow", .v, ["value"]⟩)).2
  obtain ⟨h3, _⟩ := Bool.and_eq_true_iff.mp h2
  have no := He.eqO_ok h3
  refine ⟨⟨_, fd, ⟨cl, (ini_ok h1).1, (ini_ok h1).2, g_InvalidRow T⟩, FunD.ok F sc_InvalidRow (fun vs H Q E h => ?_) (fun cdv A outer s H vs Q E hr h => ?_), F.bindsN fun _ _ _ _ _ _ us hl => match us, hl with | [_, _], _ => rfl, FunD.kbnN F (fun _ _ _ _ _ _ us ws l1 l2 => match us, ws, l1, l2 with | [_], [_], _, _ => rfl) (fun a b => a.append b)⟩, no⟩
  · obtain ⟨a, x, rfl, _⟩ := h
    rfl
  · obtain ⟨a, x, rfl, ha, k⟩ := h
    exact ⟨_, pss_one (ps_ostB (pv 0) (pv 1)), _, rfl, _, rfl, a, _, _, _, rfl, cl, no, .inl ⟨ha, k⟩⟩
theorem e_OtherSchema (T : Tx K mg) : PySem.W.excIn K (He.ga K "OtherSchema") (Bs.v).bm (Bs.v).nid = true := (T.rows 3 (r := ⟨"OtherSchema", .v, []⟩)).2
theorem sc_InvalidRule : FnScope ["self", "argument"] ["self", "argument"] (defScope s_InvalidRule_init) := ⟨rfl, rfl, rfl, by decide +kernel, rfl, by decide +kernel, by decide +kernel⟩
theorem e_InvalidRule (T : Tx K mg) : Ex1 P w K mg base "InvalidRule" "argument" (He.ga K "InvalidRule") (Bs.v).nid (Bs.v).bm := by
  obtain ⟨fd, F⟩ := D_InvalidRule_init T
  have cl := T.cls 4 (r := ⟨"InvalidRule", .v, ["argument"]⟩)
  obtain ⟨h1, h2⟩ := Bool.and_eq_true_iff.mp (T.rows 4 (r := ⟨"InvalidRule", .v, ["argument"]⟩)).2
  obtain ⟨h3, _⟩ := Bool.and_eq_true_iff.mp h2
  have no := He.eqO_ok h3
  refine ⟨⟨_, fd, ⟨cl, (ini_ok h1).1, (ini_ok h1).2, g_InvalidRule T⟩, FunD.ok F sc_InvalidRule (fun vs H Q E h => ?_) (fun cdv A outer s H vs Q E hr h => ?_), F.bindsN fun _ _ _ _ _ _ us hl => match us, hl with | [_, _], _ => rfl, FunD.kbnN F (fun _ _ _ _ _ _ us ws l1 l2 => match us, ws, l1, l2 with | [_], [_], _, _ => rfl) (fun a b => a.append b)⟩, no⟩
  · obtain ⟨a, x, rfl, _⟩ := h
    rfl
  · obtain ⟨a, x, rfl, ha, k⟩ := h
    exact ⟨_, pss_one (ps_ostB (pv 0) (pv 1)), _, rfl, _, rfl, a, _, _, _, rfl, cl, no, .inl ⟨ha, k⟩⟩
theorem sc_Misfit : FnScope ["self", "index"] ["self", "index"] (defScope s_Misfit_init) := ⟨rfl, rfl, rfl, by decide +kernel, rfl, by decide +kernel, by decide +kernel⟩
theorem e_Misfit (T : Tx K mg) : Ex1 P w K mg base "Misfit" "index" (He.ga K "Misfit") (Bs.v).nid (Bs.v).bm := by
  obtain ⟨fd, F⟩ := D_Misfit_init T
  have cl := T.cls 5 (r := ⟨"Misfit", .v, ["index"]⟩)
  obtain ⟨h1, h2⟩ := Bool.and_eq_true_iff.mp (T.rows 5 (r := ⟨"Misfit", .v, ["index"]⟩)).2
  obtain ⟨h3, _⟩ := Bool.and_eq_true_iff.mp h2
  have no := He.eqO_ok h3
  refine ⟨⟨_, fd, ⟨cl, (ini_ok h1).1, (ini_ok h1).2, g_Misfit T⟩, FunD.ok F sc_Misfit (fun vs H Q E h => ?_) (fun cdv A outer s H vs Q E hr h => ?_), F.bindsN fun _ _ _ _ _ _ us hl => match us, hl with | [_, _], _ => rfl, FunD.kbnN F (fun _ _ _ _ _ _ us ws l1 l2 => match us, ws, l1, l2 with | [_], [_], _, _ => rfl) (fun a b => a.append b)⟩, no⟩
  · obtain ⟨a, x, rfl, _⟩ := h
    rfl
  · obtain ⟨a, x, rfl, ha, k⟩ := h
    exact ⟨_, pss_one (ps_ostB (pv 0) (pv 1)), _, rfl, _, rfl, a, _, _, _, rfl, cl, no, .inl ⟨ha, k⟩⟩
theorem sc_Circle : FnScope ["self", "value"] ["self", "value"] (defScope s_Circle_init) := ⟨rfl, rfl, rfl, by decide +kernel, rfl, by decide +kernel, by decide +kernel⟩
theorem e_Circle (T : Tx K mg) : Ex1 P w K mg base "Circle" "value" (He.ga K "Circle") (Bs.v).nid (Bs.v).bm := by
  obtain ⟨fd, F⟩ := D_Circle_init T
  have cl := T.cls 6 (r := ⟨"Circle", .v, ["value"]⟩)
  obtain ⟨h1, h2⟩ := Bool.and_eq_true_iff.mp (T.rows 6 (r := ⟨"Circle", .v, ["value"]⟩)).2
  obtain ⟨h3, _⟩ := Bool.and_eq_true_iff.mp h2
  have no := He.eqO_ok h3
  refine ⟨⟨_, fd, ⟨cl, (ini_ok h1).1, (ini_ok h1).2, g_Circle T⟩, FunD.ok F sc_Circle (fun vs H Q E h => ?_) (fun cdv A outer s H vs Q E hr h => ?_), F.bindsN fun _ _ _ _ _ _ us hl => match us, hl with | [_, _], _ => rfl, FunD.kbnN F (fun _ _ _ _ _ _ us ws l1 l2 => match us, ws, l1, l2 with | [_], [_], _, _ => rfl) (fun a b => a.append b)⟩, no⟩
  · obtain ⟨a, x, rfl, _⟩ := h
    rfl
  · obtain ⟨a, x, rfl, ha, k⟩ := h
    exact ⟨_, pss_one (ps_ostB (pv 0) (pv 1)), _, rfl, _, rfl, a, _, _, _, rfl, cl, no, .inl ⟨ha, k⟩⟩
theorem sc_InvalidFact : FnScope ["self", "index"] ["self", "index"] (defScope s_InvalidFact_init) := ⟨rfl, rfl, rfl, by decide +kernel, rfl, by decide +kernel, by decide +kernel⟩
theorem e_InvalidFact (T : Tx K mg) : Ex1 P w K mg base "InvalidFact" "index" (He.ga K "InvalidFact") (Bs.v).nid (Bs.v).bm := by
  obtain ⟨fd, F⟩ := D_InvalidFact_init T
  have cl := T.cls 7 (r := ⟨"InvalidFact", .v, ["index"]⟩)
  obtain ⟨h1, h2⟩ := Bool.and_eq_true_iff.mp (T.rows 7 (r := ⟨"InvalidFact", .v, ["index"]⟩)).2
  obtain ⟨h3, _⟩ := Bool.and_eq_true_iff.mp h2
  have no := He.eqO_ok h3
  refine ⟨⟨_, fd, ⟨cl, (ini_ok h1).1, (ini_ok h1).2, g_InvalidFact T⟩, FunD.ok F sc_InvalidFact (fun vs H Q E h => ?_) (fun cdv A outer s H vs Q E hr h => ?_), F.bindsN fun _ _ _ _ _ _ us hl => match us, hl with | [_, _], _ => rfl, FunD.kbnN F (fun _ _ _ _ _ _ us ws l1 l2 => match us, ws, l1, l2 with | [_], [_], _, _ => rfl) (fun a b => a.append b)⟩, no⟩
  · obtain ⟨a, x, rfl, _⟩ := h
    rfl
  · obtain ⟨a, x, rfl, ha, k⟩ := h
    exact ⟨_, pss_one (ps_ostB (pv 0) (pv 1)), _, rfl, _, rfl, a, _, _, _, rfl, cl, no, .inl ⟨ha, k⟩⟩
theorem sc_InvalidChange : FnScope ["self", "index"] ["self", "index"] (defScope s_InvalidChange_init) := ⟨rfl, rfl, rfl, by decide +kernel, rfl, by decide +kernel, by decide +kernel⟩
theorem e_InvalidChange (T : Tx K mg) : Ex1 P w K mg base "InvalidChange" "index" (He.ga K "InvalidChange") (Bs.v).nid (Bs.v).bm := by
  obtain ⟨fd, F⟩ := D_InvalidChange_init T
  have cl := T.cls 8 (r := ⟨"InvalidChange", .v, ["index"]⟩)
  obtain ⟨h1, h2⟩ := Bool.and_eq_true_iff.mp (T.rows 8 (r := ⟨"InvalidChange", .v, ["index"]⟩)).2
  obtain ⟨h3, _⟩ := Bool.and_eq_true_iff.mp h2
  have no := He.eqO_ok h3
  refine ⟨⟨_, fd, ⟨cl, (ini_ok h1).1, (ini_ok h1).2, g_InvalidChange T⟩, FunD.ok F sc_InvalidChange (fun vs H Q E h => ?_) (fun cdv A outer s H vs Q E hr h => ?_), F.bindsN fun _ _ _ _ _ _ us hl => match us, hl with | [_, _], _ => rfl, FunD.kbnN F (fun _ _ _ _ _ _ us ws l1 l2 => match us, ws, l1, l2 with | [_], [_], _, _ => rfl) (fun a b => a.append b)⟩, no⟩
  · obtain ⟨a, x, rfl, _⟩ := h
    rfl
  · obtain ⟨a, x, rfl, ha, k⟩ := h
    exact ⟨_, pss_one (ps_ostB (pv 0) (pv 1)), _, rfl, _, rfl, a, _, _, _, rfl, cl, no, .inl ⟨ha, k⟩⟩
theorem sc_InvalidAnswer : FnScope ["self", "value"] ["self", "value"] (defScope s_InvalidAnswer_init) := ⟨rfl, rfl, rfl, by decide +kernel, rfl, by decide +kernel, by decide +kernel⟩
theorem e_InvalidAnswer (T : Tx K mg) : Ex1 P w K mg base "InvalidAnswer" "value" (He.ga K "InvalidAnswer") (Bs.v).nid (Bs.v).bm := by
  obtain ⟨fd, F⟩ := D_InvalidAnswer_init T
  have cl := T.cls 9 (r := ⟨"InvalidAnswer", .v, ["value"]⟩)
  obtain ⟨h1, h2⟩ := Bool.and_eq_true_iff.mp (T.rows 9 (r := ⟨"InvalidAnswer", .v, ["value"]⟩)).2
  obtain ⟨h3, _⟩ := Bool.and_eq_true_iff.mp h2
  have no := He.eqO_ok h3
  refine ⟨⟨_, fd, ⟨cl, (ini_ok h1).1, (ini_ok h1).2, g_InvalidAnswer T⟩, FunD.ok F sc_InvalidAnswer (fun vs H Q E h => ?_) (fun cdv A outer s H vs Q E hr h => ?_), F.bindsN fun _ _ _ _ _ _ us hl => match us, hl with | [_, _], _ => rfl, FunD.kbnN F (fun _ _ _ _ _ _ us ws l1 l2 => match us, ws, l1, l2 with | [_], [_], _, _ => rfl) (fun a b => a.append b)⟩, no⟩
  · obtain ⟨a, x, rfl, _⟩ := h
    rfl
  · obtain ⟨a, x, rfl, ha, k⟩ := h
    exact ⟨_, pss_one (ps_ostB (pv 0) (pv 1)), _, rfl, _, rfl, a, _, _, _, rfl, cl, no, .inl ⟨ha, k⟩⟩
theorem sc_InvalidTemplate : FnScope ["self", "index"] ["self", "index"] (defScope s_InvalidTemplate_init) := ⟨rfl, rfl, rfl, by decide +kernel, rfl, by decide +kernel, by decide +kernel⟩
theorem e_InvalidTemplate (T : Tx K mg) : Ex1 P w K mg base "InvalidTemplate" "index" (He.ga K "InvalidTemplate") (Bs.v).nid (Bs.v).bm := by
  obtain ⟨fd, F⟩ := D_InvalidTemplate_init T
  have cl := T.cls 10 (r := ⟨"InvalidTemplate", .v, ["index"]⟩)
  obtain ⟨h1, h2⟩ := Bool.and_eq_true_iff.mp (T.rows 10 (r := ⟨"InvalidTemplate", .v, ["index"]⟩)).2
  obtain ⟨h3, _⟩ := Bool.and_eq_true_iff.mp h2
  have no := He.eqO_ok h3
  refine ⟨⟨_, fd, ⟨cl, (ini_ok h1).1, (ini_ok h1).2, g_InvalidTemplate T⟩, FunD.ok F sc_InvalidTemplate (fun vs H Q E h => ?_) (fun cdv A outer s H vs Q E hr h => ?_), F.bindsN fun _ _ _ _ _ _ us hl => match us, hl with | [_, _], _ => rfl, FunD.kbnN F (fun _ _ _ _ _ _ us ws l1 l2 => match us, ws, l1, l2 with | [_], [_], _, _ => rfl) (fun a b => a.append b)⟩, no⟩
  · obtain ⟨a, x, rfl, _⟩ := h
    rfl
  · obtain ⟨a, x, rfl, ha, k⟩ := h
    exact ⟨_, pss_one (ps_ostB (pv 0) (pv 1)), _, rfl, _, rfl, a, _, _, _, rfl, cl, no, .inl ⟨ha, k⟩⟩
theorem sc_InvalidNames : FnScope ["self", "value"] ["self", "value"] (defScope s_InvalidNames_init) := ⟨rfl, rfl, rfl, by decide +kernel, rfl, by decide +kernel, by decide +kernel⟩
theorem e_InvalidNames (T : Tx K mg) : Ex1 P w K mg base "InvalidNames" "value" (He.ga K "InvalidNames") (Bs.v).nid (Bs.v).bm := by
  obtain ⟨fd, F⟩ := D_InvalidNames_init T
  have cl := T.cls 11 (r := ⟨"InvalidNames", .v, ["value"]⟩)
  obtain ⟨h1, h2⟩ := Bool.and_eq_true_iff.mp (T.rows 11 (r := ⟨"InvalidNames", .v, ["value"]⟩)).2
  obtain ⟨h3, _⟩ := Bool.and_eq_true_iff.mp h2
  have no := He.eqO_ok h3
  refine ⟨⟨_, fd, ⟨cl, (ini_ok h1).1, (ini_ok h1).2, g_InvalidNames T⟩, FunD.ok F sc_InvalidNames (fun vs H Q E h => ?_) (fun cdv A outer s H vs Q E hr h => ?_), F.bindsN fun _ _ _ _ _ _ us hl => match us, hl with | [_, _], _ => rfl, FunD.kbnN F (fun _ _ _ _ _ _ us ws l1 l2 => match us, ws, l1, l2 with | [_], [_], _, _ => rfl) (fun a b => a.append b)⟩, no⟩
  · obtain ⟨a, x, rfl, _⟩ := h
    rfl
  · obtain ⟨a, x, rfl, ha, k⟩ := h
    exact ⟨_, pss_one (ps_ostB (pv 0) (pv 1)), _, rfl, _, rfl, a, _, _, _, rfl, cl, no, .inl ⟨ha, k⟩⟩
theorem e_InvalidPair (T : Tx K mg) : PySem.W.excIn K (He.ga K "InvalidPair") (Bs.v).bm (Bs.v).nid = true := (T.rows 12 (r := ⟨"InvalidPair", .v, []⟩)).2
theorem sc_InvalidLimit : FnScope ["self", "value"] ["self", "value"] (defScope s_InvalidLimit_init) := ⟨rfl, rfl, rfl, by decide +kernel, rfl, by decide +kernel, by decide +kernel⟩
theorem e_InvalidLimit (T : Tx K mg) : Ex1 P w K mg base "InvalidLimit" "value" (He.ga K "InvalidLimit") (Bs.v).nid (Bs.v).bm := by
  obtain ⟨fd, F⟩ := D_InvalidLimit_init T
  have cl := T.cls 13 (r := ⟨"InvalidLimit", .v, ["value"]⟩)
  obtain ⟨h1, h2⟩ := Bool.and_eq_true_iff.mp (T.rows 13 (r := ⟨"InvalidLimit", .v, ["value"]⟩)).2
  obtain ⟨h3, _⟩ := Bool.and_eq_true_iff.mp h2
  have no := He.eqO_ok h3
  refine ⟨⟨_, fd, ⟨cl, (ini_ok h1).1, (ini_ok h1).2, g_InvalidLimit T⟩, FunD.ok F sc_InvalidLimit (fun vs H Q E h => ?_) (fun cdv A outer s H vs Q E hr h => ?_), F.bindsN fun _ _ _ _ _ _ us hl => match us, hl with | [_, _], _ => rfl, FunD.kbnN F (fun _ _ _ _ _ _ us ws l1 l2 => match us, ws, l1, l2 with | [_], [_], _, _ => rfl) (fun a b => a.append b)⟩, no⟩
  · obtain ⟨a, x, rfl, _⟩ := h
    rfl
  · obtain ⟨a, x, rfl, ha, k⟩ := h
    exact ⟨_, pss_one (ps_ostB (pv 0) (pv 1)), _, rfl, _, rfl, a, _, _, _, rfl, cl, no, .inl ⟨ha, k⟩⟩
theorem sc_Unreadable : FnScope ["self", "index"] ["self", "index"] (defScope s_Unreadable_init) := ⟨rfl, rfl, rfl, by decide +kernel, rfl, by decide +kernel, by decide +kernel⟩
theorem e_Unreadable (T : Tx K mg) : Ex1 P w K mg base "Unreadable" "index" (He.ga K "Unreadable") (Bs.v).nid (Bs.v).bm := by
  obtain ⟨fd, F⟩ := D_Unreadable_init T
  have cl := T.cls 14 (r := ⟨"Unreadable", .v, ["index"]⟩)
  obtain ⟨h1, h2⟩ := Bool.and_eq_true_iff.mp (T.rows 14 (r := ⟨"Unreadable", .v, ["index"]⟩)).2
  obtain ⟨h3, _⟩ := Bool.and_eq_true_iff.mp h2
  have no := He.eqO_ok h3
  refine ⟨⟨_, fd, ⟨cl, (ini_ok h1).1, (ini_ok h1).2, g_Unreadable T⟩, FunD.ok F sc_Unreadable (fun vs H Q E h => ?_) (fun cdv A outer s H vs Q E hr h => ?_), F.bindsN fun _ _ _ _ _ _ us hl => match us, hl with | [_, _], _ => rfl, FunD.kbnN F (fun _ _ _ _ _ _ us ws l1 l2 => match us, ws, l1, l2 with | [_], [_], _, _ => rfl) (fun a b => a.append b)⟩, no⟩
  · obtain ⟨a, x, rfl, _⟩ := h
    rfl
  · obtain ⟨a, x, rfl, ha, k⟩ := h
    exact ⟨_, pss_one (ps_ostB (pv 0) (pv 1)), _, rfl, _, rfl, a, _, _, _, rfl, cl, no, .inl ⟨ha, k⟩⟩
theorem e_NoLine (T : Tx K mg) : PySem.W.excIn K (He.ga K "NoLine") (Bs.v).bm (Bs.v).nid = true := (T.rows 15 (r := ⟨"NoLine", .v, []⟩)).2
theorem sc_UnknownTable : FnScope ["self", "value"] ["self", "value"] (defScope s_UnknownTable_init) := ⟨rfl, rfl, rfl, by decide +kernel, rfl, by decide +kernel, by decide +kernel⟩
theorem e_UnknownTable (T : Tx K mg) : Ex1 P w K mg base "UnknownTable" "value" (He.ga K "UnknownTable") (Bs.l).nid (Bs.l).bm := by
  obtain ⟨fd, F⟩ := D_UnknownTable_init T
  have cl := T.cls 16 (r := ⟨"UnknownTable", .l, ["value"]⟩)
  obtain ⟨h1, h2⟩ := Bool.and_eq_true_iff.mp (T.rows 16 (r := ⟨"UnknownTable", .l, ["value"]⟩)).2
  obtain ⟨h3, _⟩ := Bool.and_eq_true_iff.mp h2
  have no := He.eqO_ok h3
  refine ⟨⟨_, fd, ⟨cl, (ini_ok h1).1, (ini_ok h1).2, g_UnknownTable T⟩, FunD.ok F sc_UnknownTable (fun vs H Q E h => ?_) (fun cdv A outer s H vs Q E hr h => ?_), F.bindsN fun _ _ _ _ _ _ us hl => match us, hl with | [_, _], _ => rfl, FunD.kbnN F (fun _ _ _ _ _ _ us ws l1 l2 => match us, ws, l1, l2 with | [_], [_], _, _ => rfl) (fun a b => a.append b)⟩, no⟩
  · obtain ⟨a, x, rfl, _⟩ := h
    rfl
  · obtain ⟨a, x, rfl, ha, k⟩ := h
    exact ⟨_, pss_one (ps_ostB (pv 0) (pv 1)), _, rfl, _, rfl, a, _, _, _, rfl, cl, no, .inl ⟨ha, k⟩⟩
theorem sc_UnknownColumn : FnScope ["self", "value"] ["self", "value"] (defScope s_UnknownColumn_init) := ⟨rfl, rfl, rfl, by decide +kernel, rfl, by decide +kernel, by decide +kernel⟩
theorem e_UnknownColumn (T : Tx K mg) : Ex1 P w K mg base "UnknownColumn" "value" (He.ga K "UnknownColumn") (Bs.l).nid (Bs.l).bm := by
  obtain ⟨fd, F⟩ := D_UnknownColumn_init T
  have cl := T.cls 17 (r := ⟨"UnknownColumn", .l, ["value"]⟩)
  obtain ⟨h1, h2⟩ := Bool.and_eq_true_iff.mp (T.rows 17 (r := ⟨"UnknownColumn", .l, ["value"]⟩)).2
  obtain ⟨h3, _⟩ := Bool.and_eq_true_iff.mp h2
  have no := He.eqO_ok h3
  refine ⟨⟨_, fd, ⟨cl, (ini_ok h1).1, (ini_ok h1).2, g_UnknownColumn T⟩, FunD.ok F sc_UnknownColumn (fun vs H Q E h => ?_) (fun cdv A outer s H vs Q E hr h => ?_), F.bindsN fun _ _ _ _ _ _ us hl => match us, hl with | [_, _], _ => rfl, FunD.kbnN F (fun _ _ _ _ _ _ us ws l1 l2 => match us, ws, l1, l2 with | [_], [_], _, _ => rfl) (fun a b => a.append b)⟩, no⟩
  · obtain ⟨a, x, rfl, _⟩ := h
    rfl
  · obtain ⟨a, x, rfl, ha, k⟩ := h
    exact ⟨_, pss_one (ps_ostB (pv 0) (pv 1)), _, rfl, _, rfl, a, _, _, _, rfl, cl, no, .inl ⟨ha, k⟩⟩
theorem sc_OutOfRange : FnScope ["self", "value"] ["self", "value"] (defScope s_OutOfRange_init) := ⟨rfl, rfl, rfl, by decide +kernel, rfl, by decide +kernel, by decide +kernel⟩
theorem e_OutOfRange (T : Tx K mg) : Ex1 P w K mg base "OutOfRange" "value" (He.ga K "OutOfRange") (Bs.l).nid (Bs.l).bm := by
  obtain ⟨fd, F⟩ := D_OutOfRange_init T
  have cl := T.cls 18 (r := ⟨"OutOfRange", .l, ["value"]⟩)
  obtain ⟨h1, h2⟩ := Bool.and_eq_true_iff.mp (T.rows 18 (r := ⟨"OutOfRange", .l, ["value"]⟩)).2
  obtain ⟨h3, _⟩ := Bool.and_eq_true_iff.mp h2
  have no := He.eqO_ok h3
  refine ⟨⟨_, fd, ⟨cl, (ini_ok h1).1, (ini_ok h1).2, g_OutOfRange T⟩, FunD.ok F sc_OutOfRange (fun vs H Q E h => ?_) (fun cdv A outer s H vs Q E hr h => ?_), F.bindsN fun _ _ _ _ _ _ us hl => match us, hl with | [_, _], _ => rfl, FunD.kbnN F (fun _ _ _ _ _ _ us ws l1 l2 => match us, ws, l1, l2 with | [_], [_], _, _ => rfl) (fun a b => a.append b)⟩, no⟩
  · obtain ⟨a, x, rfl, _⟩ := h
    rfl
  · obtain ⟨a, x, rfl, ha, k⟩ := h
    exact ⟨_, pss_one (ps_ostB (pv 0) (pv 1)), _, rfl, _, rfl, a, _, _, _, rfl, cl, no, .inl ⟨ha, k⟩⟩
theorem sc_NoAnswer : FnScope ["self", "value"] ["self", "value"] (defScope s_NoAnswer_init) := ⟨rfl, rfl, rfl, by decide +kernel, rfl, by decide +kernel, by decide +kernel⟩
theorem e_NoAnswer (T : Tx K mg) : Ex1 P w K mg base "NoAnswer" "value" (He.ga K "NoAnswer") (Bs.l).nid (Bs.l).bm := by
  obtain ⟨fd, F⟩ := D_NoAnswer_init T
  have cl := T.cls 19 (r := ⟨"NoAnswer", .l, ["value"]⟩)
  obtain ⟨h1, h2⟩ := Bool.and_eq_true_iff.mp (T.rows 19 (r := ⟨"NoAnswer", .l, ["value"]⟩)).2
  obtain ⟨h3, _⟩ := Bool.and_eq_true_iff.mp h2
  have no := He.eqO_ok h3
  refine ⟨⟨_, fd, ⟨cl, (ini_ok h1).1, (ini_ok h1).2, g_NoAnswer T⟩, FunD.ok F sc_NoAnswer (fun vs H Q E h => ?_) (fun cdv A outer s H vs Q E hr h => ?_), F.bindsN fun _ _ _ _ _ _ us hl => match us, hl with | [_, _], _ => rfl, FunD.kbnN F (fun _ _ _ _ _ _ us ws l1 l2 => match us, ws, l1, l2 with | [_], [_], _, _ => rfl) (fun a b => a.append b)⟩, no⟩
  · obtain ⟨a, x, rfl, _⟩ := h
    rfl
  · obtain ⟨a, x, rfl, ha, k⟩ := h
    exact ⟨_, pss_one (ps_ostB (pv 0) (pv 1)), _, rfl, _, rfl, a, _, _, _, rfl, cl, no, .inl ⟨ha, k⟩⟩
theorem sc_NoCase : FnScope ["self", "case"] ["self", "case"] (defScope s_NoCase_init) := ⟨rfl, rfl, rfl, by decide +kernel, rfl, by decide +kernel, by decide +kernel⟩
theorem e_NoCase (T : Tx K mg) : Ex1 P w K mg base "NoCase" "case" (He.ga K "NoCase") (Bs.l).nid (Bs.l).bm := by
  obtain ⟨fd, F⟩ := D_NoCase_init T
  have cl := T.cls 20 (r := ⟨"NoCase", .l, ["case"]⟩)
  obtain ⟨h1, h2⟩ := Bool.and_eq_true_iff.mp (T.rows 20 (r := ⟨"NoCase", .l, ["case"]⟩)).2
  obtain ⟨h3, _⟩ := Bool.and_eq_true_iff.mp h2
  have no := He.eqO_ok h3
  refine ⟨⟨_, fd, ⟨cl, (ini_ok h1).1, (ini_ok h1).2, g_NoCase T⟩, FunD.ok F sc_NoCase (fun vs H Q E h => ?_) (fun cdv A outer s H vs Q E hr h => ?_), F.bindsN fun _ _ _ _ _ _ us hl => match us, hl with | [_, _], _ => rfl, FunD.kbnN F (fun _ _ _ _ _ _ us ws l1 l2 => match us, ws, l1, l2 with | [_], [_], _, _ => rfl) (fun a b => a.append b)⟩, no⟩
  · obtain ⟨a, x, rfl, _⟩ := h
    rfl
  · obtain ⟨a, x, rfl, ha, k⟩ := h
    exact ⟨_, pss_one (ps_ostB (pv 0) (pv 1)), _, rfl, _, rfl, a, _, _, _, rfl, cl, no, .inl ⟨ha, k⟩⟩
theorem sc_NoBranch : FnScope ["self", "value"] ["self", "value"] (defScope s_NoBranch_init) := ⟨rfl, rfl, rfl, by decide +kernel, rfl, by decide +kernel, by decide +kernel⟩
theorem e_NoBranch (T : Tx K mg) : Ex1 P w K mg base "NoBranch" "value" (He.ga K "NoBranch") (Bs.l).nid (Bs.l).bm := by
  obtain ⟨fd, F⟩ := D_NoBranch_init T
  have cl := T.cls 21 (r := ⟨"NoBranch", .l, ["value"]⟩)
  obtain ⟨h1, h2⟩ := Bool.and_eq_true_iff.mp (T.rows 21 (r := ⟨"NoBranch", .l, ["value"]⟩)).2
  obtain ⟨h3, _⟩ := Bool.and_eq_true_iff.mp h2
  have no := He.eqO_ok h3
  refine ⟨⟨_, fd, ⟨cl, (ini_ok h1).1, (ini_ok h1).2, g_NoBranch T⟩, FunD.ok F sc_NoBranch (fun vs H Q E h => ?_) (fun cdv A outer s H vs Q E hr h => ?_), F.bindsN fun _ _ _ _ _ _ us hl => match us, hl with | [_, _], _ => rfl, FunD.kbnN F (fun _ _ _ _ _ _ us ws l1 l2 => match us, ws, l1, l2 with | [_], [_], _, _ => rfl) (fun a b => a.append b)⟩, no⟩
  · obtain ⟨a, x, rfl, _⟩ := h
    rfl
  · obtain ⟨a, x, rfl, ha, k⟩ := h
    exact ⟨_, pss_one (ps_ostB (pv 0) (pv 1)), _, rfl, _, rfl, a, _, _, _, rfl, cl, no, .inl ⟨ha, k⟩⟩
theorem e_Nothing (T : Tx K mg) : PySem.W.excIn K (He.ga K "Nothing") (Bs.l).bm (Bs.l).nid = true := (T.rows 22 (r := ⟨"Nothing", .l, []⟩)).2
theorem sc_TooMany : FnScope ["self", "limit"] ["self", "limit"] (defScope s_TooMany_init) := ⟨rfl, rfl, rfl, by decide +kernel, rfl, by decide +kernel, by decide +kernel⟩
theorem e_TooMany (T : Tx K mg) : Ex1 P w K mg base "TooMany" "limit" (He.ga K "TooMany") (Bs.o).nid (Bs.o).bm := by
  obtain ⟨fd, F⟩ := D_TooMany_init T
  have cl := T.cls 23 (r := ⟨"TooMany", .o, ["limit"]⟩)
  obtain ⟨h1, h2⟩ := Bool.and_eq_true_iff.mp (T.rows 23 (r := ⟨"TooMany", .o, ["limit"]⟩)).2
  obtain ⟨h3, _⟩ := Bool.and_eq_true_iff.mp h2
  have no := He.eqO_ok h3
  refine ⟨⟨_, fd, ⟨cl, (ini_ok h1).1, (ini_ok h1).2, g_TooMany T⟩, FunD.ok F sc_TooMany (fun vs H Q E h => ?_) (fun cdv A outer s H vs Q E hr h => ?_), F.bindsN fun _ _ _ _ _ _ us hl => match us, hl with | [_, _], _ => rfl, FunD.kbnN F (fun _ _ _ _ _ _ us ws l1 l2 => match us, ws, l1, l2 with | [_], [_], _, _ => rfl) (fun a b => a.append b)⟩, no⟩
  · obtain ⟨a, x, rfl, _⟩ := h
    rfl
  · obtain ⟨a, x, rfl, ha, k⟩ := h
    exact ⟨_, pss_one (ps_ostB (pv 0) (pv 1)), _, rfl, _, rfl, a, _, _, _, rfl, cl, no, .inl ⟨ha, k⟩⟩
theorem sc_TooDear : FnScope ["self", "number"] ["self", "number"] (defScope s_TooDear_init) := ⟨rfl, rfl, rfl, by decide +kernel, rfl, by decide +kernel, by decide +kernel⟩
theorem e_TooDear (T : Tx K mg) : Ex1 P w K mg base "TooDear" "number" (He.ga K "TooDear") (Bs.o).nid (Bs.o).bm := by
  obtain ⟨fd, F⟩ := D_TooDear_init T
  have cl := T.cls 24 (r := ⟨"TooDear", .o, ["number"]⟩)
  obtain ⟨h1, h2⟩ := Bool.and_eq_true_iff.mp (T.rows 24 (r := ⟨"TooDear", .o, ["number"]⟩)).2
  obtain ⟨h3, _⟩ := Bool.and_eq_true_iff.mp h2
  have no := He.eqO_ok h3
  refine ⟨⟨_, fd, ⟨cl, (ini_ok h1).1, (ini_ok h1).2, g_TooDear T⟩, FunD.ok F sc_TooDear (fun vs H Q E h => ?_) (fun cdv A outer s H vs Q E hr h => ?_), F.bindsN fun _ _ _ _ _ _ us hl => match us, hl with | [_, _], _ => rfl, FunD.kbnN F (fun _ _ _ _ _ _ us ws l1 l2 => match us, ws, l1, l2 with | [_], [_], _, _ => rfl) (fun a b => a.append b)⟩, no⟩
  · obtain ⟨a, x, rfl, _⟩ := h
    rfl
  · obtain ⟨a, x, rfl, ha, k⟩ := h
    exact ⟨_, pss_one (ps_ostB (pv 0) (pv 1)), _, rfl, _, rfl, a, _, _, _, rfl, cl, no, .inl ⟨ha, k⟩⟩
theorem vals_rev : ∀ {zs : List V} {ws : List Value}, Vals zs ws → Vals zs.reverse ws.reverse
  | _, _, .nil => .nil
  | _, _, .cons r t => by
    rw [List.reverse_cons, List.reverse_cons]
    exact (vals_rev t).append (.cons r .nil)
theorem sc_Broken : FnScope ["self", "index", "spot"] ["self", "index", "spot"] (defScope s_Broken_init) := ⟨rfl, rfl, rfl, by decide +kernel, rfl, by decide +kernel, by decide +kernel⟩
theorem e_Broken (T : Tx K mg) : Ex2 P w K mg base "Broken" "index" "spot" (He.ga K "Broken") (Bs.r).nid (Bs.r).bm := by
  obtain ⟨fd, F⟩ := D_Broken_init T
  have cl := T.cls 25 (r := ⟨"Broken", .r, ["index", "spot"]⟩)
  obtain ⟨h1, h2⟩ := Bool.and_eq_true_iff.mp (T.rows 25 (r := ⟨"Broken", .r, ["index", "spot"]⟩)).2
  obtain ⟨h3, h4⟩ := Bool.and_eq_true_iff.mp h2
  obtain ⟨h5, _⟩ := Bool.and_eq_true_iff.mp h4
  have noF := He.eqO_ok h3
  have noG := He.eqO_ok h5
  refine ⟨⟨_, fd, ⟨cl, (ini_ok h1).1, (ini_ok h1).2, g_Broken T⟩, FunD.ok F sc_Broken (fun vs H Q E h => ?_) (fun cdv A outer s H vs Q E hr h => ?_), F.bindsN fun _ _ _ _ _ _ us hl => match us, hl with | [_, _, _], _ => rfl, FunD.kbnN F (fun _ _ _ _ _ _ us ws l1 l2 => match us, ws, l1, l2 with | [_], [_, _], _, _ => rfl) (fun a b => a.append (vals_rev b))⟩, noF, noG⟩
  · obtain ⟨a, x, y, rfl, _⟩ := h
    rfl
  · obtain ⟨a, x, y, rfl, ha, k⟩ := h
    refine ⟨_, pss_cons (ps_ostB (pv 0) (pv 1)) (pss_one (ps_ostB (pv 0) (pv 2))), _, rfl, _, rfl, a, _, _, _, rfl, cl, noF, .inl ⟨ha, fun dx nd ne => ?_⟩⟩
    exact ⟨_, rfl, _, rfl, a, _, _, _, rfl, cl, noG, .inr ⟨dx, _, upd_same, (by rw [upd_ne ne]; exact upd_same), (by show 1 ≤ 900; decide), k dx nd ne⟩⟩
theorem sc_Unfit : FnScope ["self", "index"] ["self", "index"] (defScope s_Unfit_init) := ⟨rfl, rfl, rfl, by decide +kernel, rfl, by decide +kernel, by decide +kernel⟩
theorem e_Unfit (T : Tx K mg) : Ex1 P w K mg base "Unfit" "index" (He.ga K "Unfit") (Bs.r).nid (Bs.r).bm := by
  obtain ⟨fd, F⟩ := D_Unfit_init T
  have cl := T.cls 26 (r := ⟨"Unfit", .r, ["index"]⟩)
  obtain ⟨h1, h2⟩ := Bool.and_eq_true_iff.mp (T.rows 26 (r := ⟨"Unfit", .r, ["index"]⟩)).2
  obtain ⟨h3, _⟩ := Bool.and_eq_true_iff.mp h2
  have no := He.eqO_ok h3
  refine ⟨⟨_, fd, ⟨cl, (ini_ok h1).1, (ini_ok h1).2, g_Unfit T⟩, FunD.ok F sc_Unfit (fun vs H Q E h => ?_) (fun cdv A outer s H vs Q E hr h => ?_), F.bindsN fun _ _ _ _ _ _ us hl => match us, hl with | [_, _], _ => rfl, FunD.kbnN F (fun _ _ _ _ _ _ us ws l1 l2 => match us, ws, l1, l2 with | [_], [_], _, _ => rfl) (fun a b => a.append b)⟩, no⟩
  · obtain ⟨a, x, rfl, _⟩ := h
    rfl
  · obtain ⟨a, x, rfl, ha, k⟩ := h
    exact ⟨_, pss_one (ps_ostB (pv 0) (pv 1)), _, rfl, _, rfl, a, _, _, _, rfl, cl, no, .inl ⟨ha, k⟩⟩
theorem e_NeverFits (T : Tx K mg) : PySem.W.excIn K (He.ga K "NeverFits") (Bs.r).bm (Bs.r).nid = true := (T.rows 27 (r := ⟨"NeverFits", .r, []⟩)).2
theorem sc_Refused : FnScope ["self", "change"] ["self", "change"] (defScope s_Refused_init) := ⟨rfl, rfl, rfl, by decide +kernel, rfl, by decide +kernel, by decide +kernel⟩
theorem e_Refused (T : Tx K mg) : Ex1 P w K mg base "Refused" "change" (He.ga K "Refused") (Bs.r).nid (Bs.r).bm := by
  obtain ⟨fd, F⟩ := D_Refused_init T
  have cl := T.cls 28 (r := ⟨"Refused", .r, ["change"]⟩)
  obtain ⟨h1, h2⟩ := Bool.and_eq_true_iff.mp (T.rows 28 (r := ⟨"Refused", .r, ["change"]⟩)).2
  obtain ⟨h3, _⟩ := Bool.and_eq_true_iff.mp h2
  have no := He.eqO_ok h3
  refine ⟨⟨_, fd, ⟨cl, (ini_ok h1).1, (ini_ok h1).2, g_Refused T⟩, FunD.ok F sc_Refused (fun vs H Q E h => ?_) (fun cdv A outer s H vs Q E hr h => ?_), F.bindsN fun _ _ _ _ _ _ us hl => match us, hl with | [_, _], _ => rfl, FunD.kbnN F (fun _ _ _ _ _ _ us ws l1 l2 => match us, ws, l1, l2 with | [_], [_], _, _ => rfl) (fun a b => a.append b)⟩, no⟩
  · obtain ⟨a, x, rfl, _⟩ := h
    rfl
  · obtain ⟨a, x, rfl, ha, k⟩ := h
    exact ⟨_, pss_one (ps_ostB (pv 0) (pv 1)), _, rfl, _, rfl, a, _, _, _, rfl, cl, no, .inl ⟨ha, k⟩⟩
theorem sc_LookFailed : FnScope ["self", "number"] ["self", "number"] (defScope s_LookFailed_init) := ⟨rfl, rfl, rfl, by decide +kernel, rfl, by decide +kernel, by decide +kernel⟩
theorem e_LookFailed (T : Tx K mg) : Ex1 P w K mg base "LookFailed" "number" (He.ga K "LookFailed") (Bs.r).nid (Bs.r).bm := by
  obtain ⟨fd, F⟩ := D_LookFailed_init T
  have cl := T.cls 29 (r := ⟨"LookFailed", .r, ["number"]⟩)
  obtain ⟨h1, h2⟩ := Bool.and_eq_true_iff.mp (T.rows 29 (r := ⟨"LookFailed", .r, ["number"]⟩)).2
  obtain ⟨h3, _⟩ := Bool.and_eq_true_iff.mp h2
  have no := He.eqO_ok h3
  refine ⟨⟨_, fd, ⟨cl, (ini_ok h1).1, (ini_ok h1).2, g_LookFailed T⟩, FunD.ok F sc_LookFailed (fun vs H Q E h => ?_) (fun cdv A outer s H vs Q E hr h => ?_), F.bindsN fun _ _ _ _ _ _ us hl => match us, hl with | [_, _], _ => rfl, FunD.kbnN F (fun _ _ _ _ _ _ us ws l1 l2 => match us, ws, l1, l2 with | [_], [_], _, _ => rfl) (fun a b => a.append b)⟩, no⟩
  · obtain ⟨a, x, rfl, _⟩ := h
    rfl
  · obtain ⟨a, x, rfl, ha, k⟩ := h
    exact ⟨_, pss_one (ps_ostB (pv 0) (pv 1)), _, rfl, _, rfl, a, _, _, _, rfl, cl, no, .inl ⟨ha, k⟩⟩
theorem sc_NoLook : FnScope ["self", "value"] ["self", "value"] (defScope s_NoLook_init) := ⟨rfl, rfl, rfl, by decide +kernel, rfl, by decide +kernel, by decide +kernel⟩
theorem e_NoLook (T : Tx K mg) : Ex1 P w K mg base "NoLook" "value" (He.ga K "NoLook") (Bs.r).nid (Bs.r).bm := by
  obtain ⟨fd, F⟩ := D_NoLook_init T
  have cl := T.cls 30 (r := ⟨"NoLook", .r, ["value"]⟩)
  obtain ⟨h1, h2⟩ := Bool.and_eq_true_iff.mp (T.rows 30 (r := ⟨"NoLook", .r, ["value"]⟩)).2
  obtain ⟨h3, _⟩ := Bool.and_eq_true_iff.mp h2
  have no := He.eqO_ok h3
  refine ⟨⟨_, fd, ⟨cl, (ini_ok h1).1, (ini_ok h1).2, g_NoLook T⟩, FunD.ok F sc_NoLook (fun vs H Q E h => ?_) (fun cdv A outer s H vs Q E hr h => ?_), F.bindsN fun _ _ _ _ _ _ us hl => match us, hl with | [_, _], _ => rfl, FunD.kbnN F (fun _ _ _ _ _ _ us ws l1 l2 => match us, ws, l1, l2 with | [_], [_], _, _ => rfl) (fun a b => a.append b)⟩, no⟩
  · obtain ⟨a, x, rfl, _⟩ := h
    rfl
  · obtain ⟨a, x, rfl, ha, k⟩ := h
    exact ⟨_, pss_one (ps_ostB (pv 0) (pv 1)), _, rfl, _, rfl, a, _, _, _, rfl, cl, no, .inl ⟨ha, k⟩⟩
end
end Ol
set_option Elab.async false
set_option linter.all false
set_option maxRecDepth 100000
set_option maxHeartbeats 8000000
namespace Ol
open PySem PySem.Spec PyProof.Rows L2 Oc
theorem lk1 {f : Str} {x : V} {r : List (Str × V)} : List.lookup f ((f, x) :: r) = some x := by
  rw [lookup_put, if_pos rfl]
theorem lk2 {f g : Str} {x y : V} (h : ¬ f = g) : List.lookup f [(g, y), (f, x)] = some x := by
  rw [lookup_put, if_neg h]
  exact lk1
/-- at v: an error of the text's class r, the thing x twice, the word of its kind -/
def TupE (K : PySem.W.Frag) (x : V) (H : Hp) (v : V) : Prop := ∃ (a : Addr) (e : V) (i : Nat) (r : Row) (fs : List (Str × V)), v = .ref a ∧ H a = some (.tup [e, x, x, .str r.kind.word]) ∧ rows[i]? = some r ∧ ExAt H e (He.ga K r.name) fs
theorem TupE.but {K : PySem.W.Frag} {x v : V} {H H' : Hp} {l : Addr} {ys : List V} (h : TupE K x H v) (hl : H l = some (.lst ys)) (b : ∀ c o, H c = some o → c ≠ l → H' c = some o) : TupE K x H' v := by
  obtain ⟨a, e, i, r, fs, ev, ha, hr, c, ec, hc⟩ := h
  have na : a ≠ l := ne_of ha hl (by intro z; cases z)
  have ext : ∀ {c : Addr} {f : Heap → Prop}, H c = some (.ext f) → c ≠ l := fun q => ne_of q hl (by intro z; cases z)
  refine ⟨a, e, i, r, fs, ev, b _ _ ha na, hr, c, ec, ?_⟩
  rcases hc with ⟨h1, h2⟩ | ⟨d, h1, h2⟩
  · exact .inl ⟨h1, b _ _ h2 (ext h2)⟩
  · exact .inr ⟨d, b _ _ h1 (ext h1), b _ _ h2 (ext h2)⟩
/-- what was found so far stands in a list of its own at l -/
structure Found (K : PySem.W.Frag) (H0 : Hp) (x : V) (l : Addr) (H : Hp) (n : Nat) : Prop where
  s : Same H0 H
  nw : H0 l = none
  at_ : ∃ xs, H l = some (.lst xs) ∧ xs.length = n ∧ ∀ v ∈ xs, TupE K x H v
section
variable {K : PySem.W.Frag} {H0 H H1 : Hp} {x : V} {l : Addr} {n : Nat}
theorem Found.start {l : Addr} (nl : H0 l = none) : Found K H0 x l (upd H0 l (.lst [])) 0 := ⟨Same.alloc nl, nl, [], upd_same, rfl, fun v h => nomatch h⟩
theorem Found.step (c : Found K H0 x l H n) (s : Same H H1) : Found K H0 x l H1 n := by
  obtain ⟨xs, h1, h2, h3⟩ := c.at_
  exact ⟨c.s.trans s, c.nw, xs, s _ _ h1, h2, fun v hv => (h3 v hv).but h1 fun a o e _ => s a o e⟩
theorem Found.sq (c : Found K H0 x l H n) : SqL K H l (Classical.choose c.at_) := .inl (.inl (Classical.choose_spec c.at_).1)
theorem Found.put (c : Found K H0 x l H n) {q : Addr} {e : V} {fs : List (Str × V)} (i : Nat) {r : Row} (hr : rows[i]? = some r) (he : ExAt H e (He.ga K r.name) fs) (nq : H q = none) :
    ∃ xs, upd H q (.tup [e, x, x, .str r.kind.word]) l = some (.lst xs) ∧ xs.length = n ∧ Found K H0 x l (upd (upd H q (.tup [e, x, x, .str r.kind.word])) l (.lst (xs ++ [.ref q]))) (n + 1) := by
  obtain ⟨xs, h1, h2, h3⟩ := c.at_
  have s1 : Same H (upd H q (.tup [e, x, x, .str r.kind.word])) := Same.alloc nq
  have hl := s1 _ _ h1
  have nl : q ≠ l := (ne_of_none h1 nq).symm
  refine ⟨xs, hl, h2, fun b o eb => ?_, c.nw, _, upd_same, by rw [List.length_append, h2] <;> rfl, fun v hv => ?_⟩
  · rw [upd_ne (ne_of_none eb c.nw)]
    exact s1 _ _ (c.s b o eb)
  · have keep : ∀ a o, upd H q (.tup [e, x, x, .str r.kind.word]) a = some o → a ≠ l → upd (upd H q (.tup [e, x, x, .str r.kind.word])) l (.lst (xs ++ [.ref q])) a = some o := fun a o z na => by
      rw [upd_ne na]
      exact z
    rcases List.mem_append.mp hv with z | z
    · exact ((h3 v z).but h1 fun a o eb _ => s1 a o eb).but hl keep
    · cases List.mem_singleton.mp z
      exact TupE.but ⟨q, e, i, r, fs, rfl, upd_same, hr, he.same s1⟩ hl keep
end
/-- twelve of the errors; the others -/
def spFound (K : PySem.W.Frag) : Sp := fun vs H Q _ => ∃ x : V, vs = [x] ∧ ∀ (l : Addr) (H' : Hp) (n : Nat), Found K H x l H' n → n ≤ 20 → Q (.ref l) H'
section
variable {P : Program} {w : World} {K : PySem.W.Frag} {mg : Str → Option Value} {base : Heap}
theorem Tx.no (T : Tx K mg) (i : Nat) {r : Row} {f : Str} (h : Ol.rows[i]? = some r := by rfl) (hf : f ∈ r.flds := by simp) : PySem.W.findIn K (.ref (He.ga K r.name)) f = some none := by
  have z := (T.rows i h).2
  revert z
  cases e : r.flds with
  | nil =>
    rw [e] at hf
    cases hf
  | cons g gs =>
    intro z
    rw [e] at hf
    exact He.eqO_ok (List.all_eq_true.mp (Bool.and_eq_true_iff.mp z).2 f hf)
theorem n_InvalidTable_argument (T : Tx K mg) : PySem.W.findIn K (.ref (He.ga K "InvalidTable")) "argument" = some none := T.no 0 (r := ⟨"InvalidTable", .v, ["argument"]⟩)
theorem n_InvalidRow_value (T : Tx K mg) : PySem.W.findIn K (.ref (He.ga K "InvalidRow")) "value" = some none := T.no 2 (r := ⟨"InvalidRow", .v, ["value"]⟩)
theorem n_InvalidRule_argument (T : Tx K mg) : PySem.W.findIn K (.ref (He.ga K "InvalidRule")) "argument" = some none := T.no 4 (r := ⟨"InvalidRule", .v, ["argument"]⟩)
theorem n_Misfit_index (T : Tx K mg) : PySem.W.findIn K (.ref (He.ga K "Misfit")) "index" = some none := T.no 5 (r := ⟨"Misfit", .v, ["index"]⟩)
theorem n_Circle_value (T : Tx K mg) : PySem.W.findIn K (.ref (He.ga K "Circle")) "value" = some none := T.no 6 (r := ⟨"Circle", .v, ["value"]⟩)
theorem n_InvalidFact_index (T : Tx K mg) : PySem.W.findIn K (.ref (He.ga K "InvalidFact")) "index" = some none := T.no 7 (r := ⟨"InvalidFact", .v, ["index"]⟩)
theorem n_InvalidChange_index (T : Tx K mg) : PySem.W.findIn K (.ref (He.ga K "InvalidChange")) "index" = some none := T.no 8 (r := ⟨"InvalidChange", .v, ["index"]⟩)
theorem n_InvalidAnswer_value (T : Tx K mg) : PySem.W.findIn K (.ref (He.ga K "InvalidAnswer")) "value" = some none := T.no 9 (r := ⟨"InvalidAnswer", .v, ["value"]⟩)
theorem n_InvalidTemplate_index (T : Tx K mg) : PySem.W.findIn K (.ref (He.ga K "InvalidTemplate")) "index" = some none := T.no 10 (r := ⟨"InvalidTemplate", .v, ["index"]⟩)
theorem n_InvalidNames_value (T : Tx K mg) : PySem.W.findIn K (.ref (He.ga K "InvalidNames")) "value" = some none := T.no 11 (r := ⟨"InvalidNames", .v, ["value"]⟩)
theorem n_InvalidLimit_value (T : Tx K mg) : PySem.W.findIn K (.ref (He.ga K "InvalidLimit")) "value" = some none := T.no 13 (r := ⟨"InvalidLimit", .v, ["value"]⟩)
theorem n_Unreadable_index (T : Tx K mg) : PySem.W.findIn K (.ref (He.ga K "Unreadable")) "index" = some none := T.no 14 (r := ⟨"Unreadable", .v, ["index"]⟩)
theorem n_UnknownTable_value (T : Tx K mg) : PySem.W.findIn K (.ref (He.ga K "UnknownTable")) "value" = some none := T.no 16 (r := ⟨"UnknownTable", .l, ["value"]⟩)
theorem n_UnknownColumn_value (T : Tx K mg) : PySem.W.findIn K (.ref (He.ga K "UnknownColumn")) "value" = some none := T.no 17 (r := ⟨"UnknownColumn", .l, ["value"]⟩)
theorem n_OutOfRange_value (T : Tx K mg) : PySem.W.findIn K (.ref (He.ga K "OutOfRange")) "value" = some none := T.no 18 (r := ⟨"OutOfRange", .l, ["value"]⟩)
theorem n_NoAnswer_value (T : Tx K mg) : PySem.W.findIn K (.ref (He.ga K "NoAnswer")) "value" = some none := T.no 19 (r := ⟨"NoAnswer", .l, ["value"]⟩)
theorem n_NoCase_case (T : Tx K mg) : PySem.W.findIn K (.ref (He.ga K "NoCase")) "case" = some none := T.no 20 (r := ⟨"NoCase", .l, ["case"]⟩)
theorem n_NoBranch_value (T : Tx K mg) : PySem.W.findIn K (.ref (He.ga K "NoBranch")) "value" = some none := T.no 21 (r := ⟨"NoBranch", .l, ["value"]⟩)
theorem n_TooMany_limit (T : Tx K mg) : PySem.W.findIn K (.ref (He.ga K "TooMany")) "limit" = some none := T.no 23 (r := ⟨"TooMany", .o, ["limit"]⟩)
theorem n_TooDear_number (T : Tx K mg) : PySem.W.findIn K (.ref (He.ga K "TooDear")) "number" = some none := T.no 24 (r := ⟨"TooDear", .o, ["number"]⟩)
theorem n_Broken_index (T : Tx K mg) : PySem.W.findIn K (.ref (He.ga K "Broken")) "index" = some none := T.no 25 (r := ⟨"Broken", .r, ["index", "spot"]⟩)
theorem n_Broken_spot (T : Tx K mg) : PySem.W.findIn K (.ref (He.ga K "Broken")) "spot" = some none := T.no 25 (r := ⟨"Broken", .r, ["index", "spot"]⟩)
theorem n_Unfit_index (T : Tx K mg) : PySem.W.findIn K (.ref (He.ga K "Unfit")) "index" = some none := T.no 26 (r := ⟨"Unfit", .r, ["index"]⟩)
theorem n_Refused_change (T : Tx K mg) : PySem.W.findIn K (.ref (He.ga K "Refused")) "change" = some none := T.no 28 (r := ⟨"Refused", .r, ["change"]⟩)
theorem n_LookFailed_number (T : Tx K mg) : PySem.W.findIn K (.ref (He.ga K "LookFailed")) "number" = some none := T.no 29 (r := ⟨"LookFailed", .r, ["number"]⟩)
theorem n_NoLook_value (T : Tx K mg) : PySem.W.findIn K (.ref (He.ga K "NoLook")) "value" = some none := T.no 30 (r := ⟨"NoLook", .r, ["value"]⟩)
theorem sc_some : FnScope ["_law_thing", "_law_found", "_law_error"] ["_law_thing"] (defScope s_law_some_errors) := ⟨rfl, rfl, rfl, by decide +kernel, rfl, by decide +kernel, by decide +kernel⟩
theorem c_some (T : Tx K mg) : Cal P w K mg base 3 "_law_some_errors" ["_law_thing"] (spFound K) := by
  obtain ⟨fd, F⟩ := D_law_some_errors T
  refine Cal.mk_of (d := d_law_some_errors) F (FunD.ok F sc_some (fun vs H Q E h => ?_) (fun cdv A outer s H vs Q E hr h => ?_)) (F.bindsN fun _ _ _ _ _ _ us hl => match us, hl with | [_], _ => rfl) (g_law_some_errors T)
  · obtain ⟨x, rfl, _⟩ := h
    rfl
  · obtain ⟨x, rfl, kk⟩ := h
    have sc := sc_some
    refine ⟨_, (pss_cons (ps_set (i := 1) sc.nd rfl (Or.inl rfl) (pe_lst pa_nil))
      (pss_cons (ps_set (i := 2) sc.nd rfl (Or.inl rfl) (pe_ex1k (e_InvalidTable T) hr (pv 0)))
      (pss_cons (ps_expr (pe_bm PySem.F.plainAttrs_list PySem.F.slot_list_append PySem.F.type_list_append mt_append (pv 1) (pa_cons (pe_tup (pa_cons (pe_ex1 (e_InvalidTable T) hr (pv 0)) (pa_cons (pe_fldE (pv 2) rfl) (pa_cons (pe_fldE (pe_ex1 (e_InvalidTable T) hr (pv 0)) rfl) (pa_cons pe_str pa_nil))))) pa_nil)))
      (pss_cons (ps_set (i := 2) sc.nd rfl (Or.inl rfl) (pe_ex1k (e_InvalidRow T) hr (pv 0)))
      (pss_cons (ps_expr (pe_bm PySem.F.plainAttrs_list PySem.F.slot_list_append PySem.F.type_list_append mt_append (pv 1) (pa_cons (pe_tup (pa_cons (pe_ex1 (e_InvalidRow T) hr (pv 0)) (pa_cons (pe_fldE (pv 2) rfl) (pa_cons (pe_fldE (pe_ex1 (e_InvalidRow T) hr (pv 0)) rfl) (pa_cons pe_str pa_nil))))) pa_nil)))
      (pss_cons (ps_set (i := 2) sc.nd rfl (Or.inl rfl) (pe_ex1k (e_InvalidRule T) hr (pv 0)))
      (pss_cons (ps_expr (pe_bm PySem.F.plainAttrs_list PySem.F.slot_list_append PySem.F.type_list_append mt_append (pv 1) (pa_cons (pe_tup (pa_cons (pe_ex1 (e_InvalidRule T) hr (pv 0)) (pa_cons (pe_fldE (pv 2) rfl) (pa_cons (pe_fldE (pe_ex1 (e_InvalidRule T) hr (pv 0)) rfl) (pa_cons pe_str pa_nil))))) pa_nil)))
      (pss_cons (ps_expr (pe_bm PySem.F.plainAttrs_list PySem.F.slot_list_append PySem.F.type_list_append mt_append (pv 1) (pa_cons (pe_tup (pa_cons (pe_ex1 (e_Misfit T) hr (pv 0)) (pa_cons (pe_fldE (pe_ex1k (e_Misfit T) hr (pv 0)) rfl) (pa_cons (pe_fldE (pe_ex1 (e_Misfit T) hr (pv 0)) rfl) (pa_cons pe_str pa_nil))))) pa_nil)))
      (pss_cons (ps_expr (pe_bm PySem.F.plainAttrs_list PySem.F.slot_list_append PySem.F.type_list_append mt_append (pv 1) (pa_cons (pe_tup (pa_cons (pe_ex1 (e_Circle T) hr (pv 0)) (pa_cons (pe_fldE (pe_ex1k (e_Circle T) hr (pv 0)) rfl) (pa_cons (pe_fldE (pe_ex1 (e_Circle T) hr (pv 0)) rfl) (pa_cons pe_str pa_nil))))) pa_nil)))
      (pss_cons (ps_set (i := 2) sc.nd rfl (Or.inl rfl) (pe_ex1k (e_InvalidFact T) hr (pv 0)))
      (pss_cons (ps_expr (pe_bm PySem.F.plainAttrs_list PySem.F.slot_list_append PySem.F.type_list_append mt_append (pv 1) (pa_cons (pe_tup (pa_cons (pe_ex1 (e_InvalidFact T) hr (pv 0)) (pa_cons (pe_fldE (pv 2) rfl) (pa_cons (pe_fldE (pe_ex1 (e_InvalidFact T) hr (pv 0)) rfl) (pa_cons pe_str pa_nil))))) pa_nil)))
      (pss_cons (ps_set (i := 2) sc.nd rfl (Or.inl rfl) (pe_ex1k (e_InvalidChange T) hr (pv 0)))
      (pss_cons (ps_expr (pe_bm PySem.F.plainAttrs_list PySem.F.slot_list_append PySem.F.type_list_append mt_append (pv 1) (pa_cons (pe_tup (pa_cons (pe_ex1 (e_InvalidChange T) hr (pv 0)) (pa_cons (pe_fldE (pv 2) rfl) (pa_cons (pe_fldE (pe_ex1 (e_InvalidChange T) hr (pv 0)) rfl) (pa_cons pe_str pa_nil))))) pa_nil)))
      (pss_cons (ps_set (i := 2) sc.nd rfl (Or.inl rfl) (pe_ex1k (e_InvalidAnswer T) hr (pv 0)))
      (pss_cons (ps_expr (pe_bm PySem.F.plainAttrs_list PySem.F.slot_list_append PySem.F.type_list_append mt_append (pv 1) (pa_cons (pe_tup (pa_cons (pe_ex1 (e_InvalidAnswer T) hr (pv 0)) (pa_cons (pe_fldE (pv 2) rfl) (pa_cons (pe_fldE (pe_ex1 (e_InvalidAnswer T) hr (pv 0)) rfl) (pa_cons pe_str pa_nil))))) pa_nil)))
      (pss_cons (ps_set (i := 2) sc.nd rfl (Or.inl rfl) (pe_ex1k (e_InvalidTemplate T) hr (pv 0)))
      (pss_cons (ps_expr (pe_bm PySem.F.plainAttrs_list PySem.F.slot_list_append PySem.F.type_list_append mt_append (pv 1) (pa_cons (pe_tup (pa_cons (pe_ex1 (e_InvalidTemplate T) hr (pv 0)) (pa_cons (pe_fldE (pv 2) rfl) (pa_cons (pe_fldE (pe_ex1 (e_InvalidTemplate T) hr (pv 0)) rfl) (pa_cons pe_str pa_nil))))) pa_nil)))
      (pss_cons (ps_set (i := 2) sc.nd rfl (Or.inl rfl) (pe_ex1k (e_InvalidNames T) hr (pv 0)))
      (pss_cons (ps_expr (pe_bm PySem.F.plainAttrs_list PySem.F.slot_list_append PySem.F.type_list_append mt_append (pv 1) (pa_cons (pe_tup (pa_cons (pe_ex1 (e_InvalidNames T) hr (pv 0)) (pa_cons (pe_fldE (pv 2) rfl) (pa_cons (pe_fldE (pe_ex1 (e_InvalidNames T) hr (pv 0)) rfl) (pa_cons pe_str pa_nil))))) pa_nil)))
      (pss_cons (ps_set (i := 2) sc.nd rfl (Or.inl rfl) (pe_ex1k (e_InvalidLimit T) hr (pv 0)))
      (pss_cons (ps_expr (pe_bm PySem.F.plainAttrs_list PySem.F.slot_list_append PySem.F.type_list_append mt_append (pv 1) (pa_cons (pe_tup (pa_cons (pe_ex1 (e_InvalidLimit T) hr (pv 0)) (pa_cons (pe_fldE (pv 2) rfl) (pa_cons (pe_fldE (pe_ex1 (e_InvalidLimit T) hr (pv 0)) rfl) (pa_cons pe_str pa_nil))))) pa_nil)))
      (pss_cons (ps_set (i := 2) sc.nd rfl (Or.inl rfl) (pe_ex1k (e_Unreadable T) hr (pv 0)))
      (pss_cons (ps_expr (pe_bm PySem.F.plainAttrs_list PySem.F.slot_list_append PySem.F.type_list_append mt_append (pv 1) (pa_cons (pe_tup (pa_cons (pe_ex1 (e_Unreadable T) hr (pv 0)) (pa_cons (pe_fldE (pv 2) rfl) (pa_cons (pe_fldE (pe_ex1 (e_Unreadable T) hr (pv 0)) rfl) (pa_cons pe_str pa_nil))))) pa_nil)))
      (pss_one (ps_ret (pv 1)))))))))))))))))))))))))), ?_⟩
    refine ⟨line_ok (by decide), fun l nl => ?_⟩
    have c0 : Found K H x l (upd H l (.lst [])) 0 := Found.start nl
    refine ⟨_, rfl, ans1k (fun v1 H1 s1 e1 => ?_)⟩
    have c1 := c0.step s1
    refine ⟨_, rfl, .inl ⟨rfl, _, c1.sq⟩, ?_⟩
    refine ⟨_, rfl, ans1 (fun v2 H2 s2 e2 => ?_)⟩
    have c2 := c1.step s2
    refine ⟨_, rfl, ?_⟩
    refine ⟨_, _, _, _, _, (e1.same s2), T.cls 0 (r := ⟨"InvalidTable", .v, ["argument"]⟩), (n_InvalidTable_argument T), lk1, ?_⟩
    refine ⟨_, rfl, ans1 (fun v3 H3 s3 e3 => ?_)⟩
    have c3 := c2.step s3
    refine ⟨_, _, _, _, _, e3, T.cls 0 (r := ⟨"InvalidTable", .v, ["argument"]⟩), (n_InvalidTable_argument T), lk1, ?_⟩
    refine ⟨line_ok (Nat.le_of_ble_eq_true rfl), fun q nq => ?_⟩
    obtain ⟨xs4, hl4, z4, c4⟩ := c3.put 0 (r := ⟨"InvalidTable", .v, ["argument"]⟩) rfl (e2.same s3) nq
    refine ⟨l, xs4, _, rfl, rfl, hl4, small1000 (by omega), ?_⟩
    refine ⟨_, rfl, ans1k (fun v4 H5 s5 e4 => ?_)⟩
    have c5 := c4.step s5
    refine ⟨_, rfl, .inl ⟨rfl, _, c5.sq⟩, ?_⟩
    refine ⟨_, rfl, ans1 (fun v5 H6 s6 e5 => ?_)⟩
    have c6 := c5.step s6
    refine ⟨_, rfl, ?_⟩
    refine ⟨_, _, _, _, _, (e4.same s6), T.cls 2 (r := ⟨"InvalidRow", .v, ["value"]⟩), (n_InvalidRow_value T), lk1, ?_⟩
    refine ⟨_, rfl, ans1 (fun v6 H7 s7 e6 => ?_)⟩
    have c7 := c6.step s7
    refine ⟨_, _, _, _, _, e6, T.cls 2 (r := ⟨"InvalidRow", .v, ["value"]⟩), (n_InvalidRow_value T), lk1, ?_⟩
    refine ⟨line_ok (Nat.le_of_ble_eq_true rfl), fun q nq => ?_⟩
    obtain ⟨xs8, hl8, z8, c8⟩ := c7.put 2 (r := ⟨"InvalidRow", .v, ["value"]⟩) rfl (e5.same s7) nq
    refine ⟨l, xs8, _, rfl, rfl, hl8, small1000 (by omega), ?_⟩
    refine ⟨_, rfl, ans1k (fun v7 H9 s9 e7 => ?_)⟩
    have c9 := c8.step s9
    refine ⟨_, rfl, .inl ⟨rfl, _, c9.sq⟩, ?_⟩
    refine ⟨_, rfl, ans1 (fun v8 H10 s10 e8 => ?_)⟩
    have c10 := c9.step s10
    refine ⟨_, rfl, ?_⟩
    refine ⟨_, _, _, _, _, (e7.same s10), T.cls 4 (r := ⟨"InvalidRule", .v, ["argument"]⟩), (n_InvalidRule_argument T), lk1, ?_⟩
    refine ⟨_, rfl, ans1 (fun v9 H11 s11 e9 => ?_)⟩
    have c11 := c10.step s11
    refine ⟨_, _, _, _, _, e9, T.cls 4 (r := ⟨"InvalidRule", .v, ["argument"]⟩), (n_InvalidRule_argument T), lk1, ?_⟩
    refine ⟨line_ok (Nat.le_of_ble_eq_true rfl), fun q nq => ?_⟩
    obtain ⟨xs12, hl12, z12, c12⟩ := c11.put 4 (r := ⟨"InvalidRule", .v, ["argument"]⟩) rfl (e8.same s11) nq
    refine ⟨l, xs12, _, rfl, rfl, hl12, small1000 (by omega), ?_⟩
    refine ⟨_, rfl, .inl ⟨rfl, _, c12.sq⟩, ?_⟩
    refine ⟨_, rfl, ans1 (fun v10 H13 s13 e10 => ?_)⟩
    have c13 := c12.step s13
    refine ⟨_, rfl, ans1k (fun v11 H14 s14 e11 => ?_)⟩
    have c14 := c13.step s14
    refine ⟨_, _, _, _, _, e11, T.cls 5 (r := ⟨"Misfit", .v, ["index"]⟩), (n_Misfit_index T), lk1, ?_⟩
    refine ⟨_, rfl, ans1 (fun v12 H15 s15 e12 => ?_)⟩
    have c15 := c14.step s15
    refine ⟨_, _, _, _, _, e12, T.cls 5 (r := ⟨"Misfit", .v, ["index"]⟩), (n_Misfit_index T), lk1, ?_⟩
    refine ⟨line_ok (Nat.le_of_ble_eq_true rfl), fun q nq => ?_⟩
    obtain ⟨xs16, hl16, z16, c16⟩ := c15.put 5 (r := ⟨"Misfit", .v, ["index"]⟩) rfl ((e10.same s14).same s15) nq
    refine ⟨l, xs16, _, rfl, rfl, hl16, small1000 (by omega), ?_⟩
    refine ⟨_, rfl, .inl ⟨rfl, _, c16.sq⟩, ?_⟩
    refine ⟨_, rfl, ans1 (fun v13 H17 s17 e13 => ?_)⟩
    have c17 := c16.step s17
    refine ⟨_, rfl, ans1k (fun v14 H18 s18 e14 => ?_)⟩
    have c18 := c17.step s18
    refine ⟨_, _, _, _, _, e14, T.cls 6 (r := ⟨"Circle", .v, ["value"]⟩), (n_Circle_value T), lk1, ?_⟩
    refine ⟨_, rfl, ans1 (fun v15 H19 s19 e15 => ?_)⟩
    have c19 := c18.step s19
    refine ⟨_, _, _, _, _, e15, T.cls 6 (r := ⟨"Circle", .v, ["value"]⟩), (n_Circle_value T), lk1, ?_⟩
    refine ⟨line_ok (Nat.le_of_ble_eq_true rfl), fun q nq => ?_⟩
    obtain ⟨xs20, hl20, z20, c20⟩ := c19.put 6 (r := ⟨"Circle", .v, ["value"]⟩) rfl ((e13.same s18).same s19) nq
    refine ⟨l, xs20, _, rfl, rfl, hl20, small1000 (by omega), ?_⟩
    refine ⟨_, rfl, ans1k (fun v16 H21 s21 e16 => ?_)⟩
    have c21 := c20.step s21
    refine ⟨_, rfl, .inl ⟨rfl, _, c21.sq⟩, ?_⟩
    refine ⟨_, rfl, ans1 (fun v17 H22 s22 e17 => ?_)⟩
    have c22 := c21.step s22
    refine ⟨_, rfl, ?_⟩
    refine ⟨_, _, _, _, _, (e16.same s22), T.cls 7 (r := ⟨"InvalidFact", .v, ["index"]⟩), (n_InvalidFact_index T), lk1, ?_⟩
    refine ⟨_, rfl, ans1 (fun v18 H23 s23 e18 => ?_)⟩
    have c23 := c22.step s23
    refine ⟨_, _, _, _, _, e18, T.cls 7 (r := ⟨"InvalidFact", .v, ["index"]⟩), (n_InvalidFact_index T), lk1, ?_⟩
    refine ⟨line_ok (Nat.le_of_ble_eq_true rfl), fun q nq => ?_⟩
    obtain ⟨xs24, hl24, z24, c24⟩ := c23.put 7 (r := ⟨"InvalidFact", .v, ["index"]⟩) rfl (e17.same s23) nq
    refine ⟨l, xs24, _, rfl, rfl, hl24, small1000 (by omega), ?_⟩
    refine ⟨_, rfl, ans1k (fun v19 H25 s25 e19 => ?_)⟩
    have c25 := c24.step s25
    refine ⟨_, rfl, .inl ⟨rfl, _, c25.sq⟩, ?_⟩
    refine ⟨_, rfl, ans1 (fun v20 H26 s26 e20 => ?_)⟩
    have c26 := c25.step s26
    refine ⟨_, rfl, ?_⟩
    refine ⟨_, _, _, _, _, (e19.same s26), T.cls 8 (r := ⟨"InvalidChange", .v, ["index"]⟩), (n_InvalidChange_index T), lk1, ?_⟩
    refine ⟨_, rfl, ans1 (fun v21 H27 s27 e21 => ?_)⟩
    have c27 := c26.step s27
    refine ⟨_, _, _, _, _, e21, T.cls 8 (r := ⟨"InvalidChange", .v, ["index"]⟩), (n_InvalidChange_index T), lk1, ?_⟩
    refine ⟨line_ok (Nat.le_of_ble_eq_true rfl), fun q nq => ?_⟩
    obtain ⟨xs28, hl28, z28, c28⟩ := c27.put 8 (r := ⟨"InvalidChange", .v, ["index"]⟩) rfl (e20.same s27) nq
    refine ⟨l, xs28, _, rfl, rfl, hl28, small1000 (by omega), ?_⟩
    refine ⟨_, rfl, ans1k (fun v22 H29 s29 e22 => ?_)⟩
    have c29 := c28.step s29
    refine ⟨_, rfl, .inl ⟨rfl, _, c29.sq⟩, ?_⟩
    refine ⟨_, rfl, ans1 (fun v23 H30 s30 e23 => ?_)⟩
    have c30 := c29.step s30
    refine ⟨_, rfl, ?_⟩
    refine ⟨_, _, _, _, _, (e22.same s30), T.cls 9 (r := ⟨"InvalidAnswer", .v, ["value"]⟩), (n_InvalidAnswer_value T), lk1, ?_⟩
    refine ⟨_, rfl, ans1 (fun v24 H31 s31 e24 => ?_)⟩
    have c31 := c30.step s31
    refine ⟨_, _, _, _, _, e24, T.cls 9 (r := ⟨"InvalidAnswer", .v, ["value"]⟩), (n_InvalidAnswer_value T), lk1, ?_⟩
    refine ⟨line_ok (Nat.le_of_ble_eq_true rfl), fun q nq => ?_⟩
    obtain ⟨xs32, hl32, z32, c32⟩ := c31.put 9 (r := ⟨"InvalidAnswer", .v, ["value"]⟩) rfl (e23.same s31) nq
    refine ⟨l, xs32, _, rfl, rfl, hl32, small1000 (by omega), ?_⟩
    refine ⟨_, rfl, ans1k (fun v25 H33 s33 e25 => ?_)⟩
    have c33 := c32.step s33
    refine ⟨_, rfl, .inl ⟨rfl, _, c33.sq⟩, ?_⟩
    refine ⟨_, rfl, ans1 (fun v26 H34 s34 e26 => ?_)⟩
    have c34 := c33.step s34
    refine ⟨_, rfl, ?_⟩
    refine ⟨_, _, _, _, _, (e25.same s34), T.cls 10 (r := ⟨"InvalidTemplate", .v, ["index"]⟩), (n_InvalidTemplate_index T), lk1, ?_⟩
    refine ⟨_, rfl, ans1 (fun v27 H35 s35 e27 => ?_)⟩
    have c35 := c34.step s35
    refine ⟨_, _, _, _, _, e27, T.cls 10 (r := ⟨"InvalidTemplate", .v, ["index"]⟩), (n_InvalidTemplate_index T), lk1, ?_⟩
    refine ⟨line_ok (Nat.le_of_ble_eq_true rfl), fun q nq => ?_⟩
    obtain ⟨xs36, hl36, z36, c36⟩ := c35.put 10 (r := ⟨"InvalidTemplate", .v, ["index"]⟩) rfl (e26.same s35) nq
    refine ⟨l, xs36, _, rfl, rfl, hl36, small1000 (by omega), ?_⟩
    refine ⟨_, rfl, ans1k (fun v28 H37 s37 e28 => ?_)⟩
    have c37 := c36.step s37
    refine ⟨_, rfl, .inl ⟨rfl, _, c37.sq⟩, ?_⟩
    refine ⟨_, rfl, ans1 (fun v29 H38 s38 e29 => ?_)⟩
    have c38 := c37.step s38
    refine ⟨_, rfl, ?_⟩
    refine ⟨_, _, _, _, _, (e28.same s38), T.cls 11 (r := ⟨"InvalidNames", .v, ["value"]⟩), (n_InvalidNames_value T), lk1, ?_⟩
    refine ⟨_, rfl, ans1 (fun v30 H39 s39 e30 => ?_)⟩
    have c39 := c38.step s39
    refine ⟨_, _, _, _, _, e30, T.cls 11 (r := ⟨"InvalidNames", .v, ["value"]⟩), (n_InvalidNames_value T), lk1, ?_⟩
    refine ⟨line_ok (Nat.le_of_ble_eq_true rfl), fun q nq => ?_⟩
    obtain ⟨xs40, hl40, z40, c40⟩ := c39.put 11 (r := ⟨"InvalidNames", .v, ["value"]⟩) rfl (e29.same s39) nq
    refine ⟨l, xs40, _, rfl, rfl, hl40, small1000 (by omega), ?_⟩
    refine ⟨_, rfl, ans1k (fun v31 H41 s41 e31 => ?_)⟩
    have c41 := c40.step s41
    refine ⟨_, rfl, .inl ⟨rfl, _, c41.sq⟩, ?_⟩
    refine ⟨_, rfl, ans1 (fun v32 H42 s42 e32 => ?_)⟩
    have c42 := c41.step s42
    refine ⟨_, rfl, ?_⟩
    refine ⟨_, _, _, _, _, (e31.same s42), T.cls 13 (r := ⟨"InvalidLimit", .v, ["value"]⟩), (n_InvalidLimit_value T), lk1, ?_⟩
    refine ⟨_, rfl, ans1 (fun v33 H43 s43 e33 => ?_)⟩
    have c43 := c42.step s43
    refine ⟨_, _, _, _, _, e33, T.cls 13 (r := ⟨"InvalidLimit", .v, ["value"]⟩), (n_InvalidLimit_value T), lk1, ?_⟩
    refine ⟨line_ok (Nat.le_of_ble_eq_true rfl), fun q nq => ?_⟩
    obtain ⟨xs44, hl44, z44, c44⟩ := c43.put 13 (r := ⟨"InvalidLimit", .v, ["value"]⟩) rfl (e32.same s43) nq
    refine ⟨l, xs44, _, rfl, rfl, hl44, small1000 (by omega), ?_⟩
    refine ⟨_, rfl, ans1k (fun v34 H45 s45 e34 => ?_)⟩
    have c45 := c44.step s45
    refine ⟨_, rfl, .inl ⟨rfl, _, c45.sq⟩, ?_⟩
    refine ⟨_, rfl, ans1 (fun v35 H46 s46 e35 => ?_)⟩
    have c46 := c45.step s46
    refine ⟨_, rfl, ?_⟩
    refine ⟨_, _, _, _, _, (e34.same s46), T.cls 14 (r := ⟨"Unreadable", .v, ["index"]⟩), (n_Unreadable_index T), lk1, ?_⟩
    refine ⟨_, rfl, ans1 (fun v36 H47 s47 e36 => ?_)⟩
    have c47 := c46.step s47
    refine ⟨_, _, _, _, _, e36, T.cls 14 (r := ⟨"Unreadable", .v, ["index"]⟩), (n_Unreadable_index T), lk1, ?_⟩
    refine ⟨line_ok (Nat.le_of_ble_eq_true rfl), fun q nq => ?_⟩
    obtain ⟨xs48, hl48, z48, c48⟩ := c47.put 14 (r := ⟨"Unreadable", .v, ["index"]⟩) rfl (e35.same s47) nq
    refine ⟨l, xs48, _, rfl, rfl, hl48, small1000 (by omega), ?_⟩
    exact ⟨_, rfl, kk l _ 12 c48 (by decide)⟩
theorem sc_other : FnScope ["_law_thing", "_law_found", "_law_error"] ["_law_thing"] (defScope s_law_other_errors) := ⟨rfl, rfl, rfl, by decide +kernel, rfl, by decide +kernel, by decide +kernel⟩
theorem c_other (T : Tx K mg) : Cal P w K mg base 3 "_law_other_errors" ["_law_thing"] (spFound K) := by
  obtain ⟨fd, F⟩ := D_law_other_errors T
  refine Cal.mk_of (d := d_law_other_errors) F (FunD.ok F sc_other (fun vs H Q E h => ?_) (fun cdv A outer s H vs Q E hr h => ?_)) (F.bindsN fun _ _ _ _ _ _ us hl => match us, hl with | [_], _ => rfl) (g_law_other_errors T)
  · obtain ⟨x, rfl, _⟩ := h
    rfl
  · obtain ⟨x, rfl, kk⟩ := h
    have sc := sc_other
    refine ⟨_, (pss_cons (ps_set (i := 1) sc.nd rfl (Or.inl rfl) (pe_lst pa_nil))
      (pss_cons (ps_set (i := 2) sc.nd rfl (Or.inl rfl) (pe_ex1k (e_UnknownTable T) hr (pv 0)))
      (pss_cons (ps_expr (pe_bm PySem.F.plainAttrs_list PySem.F.slot_list_append PySem.F.type_list_append mt_append (pv 1) (pa_cons (pe_tup (pa_cons (pe_ex1 (e_UnknownTable T) hr (pv 0)) (pa_cons (pe_fldE (pv 2) rfl) (pa_cons (pe_fldE (pe_ex1 (e_UnknownTable T) hr (pv 0)) rfl) (pa_cons pe_str pa_nil))))) pa_nil)))
      (pss_cons (ps_set (i := 2) sc.nd rfl (Or.inl rfl) (pe_ex1k (e_UnknownColumn T) hr (pv 0)))
      (pss_cons (ps_expr (pe_bm PySem.F.plainAttrs_list PySem.F.slot_list_append PySem.F.type_list_append mt_append (pv 1) (pa_cons (pe_tup (pa_cons (pe_ex1 (e_UnknownColumn T) hr (pv 0)) (pa_cons (pe_fldE (pv 2) rfl) (pa_cons (pe_fldE (pe_ex1 (e_UnknownColumn T) hr (pv 0)) rfl) (pa_cons pe_str pa_nil))))) pa_nil)))
      (pss_cons (ps_set (i := 2) sc.nd rfl (Or.inl rfl) (pe_ex1k (e_OutOfRange T) hr (pv 0)))
      (pss_cons (ps_expr (pe_bm PySem.F.plainAttrs_list PySem.F.slot_list_append PySem.F.type_list_append mt_append (pv 1) (pa_cons (pe_tup (pa_cons (pe_ex1 (e_OutOfRange T) hr (pv 0)) (pa_cons (pe_fldE (pv 2) rfl) (pa_cons (pe_fldE (pe_ex1 (e_OutOfRange T) hr (pv 0)) rfl) (pa_cons pe_str pa_nil))))) pa_nil)))
      (pss_cons (ps_expr (pe_bm PySem.F.plainAttrs_list PySem.F.slot_list_append PySem.F.type_list_append mt_append (pv 1) (pa_cons (pe_tup (pa_cons (pe_ex1 (e_NoAnswer T) hr (pv 0)) (pa_cons (pe_fldE (pe_ex1k (e_NoAnswer T) hr (pv 0)) rfl) (pa_cons (pe_fldE (pe_ex1 (e_NoAnswer T) hr (pv 0)) rfl) (pa_cons pe_str pa_nil))))) pa_nil)))
      (pss_cons (ps_expr (pe_bm PySem.F.plainAttrs_list PySem.F.slot_list_append PySem.F.type_list_append mt_append (pv 1) (pa_cons (pe_tup (pa_cons (pe_ex1 (e_NoCase T) hr (pv 0)) (pa_cons (pe_fldE (pe_ex1k (e_NoCase T) hr (pv 0)) rfl) (pa_cons (pe_fldE (pe_ex1 (e_NoCase T) hr (pv 0)) rfl) (pa_cons pe_str pa_nil))))) pa_nil)))
      (pss_cons (ps_expr (pe_bm PySem.F.plainAttrs_list PySem.F.slot_list_append PySem.F.type_list_append mt_append (pv 1) (pa_cons (pe_tup (pa_cons (pe_ex1 (e_NoBranch T) hr (pv 0)) (pa_cons (pe_fldE (pe_ex1k (e_NoBranch T) hr (pv 0)) rfl) (pa_cons (pe_fldE (pe_ex1 (e_NoBranch T) hr (pv 0)) rfl) (pa_cons pe_str pa_nil))))) pa_nil)))
      (pss_cons (ps_expr (pe_bm PySem.F.plainAttrs_list PySem.F.slot_list_append PySem.F.type_list_append mt_append (pv 1) (pa_cons (pe_tup (pa_cons (pe_ex1 (e_TooMany T) hr (pv 0)) (pa_cons (pe_fldE (pe_ex1k (e_TooMany T) hr (pv 0)) rfl) (pa_cons (pe_fldE (pe_ex1 (e_TooMany T) hr (pv 0)) rfl) (pa_cons pe_str pa_nil))))) pa_nil)))
      (pss_cons (ps_expr (pe_bm PySem.F.plainAttrs_list PySem.F.slot_list_append PySem.F.type_list_append mt_append (pv 1) (pa_cons (pe_tup (pa_cons (pe_ex1 (e_TooDear T) hr (pv 0)) (pa_cons (pe_fldE (pe_ex1k (e_TooDear T) hr (pv 0)) rfl) (pa_cons (pe_fldE (pe_ex1 (e_TooDear T) hr (pv 0)) rfl) (pa_cons pe_str pa_nil))))) pa_nil)))
      (pss_cons (ps_set (i := 2) sc.nd rfl (Or.inl rfl) (pe_ex2k (e_Broken T) hr (pv 0) pe_int))
      (pss_cons (ps_expr (pe_bm PySem.F.plainAttrs_list PySem.F.slot_list_append PySem.F.type_list_append mt_append (pv 1) (pa_cons (pe_tup (pa_cons (pe_ex2 (e_Broken T) hr pe_int (pv 0)) (pa_cons (pe_fldE (pv 2) rfl) (pa_cons (pe_fldE (pe_ex2 (e_Broken T) hr pe_int (pv 0)) rfl) (pa_cons pe_str pa_nil))))) pa_nil)))
      (pss_cons (ps_set (i := 2) sc.nd rfl (Or.inl rfl) (pe_ex2k (e_Broken T) hr pe_int (pv 0)))
      (pss_cons (ps_expr (pe_bm PySem.F.plainAttrs_list PySem.F.slot_list_append PySem.F.type_list_append mt_append (pv 1) (pa_cons (pe_tup (pa_cons (pe_ex2 (e_Broken T) hr (pv 0) pe_int) (pa_cons (pe_fldE (pv 2) rfl) (pa_cons (pe_fldE (pe_ex2 (e_Broken T) hr (pv 0) pe_int) rfl) (pa_cons pe_str pa_nil))))) pa_nil)))
      (pss_cons (ps_expr (pe_bm PySem.F.plainAttrs_list PySem.F.slot_list_append PySem.F.type_list_append mt_append (pv 1) (pa_cons (pe_tup (pa_cons (pe_ex1 (e_Unfit T) hr (pv 0)) (pa_cons (pe_fldE (pe_ex1k (e_Unfit T) hr (pv 0)) rfl) (pa_cons (pe_fldE (pe_ex1 (e_Unfit T) hr (pv 0)) rfl) (pa_cons pe_str pa_nil))))) pa_nil)))
      (pss_cons (ps_expr (pe_bm PySem.F.plainAttrs_list PySem.F.slot_list_append PySem.F.type_list_append mt_append (pv 1) (pa_cons (pe_tup (pa_cons (pe_ex1 (e_Refused T) hr (pv 0)) (pa_cons (pe_fldE (pe_ex1k (e_Refused T) hr (pv 0)) rfl) (pa_cons (pe_fldE (pe_ex1 (e_Refused T) hr (pv 0)) rfl) (pa_cons pe_str pa_nil))))) pa_nil)))
      (pss_cons (ps_set (i := 2) sc.nd rfl (Or.inl rfl) (pe_ex1k (e_LookFailed T) hr (pv 0)))
      (pss_cons (ps_expr (pe_bm PySem.F.plainAttrs_list PySem.F.slot_list_append PySem.F.type_list_append mt_append (pv 1) (pa_cons (pe_tup (pa_cons (pe_ex1 (e_LookFailed T) hr (pv 0)) (pa_cons (pe_fldE (pv 2) rfl) (pa_cons (pe_fldE (pe_ex1 (e_LookFailed T) hr (pv 0)) rfl) (pa_cons pe_str pa_nil))))) pa_nil)))
      (pss_cons (ps_expr (pe_bm PySem.F.plainAttrs_list PySem.F.slot_list_append PySem.F.type_list_append mt_append (pv 1) (pa_cons (pe_tup (pa_cons (pe_ex1 (e_NoLook T) hr (pv 0)) (pa_cons (pe_fldE (pe_ex1k (e_NoLook T) hr (pv 0)) rfl) (pa_cons (pe_fldE (pe_ex1 (e_NoLook T) hr (pv 0)) rfl) (pa_cons pe_str pa_nil))))) pa_nil)))
      (pss_cons (ps_expr (pe_bm PySem.F.plainAttrs_list PySem.F.slot_list_append PySem.F.type_list_append mt_append (pv 1) (pa_cons (pe_tup (pa_cons (pe_mkE0 PySem.F.excBase_ValueError (e_InvalidSchema T) (T.cls 1 (r := ⟨"InvalidSchema", .v, []⟩)).kC (by rfl) (g_InvalidSchema T)) (pa_cons (pv 0) (pa_cons (pv 0) (pa_cons pe_str pa_nil))))) pa_nil)))
      (pss_cons (ps_expr (pe_bm PySem.F.plainAttrs_list PySem.F.slot_list_append PySem.F.type_list_append mt_append (pv 1) (pa_cons (pe_tup (pa_cons (pe_mkE0 PySem.F.excBase_ValueError (e_OtherSchema T) (T.cls 3 (r := ⟨"OtherSchema", .v, []⟩)).kC (by rfl) (g_OtherSchema T)) (pa_cons (pv 0) (pa_cons (pv 0) (pa_cons pe_str pa_nil))))) pa_nil)))
      (pss_cons (ps_expr (pe_bm PySem.F.plainAttrs_list PySem.F.slot_list_append PySem.F.type_list_append mt_append (pv 1) (pa_cons (pe_tup (pa_cons (pe_mkE0 PySem.F.excBase_ValueError (e_InvalidPair T) (T.cls 12 (r := ⟨"InvalidPair", .v, []⟩)).kC (by rfl) (g_InvalidPair T)) (pa_cons (pv 0) (pa_cons (pv 0) (pa_cons pe_str pa_nil))))) pa_nil)))
      (pss_cons (ps_expr (pe_bm PySem.F.plainAttrs_list PySem.F.slot_list_append PySem.F.type_list_append mt_append (pv 1) (pa_cons (pe_tup (pa_cons (pe_mkE0 PySem.F.excBase_ValueError (e_NoLine T) (T.cls 15 (r := ⟨"NoLine", .v, []⟩)).kC (by rfl) (g_NoLine T)) (pa_cons (pv 0) (pa_cons (pv 0) (pa_cons pe_str pa_nil))))) pa_nil)))
      (pss_cons (ps_expr (pe_bm PySem.F.plainAttrs_list PySem.F.slot_list_append PySem.F.type_list_append mt_append (pv 1) (pa_cons (pe_tup (pa_cons (pe_mkE0 PySem.F.excBase_LookupError (e_Nothing T) (T.cls 22 (r := ⟨"Nothing", .l, []⟩)).kC (by rfl) (g_Nothing T)) (pa_cons (pv 0) (pa_cons (pv 0) (pa_cons pe_str pa_nil))))) pa_nil)))
      (pss_cons (ps_expr (pe_bm PySem.F.plainAttrs_list PySem.F.slot_list_append PySem.F.type_list_append mt_append (pv 1) (pa_cons (pe_tup (pa_cons (pe_mkE0 PySem.F.excBase_RuntimeError (e_NeverFits T) (T.cls 27 (r := ⟨"NeverFits", .r, []⟩)).kC (by rfl) (g_NeverFits T)) (pa_cons (pv 0) (pa_cons (pv 0) (pa_cons pe_str pa_nil))))) pa_nil)))
      (pss_one (ps_ret (pv 1)))))))))))))))))))))))))))))), ?_⟩
    refine ⟨line_ok (by decide), fun l nl => ?_⟩
    have c0 : Found K H x l (upd H l (.lst [])) 0 := Found.start nl
    refine ⟨_, rfl, ans1k (fun v1 H1 s1 e1 => ?_)⟩
    have c1 := c0.step s1
    refine ⟨_, rfl, .inl ⟨rfl, _, c1.sq⟩, ?_⟩
    refine ⟨_, rfl, ans1 (fun v2 H2 s2 e2 => ?_)⟩
    have c2 := c1.step s2
    refine ⟨_, rfl, ?_⟩
    refine ⟨_, _, _, _, _, (e1.same s2), T.cls 16 (r := ⟨"UnknownTable", .l, ["value"]⟩), (n_UnknownTable_value T), lk1, ?_⟩
    refine ⟨_, rfl, ans1 (fun v3 H3 s3 e3 => ?_)⟩
    have c3 := c2.step s3
    refine ⟨_, _, _, _, _, e3, T.cls 16 (r := ⟨"UnknownTable", .l, ["value"]⟩), (n_UnknownTable_value T), lk1, ?_⟩
    refine ⟨line_ok (Nat.le_of_ble_eq_true rfl), fun q nq => ?_⟩
    obtain ⟨xs4, hl4, z4, c4⟩ := c3.put 16 (r := ⟨"UnknownTable", .l, ["value"]⟩) rfl (e2.same s3) nq
    refine ⟨l, xs4, _, rfl, rfl, hl4, small1000 (by omega), ?_⟩
    refine ⟨_, rfl, ans1k (fun v4 H5 s5 e4 => ?_)⟩
    have c5 := c4.step s5
    refine ⟨_, rfl, .inl ⟨rfl, _, c5.sq⟩, ?_⟩
    refine ⟨_, rfl, ans1 (fun v5 H6 s6 e5 => ?_)⟩
    have c6 := c5.step s6
    refine ⟨_, rfl, ?_⟩
    refine ⟨_, _, _, _, _, (e4.same s6), T.cls 17 (r := ⟨"UnknownColumn", .l, ["value"]⟩), (n_UnknownColumn_value T), lk1, ?_⟩
    refine ⟨_, rfl, ans1 (fun v6 H7 s7 e6 => ?_)⟩
    have c7 := c6.step s7
    refine ⟨_, _, _, _, _, e6, T.cls 17 (r := ⟨"UnknownColumn", .l, ["value"]⟩), (n_UnknownColumn_value T), lk1, ?_⟩
    refine ⟨line_ok (Nat.le_of_ble_eq_true rfl), fun q nq => ?_⟩
    obtain ⟨xs8, hl8, z8, c8⟩ := c7.put 17 (r := ⟨"UnknownColumn", .l, ["value"]⟩) rfl (e5.same s7) nq
    refine ⟨l, xs8, _, rfl, rfl, hl8, small1000 (by omega), ?_⟩
    refine ⟨_, rfl, ans1k (fun v7 H9 s9 e7 => ?_)⟩
    have c9 := c8.step s9
    refine ⟨_, rfl, .inl ⟨rfl, _, c9.sq⟩, ?_⟩
    refine ⟨_, rfl, ans1 (fun v8 H10 s10 e8 => ?_)⟩
    have c10 := c9.step s10
    refine ⟨_, rfl, ?_⟩
    refine ⟨_, _, _, _, _, (e7.same s10), T.cls 18 (r := ⟨"OutOfRange", .l, ["value"]⟩), (n_OutOfRange_value T), lk1, ?_⟩
    refine ⟨_, rfl, ans1 (fun v9 H11 s11 e9 => ?_)⟩
    have c11 := c10.step s11
    refine ⟨_, _, _, _, _, e9, T.cls 18 (r := ⟨"OutOfRange", .l, ["value"]⟩), (n_OutOfRange_value T), lk1, ?_⟩
    refine ⟨line_ok (Nat.le_of_ble_eq_true rfl), fun q nq => ?_⟩
    obtain ⟨xs12, hl12, z12, c12⟩ := c11.put 18 (r := ⟨"OutOfRange", .l, ["value"]⟩) rfl (e8.same s11) nq
    refine ⟨l, xs12, _, rfl, rfl, hl12, small1000 (by omega), ?_⟩
    refine ⟨_, rfl, .inl ⟨rfl, _, c12.sq⟩, ?_⟩
    refine ⟨_, rfl, ans1 (fun v10 H13 s13 e10 => ?_)⟩
    have c13 := c12.step s13
    refine ⟨_, rfl, ans1k (fun v11 H14 s14 e11 => ?_)⟩
    have c14 := c13.step s14
    refine ⟨_, _, _, _, _, e11, T.cls 19 (r := ⟨"NoAnswer", .l, ["value"]⟩), (n_NoAnswer_value T), lk1, ?_⟩
    refine ⟨_, rfl, ans1 (fun v12 H15 s15 e12 => ?_)⟩
    have c15 := c14.step s15
    refine ⟨_, _, _, _, _, e12, T.cls 19 (r := ⟨"NoAnswer", .l, ["value"]⟩), (n_NoAnswer_value T), lk1, ?_⟩
    refine ⟨line_ok (Nat.le_of_ble_eq_true rfl), fun q nq => ?_⟩
    obtain ⟨xs16, hl16, z16, c16⟩ := c15.put 19 (r := ⟨"NoAnswer", .l, ["value"]⟩) rfl ((e10.same s14).same s15) nq
    refine ⟨l, xs16, _, rfl, rfl, hl16, small1000 (by omega), ?_⟩
    refine ⟨_, rfl, .inl ⟨rfl, _, c16.sq⟩, ?_⟩
    refine ⟨_, rfl, ans1 (fun v13 H17 s17 e13 => ?_)⟩
    have c17 := c16.step s17
    refine ⟨_, rfl, ans1k (fun v14 H18 s18 e14 => ?_)⟩
    have c18 := c17.step s18
    refine ⟨_, _, _, _, _, e14, T.cls 20 (r := ⟨"NoCase", .l, ["case"]⟩), (n_NoCase_case T), lk1, ?_⟩
    refine ⟨_, rfl, ans1 (fun v15 H19 s19 e15 => ?_)⟩
    have c19 := c18.step s19
    refine ⟨_, _, _, _, _, e15, T.cls 20 (r := ⟨"NoCase", .l, ["case"]⟩), (n_NoCase_case T), lk1, ?_⟩
    refine ⟨line_ok (Nat.le_of_ble_eq_true rfl), fun q nq => ?_⟩
    obtain ⟨xs20, hl20, z20, c20⟩ := c19.put 20 (r := ⟨"NoCase", .l, ["case"]⟩) rfl ((e13.same s18).same s19) nq
    refine ⟨l, xs20, _, rfl, rfl, hl20, small1000 (by omega), ?_⟩
    refine ⟨_, rfl, .inl ⟨rfl, _, c20.sq⟩, ?_⟩
    refine ⟨_, rfl, ans1 (fun v16 H21 s21 e16 => ?_)⟩
    have c21 := c20.step s21
    refine ⟨_, rfl, ans1k (fun v17 H22 s22 e17 => ?_)⟩
    have c22 := c21.step s22
    refine ⟨_, _, _, _, _, e17, T.cls 21 (r := ⟨"NoBranch", .l, ["value"]⟩), (n_NoBranch_value T), lk1, ?_⟩
    refine ⟨_, rfl, ans1 (fun v18 H23 s23 e18 => ?_)⟩
    have c23 := c22.step s23
    refine ⟨_, _, _, _, _, e18, T.cls 21 (r := ⟨"NoBranch", .l, ["value"]⟩), (n_NoBranch_value T), lk1, ?_⟩
    refine ⟨line_ok (Nat.le_of_ble_eq_true rfl), fun q nq => ?_⟩
    obtain ⟨xs24, hl24, z24, c24⟩ := c23.put 21 (r := ⟨"NoBranch", .l, ["value"]⟩) rfl ((e16.same s22).same s23) nq
    refine ⟨l, xs24, _, rfl, rfl, hl24, small1000 (by omega), ?_⟩
    refine ⟨_, rfl, .inl ⟨rfl, _, c24.sq⟩, ?_⟩
    refine ⟨_, rfl, ans1 (fun v19 H25 s25 e19 => ?_)⟩
    have c25 := c24.step s25
    refine ⟨_, rfl, ans1k (fun v20 H26 s26 e20 => ?_)⟩
    have c26 := c25.step s26
    refine ⟨_, _, _, _, _, e20, T.cls 23 (r := ⟨"TooMany", .o, ["limit"]⟩), (n_TooMany_limit T), lk1, ?_⟩
    refine ⟨_, rfl, ans1 (fun v21 H27 s27 e21 => ?_)⟩
    have c27 := c26.step s27
    refine ⟨_, _, _, _, _, e21, T.cls 23 (r := ⟨"TooMany", .o, ["limit"]⟩), (n_TooMany_limit T), lk1, ?_⟩
    refine ⟨line_ok (Nat.le_of_ble_eq_true rfl), fun q nq => ?_⟩
    obtain ⟨xs28, hl28, z28, c28⟩ := c27.put 23 (r := ⟨"TooMany", .o, ["limit"]⟩) rfl ((e19.same s26).same s27) nq
    refine ⟨l, xs28, _, rfl, rfl, hl28, small1000 (by omega), ?_⟩
    refine ⟨_, rfl, .inl ⟨rfl, _, c28.sq⟩, ?_⟩
    refine ⟨_, rfl, ans1 (fun v22 H29 s29 e22 => ?_)⟩
    have c29 := c28.step s29
    refine ⟨_, rfl, ans1k (fun v23 H30 s30 e23 => ?_)⟩
    have c30 := c29.step s30
    refine ⟨_, _, _, _, _, e23, T.cls 24 (r := ⟨"TooDear", .o, ["number"]⟩), (n_TooDear_number T), lk1, ?_⟩
    refine ⟨_, rfl, ans1 (fun v24 H31 s31 e24 => ?_)⟩
    have c31 := c30.step s31
    refine ⟨_, _, _, _, _, e24, T.cls 24 (r := ⟨"TooDear", .o, ["number"]⟩), (n_TooDear_number T), lk1, ?_⟩
    refine ⟨line_ok (Nat.le_of_ble_eq_true rfl), fun q nq => ?_⟩
    obtain ⟨xs32, hl32, z32, c32⟩ := c31.put 24 (r := ⟨"TooDear", .o, ["number"]⟩) rfl ((e22.same s30).same s31) nq
    refine ⟨l, xs32, _, rfl, rfl, hl32, small1000 (by omega), ?_⟩
    refine ⟨_, rfl, ans2k (fun v25 H33 s33 e25 => ?_)⟩
    have c33 := c32.step s33
    refine ⟨_, rfl, .inl ⟨rfl, _, c33.sq⟩, ?_⟩
    refine ⟨_, rfl, ans2 (fun v26 H34 s34 e26 => ?_)⟩
    have c34 := c33.step s34
    refine ⟨_, rfl, ?_⟩
    refine ⟨_, _, _, _, _, (e25.same s34), T.cls 25 (r := ⟨"Broken", .r, ["index", "spot"]⟩), (n_Broken_spot T), lk1, ?_⟩
    refine ⟨_, rfl, ans2 (fun v27 H35 s35 e27 => ?_)⟩
    have c35 := c34.step s35
    refine ⟨_, _, _, _, _, e27, T.cls 25 (r := ⟨"Broken", .r, ["index", "spot"]⟩), (n_Broken_spot T), lk1, ?_⟩
    refine ⟨line_ok (Nat.le_of_ble_eq_true rfl), fun q nq => ?_⟩
    obtain ⟨xs36, hl36, z36, c36⟩ := c35.put 25 (r := ⟨"Broken", .r, ["index", "spot"]⟩) rfl (e26.same s35) nq
    refine ⟨l, xs36, _, rfl, rfl, hl36, small1000 (by omega), ?_⟩
    refine ⟨_, rfl, ans2k (fun v28 H37 s37 e28 => ?_)⟩
    have c37 := c36.step s37
    refine ⟨_, rfl, .inl ⟨rfl, _, c37.sq⟩, ?_⟩
    refine ⟨_, rfl, ans2 (fun v29 H38 s38 e29 => ?_)⟩
    have c38 := c37.step s38
    refine ⟨_, rfl, ?_⟩
    refine ⟨_, _, _, _, _, (e28.same s38), T.cls 25 (r := ⟨"Broken", .r, ["index", "spot"]⟩), (n_Broken_index T), (lk2 (by decide +kernel)), ?_⟩
    refine ⟨_, rfl, ans2 (fun v30 H39 s39 e30 => ?_)⟩
    have c39 := c38.step s39
    refine ⟨_, _, _, _, _, e30, T.cls 25 (r := ⟨"Broken", .r, ["index", "spot"]⟩), (n_Broken_index T), (lk2 (by decide +kernel)), ?_⟩
    refine ⟨line_ok (Nat.le_of_ble_eq_true rfl), fun q nq => ?_⟩
    obtain ⟨xs40, hl40, z40, c40⟩ := c39.put 25 (r := ⟨"Broken", .r, ["index", "spot"]⟩) rfl (e29.same s39) nq
    refine ⟨l, xs40, _, rfl, rfl, hl40, small1000 (by omega), ?_⟩
    refine ⟨_, rfl, .inl ⟨rfl, _, c40.sq⟩, ?_⟩
    refine ⟨_, rfl, ans1 (fun v31 H41 s41 e31 => ?_)⟩
    have c41 := c40.step s41
    refine ⟨_, rfl, ans1k (fun v32 H42 s42 e32 => ?_)⟩
    have c42 := c41.step s42
    refine ⟨_, _, _, _, _, e32, T.cls 26 (r := ⟨"Unfit", .r, ["index"]⟩), (n_Unfit_index T), lk1, ?_⟩
    refine ⟨_, rfl, ans1 (fun v33 H43 s43 e33 => ?_)⟩
    have c43 := c42.step s43
    refine ⟨_, _, _, _, _, e33, T.cls 26 (r := ⟨"Unfit", .r, ["index"]⟩), (n_Unfit_index T), lk1, ?_⟩
    refine ⟨line_ok (Nat.le_of_ble_eq_true rfl), fun q nq => ?_⟩
    obtain ⟨xs44, hl44, z44, c44⟩ := c43.put 26 (r := ⟨"Unfit", .r, ["index"]⟩) rfl ((e31.same s42).same s43) nq
    refine ⟨l, xs44, _, rfl, rfl, hl44, small1000 (by omega), ?_⟩
    refine ⟨_, rfl, .inl ⟨rfl, _, c44.sq⟩, ?_⟩
    refine ⟨_, rfl, ans1 (fun v34 H45 s45 e34 => ?_)⟩
    have c45 := c44.step s45
    refine ⟨_, rfl, ans1k (fun v35 H46 s46 e35 => ?_)⟩
    have c46 := c45.step s46
    refine ⟨_, _, _, _, _, e35, T.cls 28 (r := ⟨"Refused", .r, ["change"]⟩), (n_Refused_change T), lk1, ?_⟩
    refine ⟨_, rfl, ans1 (fun v36 H47 s47 e36 => ?_)⟩
    have c47 := c46.step s47
    refine ⟨_, _, _, _, _, e36, T.cls 28 (r := ⟨"Refused", .r, ["change"]⟩), (n_Refused_change T), lk1, ?_⟩
    refine ⟨line_ok (Nat.le_of_ble_eq_true rfl), fun q nq => ?_⟩
    obtain ⟨xs48, hl48, z48, c48⟩ := c47.put 28 (r := ⟨"Refused", .r, ["change"]⟩) rfl ((e34.same s46).same s47) nq
    refine ⟨l, xs48, _, rfl, rfl, hl48, small1000 (by omega), ?_⟩
    refine ⟨_, rfl, ans1k (fun v37 H49 s49 e37 => ?_)⟩
    have c49 := c48.step s49
    refine ⟨_, rfl, .inl ⟨rfl, _, c49.sq⟩, ?_⟩
    refine ⟨_, rfl, ans1 (fun v38 H50 s50 e38 => ?_)⟩
    have c50 := c49.step s50
    refine ⟨_, rfl, ?_⟩
    refine ⟨_, _, _, _, _, (e37.same s50), T.cls 29 (r := ⟨"LookFailed", .r, ["number"]⟩), (n_LookFailed_number T), lk1, ?_⟩
    refine ⟨_, rfl, ans1 (fun v39 H51 s51 e39 => ?_)⟩
    have c51 := c50.step s51
    refine ⟨_, _, _, _, _, e39, T.cls 29 (r := ⟨"LookFailed", .r, ["number"]⟩), (n_LookFailed_number T), lk1, ?_⟩
    refine ⟨line_ok (Nat.le_of_ble_eq_true rfl), fun q nq => ?_⟩
    obtain ⟨xs52, hl52, z52, c52⟩ := c51.put 29 (r := ⟨"LookFailed", .r, ["number"]⟩) rfl (e38.same s51) nq
    refine ⟨l, xs52, _, rfl, rfl, hl52, small1000 (by omega), ?_⟩
    refine ⟨_, rfl, .inl ⟨rfl, _, c52.sq⟩, ?_⟩
    refine ⟨_, rfl, ans1 (fun v40 H53 s53 e40 => ?_)⟩
    have c53 := c52.step s53
    refine ⟨_, rfl, ans1k (fun v41 H54 s54 e41 => ?_)⟩
    have c54 := c53.step s54
    refine ⟨_, _, _, _, _, e41, T.cls 30 (r := ⟨"NoLook", .r, ["value"]⟩), (n_NoLook_value T), lk1, ?_⟩
    refine ⟨_, rfl, ans1 (fun v42 H55 s55 e42 => ?_)⟩
    have c55 := c54.step s55
    refine ⟨_, _, _, _, _, e42, T.cls 30 (r := ⟨"NoLook", .r, ["value"]⟩), (n_NoLook_value T), lk1, ?_⟩
    refine ⟨line_ok (Nat.le_of_ble_eq_true rfl), fun q nq => ?_⟩
    obtain ⟨xs56, hl56, z56, c56⟩ := c55.put 30 (r := ⟨"NoLook", .r, ["value"]⟩) rfl ((e40.same s54).same s55) nq
    refine ⟨l, xs56, _, rfl, rfl, hl56, small1000 (by omega), ?_⟩
    refine ⟨_, rfl, .inl ⟨rfl, _, c56.sq⟩, ?_⟩
    refine fun v43 nv43 => ?_
    have s57 := Same.alloc (o := exo v43 (He.ga K "InvalidSchema") none) nv43
    have e43 := made0 (C := He.ga K "InvalidSchema") nv43
    have c57 := c56.step s57
    refine ⟨_, rfl, ?_⟩
    refine ⟨_, rfl, ?_⟩
    refine ⟨line_ok (Nat.le_of_ble_eq_true rfl), fun q nq => ?_⟩
    obtain ⟨xs58, hl58, z58, c58⟩ := c57.put 1 (r := ⟨"InvalidSchema", .v, []⟩) rfl e43 nq
    refine ⟨l, xs58, _, rfl, rfl, hl58, small1000 (by omega), ?_⟩
    refine ⟨_, rfl, .inl ⟨rfl, _, c58.sq⟩, ?_⟩
    refine fun v44 nv44 => ?_
    have s59 := Same.alloc (o := exo v44 (He.ga K "OtherSchema") none) nv44
    have e44 := made0 (C := He.ga K "OtherSchema") nv44
    have c59 := c58.step s59
    refine ⟨_, rfl, ?_⟩
    refine ⟨_, rfl, ?_⟩
    refine ⟨line_ok (Nat.le_of_ble_eq_true rfl), fun q nq => ?_⟩
    obtain ⟨xs60, hl60, z60, c60⟩ := c59.put 3 (r := ⟨"OtherSchema", .v, []⟩) rfl e44 nq
    refine ⟨l, xs60, _, rfl, rfl, hl60, small1000 (by omega), ?_⟩
    refine ⟨_, rfl, .inl ⟨rfl, _, c60.sq⟩, ?_⟩
    refine fun v45 nv45 => ?_
    have s61 := Same.alloc (o := exo v45 (He.ga K "InvalidPair") none) nv45
    have e45 := made0 (C := He.ga K "InvalidPair") nv45
    have c61 := c60.step s61
    refine ⟨_, rfl, ?_⟩
    refine ⟨_, rfl, ?_⟩
    refine ⟨line_ok (Nat.le_of_ble_eq_true rfl), fun q nq => ?_⟩
    obtain ⟨xs62, hl62, z62, c62⟩ := c61.put 12 (r := ⟨"InvalidPair", .v, []⟩) rfl e45 nq
    refine ⟨l, xs62, _, rfl, rfl, hl62, small1000 (by omega), ?_⟩
    refine ⟨_, rfl, .inl ⟨rfl, _, c62.sq⟩, ?_⟩
    refine fun v46 nv46 => ?_
    have s63 := Same.alloc (o := exo v46 (He.ga K "NoLine") none) nv46
    have e46 := made0 (C := He.ga K "NoLine") nv46
    have c63 := c62.step s63
    refine ⟨_, rfl, ?_⟩
    refine ⟨_, rfl, ?_⟩
    refine ⟨line_ok (Nat.le_of_ble_eq_true rfl), fun q nq => ?_⟩
    obtain ⟨xs64, hl64, z64, c64⟩ := c63.put 15 (r := ⟨"NoLine", .v, []⟩) rfl e46 nq
    refine ⟨l, xs64, _, rfl, rfl, hl64, small1000 (by omega), ?_⟩
    refine ⟨_, rfl, .inl ⟨rfl, _, c64.sq⟩, ?_⟩
    refine fun v47 nv47 => ?_
    have s65 := Same.alloc (o := exo v47 (He.ga K "Nothing") none) nv47
    have e47 := made0 (C := He.ga K "Nothing") nv47
    have c65 := c64.step s65
    refine ⟨_, rfl, ?_⟩
    refine ⟨_, rfl, ?_⟩
    refine ⟨line_ok (Nat.le_of_ble_eq_true rfl), fun q nq => ?_⟩
    obtain ⟨xs66, hl66, z66, c66⟩ := c65.put 22 (r := ⟨"Nothing", .l, []⟩) rfl e47 nq
    refine ⟨l, xs66, _, rfl, rfl, hl66, small1000 (by omega), ?_⟩
    refine ⟨_, rfl, .inl ⟨rfl, _, c66.sq⟩, ?_⟩
    refine fun v48 nv48 => ?_
    have s67 := Same.alloc (o := exo v48 (He.ga K "NeverFits") none) nv48
    have e48 := made0 (C := He.ga K "NeverFits") nv48
    have c67 := c66.step s67
    refine ⟨_, rfl, ?_⟩
    refine ⟨_, rfl, ?_⟩
    refine ⟨line_ok (Nat.le_of_ble_eq_true rfl), fun q nq => ?_⟩
    obtain ⟨xs68, hl68, z68, c68⟩ := c67.put 27 (r := ⟨"NeverFits", .r, []⟩) rfl e48 nq
    refine ⟨l, xs68, _, rfl, rfl, hl68, small1000 (by omega), ?_⟩
    exact ⟨_, rfl, kk l _ 20 c68 (by decide)⟩
end
end Ol
set_option Elab.async false
set_option linter.all false
set_option maxRecDepth 100000
set_option maxHeartbeats 8000000
namespace Ol
open PySem PySem.Spec PyProof.Rows L2 Oc
section
variable {P : Program} {w : World} {K : PySem.W.Frag} {mg : Str → Option Value} {base : Heap}
theorem inst_ok (T : Tx K mg) {i j : Nat} {r s : Row} (hi : Ol.rows[i]? = some r) (hj : Ol.rows[j]? = some s := by rfl) : PySem.W.kitOne K (.ref (He.ga K r.name)) (.ref (He.ga K s.name)) = some (decide (r.name = s.name)) := by
  have z := List.all_eq_true.mp (List.all_eq_true.mp (and4 T.says.more).2.1 r (List.mem_of_getElem? hi)) s (List.mem_of_getElem? hj)
  exact of_decide_eq_true z
theorem kind_ok (T : Tx K mg) {i : Nat} {r : Row} (hi : Ol.rows[i]? = some r) (b : Bs) : PySem.W.kitOne K (.ref (He.ga K r.name)) (b.bm.headD .none) = some (decide (r.kind = b)) := by
  have z := List.all_eq_true.mp (List.all_eq_true.mp (and4 T.says.more).2.2.1 r (List.mem_of_getElem? hi)) b (by cases b <;> simp)
  exact of_decide_eq_true z
theorem deep_ok (T : Tx K mg) {i : Nat} {r : Row} (hi : Ol.rows[i]? = some r) : PySem.W.kitAny K (.ref (He.ga K r.name)) [.type "IndexError", .type "KeyError", .type "NotImplementedError"] = some false := by
  have z := List.all_eq_true.mp (and4 T.says.more).2.2.2.1 r (List.mem_of_getElem? hi)
  exact of_decide_eq_true z
theorem Tx.sys (T : Tx K mg) : sysB K = true := (and4 T.says.more).2.2.2.2.1
theorem Tx.noL (T : Tx K mg) (a : Addr) (o : Obj) (h : K.lookup a = some o) : o.cls ≠ .type "list" := by
  have z := List.all_eq_true.mp (and4 T.says.more).2.2.2.2.2 (a, o) (He.lookup_mem h)
  exact of_decide_eq_true z
def flagsOf (r : Row) (ns : List Str) : List V := ns.map fun n => V.bl (decide (r.name = n))
/-- the flags of the first n classes stand in a list of its own at l -/
structure Flags (K : PySem.W.Frag) (H0 : Hp) (r : Row) (l : Addr) (H : Hp) (n : Nat) : Prop where
  s : Same H0 H
  nw : H0 l = none
  at_ : H l = some (.lst (flagsOf r ((rows.map Row.name).take n)))
theorem Flags.start {H0 : Hp} {r : Row} {l : Addr} (nl : H0 l = none) : Flags K H0 r l (upd H0 l (.lst [])) 0 := ⟨Same.alloc nl, nl, upd_same⟩
theorem Flags.sq {H0 H : Hp} {r : Row} {l : Addr} {n : Nat} (c : Flags K H0 r l H n) : SqL K H l (flagsOf r ((rows.map Row.name).take n)) := .inl (.inl c.at_)
theorem Flags.at_e {H0 H : Hp} {r : Row} {l : Addr} {n : Nat} {v : V} {C : Addr} {fs : List (Str × V)} (c : Flags K H0 r l H n) (h : ExAt H0 v C fs) : ExAt H v C fs := h.same c.s
theorem Flags.put {H0 H : Hp} {r : Row} {l q : Addr} {n m : Nat} (c : Flags K H0 r l H n) (_h : n ≤ m) (nq : H q = none) {zs : List V} (e : flagsOf r ((rows.map Row.name).take n) ++ zs = flagsOf r ((rows.map Row.name).take m)) :
    upd H q (.lst zs) l = some (.lst (flagsOf r ((rows.map Row.name).take n))) ∧ upd H q (.lst zs) q = some (.lst zs) ∧ Flags K H0 r l (upd (upd H q (.lst zs)) l (.lst (flagsOf r ((rows.map Row.name).take n) ++ zs))) m := by
  have s1 : Same H (upd H q (.lst zs)) := Same.alloc nq
  refine ⟨s1 _ _ c.at_, upd_same, fun b o eb => ?_, c.nw, by rw [← e]; exact upd_same⟩
  rw [upd_ne (ne_of_none eb c.nw)]
  exact s1 _ _ (c.s b o eb)
/-- the classes that an error is of -/
def spCls (K : PySem.W.Frag) : Sp := fun vs H Q _ => ∃ (v : V) (i : Nat) (r : Row) (fs : List (Str × V)), vs = [v] ∧ rows[i]? = some r ∧ ExAt H v (He.ga K r.name) fs ∧ ∀ (l : Addr) (H' : Hp), Flags K H r l H' 31 → Q (.ref l) H'
theorem sc_cls : FnScope ["_law_error", "_law_found"] ["_law_error"] (defScope s_law_classes) := ⟨rfl, rfl, rfl, by decide +kernel, rfl, by decide +kernel, by decide +kernel⟩
theorem c_cls (T : Tx K mg) : Cal P w K mg base 1 "_law_classes" ["_law_error"] (spCls K) := by
  obtain ⟨fd, F⟩ := D_law_classes T
  refine Cal.mk_of (d := d_law_classes) F (FunD.ok F sc_cls (fun vs H Q E h => ?_) (fun cdv A outer s H vs Q E hr h => ?_)) (F.bindsN fun _ _ _ _ _ _ us hl => match us, hl with | [_], _ => rfl) (g_law_classes T)
  · obtain ⟨v, i, r, fs, rfl, _⟩ := h
    rfl
  · obtain ⟨v, i, r, fs, rfl, hi, hE, kk⟩ := h
    have sc := sc_cls
    have cl := T.cls i hi
    refine ⟨_, (pss_cons (ps_set (i := 1) sc.nd rfl (Or.inl rfl) (pe_lst pa_nil))
      (pss_cons (ps_expr (pe_bm PySem.F.plainAttrs_list PySem.F.slot_list_extend PySem.F.type_list_extend mt_extend (pv 1) (pa_cons (pe_lst (pa_cons (pe_callB call_isE2 (by rfl) (f_isinstance T) (by decide +kernel) (pa_cons (pv 0) (pa_cons (pe_glob rfl (g_InvalidTable T) (v := .ref (He.ga K "InvalidTable")) rfl) pa_nil))) (pa_cons (pe_callB call_isE2 (by rfl) (f_isinstance T) (by decide +kernel) (pa_cons (pv 0) (pa_cons (pe_glob rfl (g_InvalidSchema T) (v := .ref (He.ga K "InvalidSchema")) rfl) pa_nil))) pa_nil))) pa_nil)))
      (pss_cons (ps_expr (pe_bm PySem.F.plainAttrs_list PySem.F.slot_list_extend PySem.F.type_list_extend mt_extend (pv 1) (pa_cons (pe_lst (pa_cons (pe_callB call_isE2 (by rfl) (f_isinstance T) (by decide +kernel) (pa_cons (pv 0) (pa_cons (pe_glob rfl (g_InvalidRow T) (v := .ref (He.ga K "InvalidRow")) rfl) pa_nil))) (pa_cons (pe_callB call_isE2 (by rfl) (f_isinstance T) (by decide +kernel) (pa_cons (pv 0) (pa_cons (pe_glob rfl (g_OtherSchema T) (v := .ref (He.ga K "OtherSchema")) rfl) pa_nil))) pa_nil))) pa_nil)))
      (pss_cons (ps_expr (pe_bm PySem.F.plainAttrs_list PySem.F.slot_list_extend PySem.F.type_list_extend mt_extend (pv 1) (pa_cons (pe_lst (pa_cons (pe_callB call_isE2 (by rfl) (f_isinstance T) (by decide +kernel) (pa_cons (pv 0) (pa_cons (pe_glob rfl (g_InvalidRule T) (v := .ref (He.ga K "InvalidRule")) rfl) pa_nil))) (pa_cons (pe_callB call_isE2 (by rfl) (f_isinstance T) (by decide +kernel) (pa_cons (pv 0) (pa_cons (pe_glob rfl (g_Misfit T) (v := .ref (He.ga K "Misfit")) rfl) pa_nil))) pa_nil))) pa_nil)))
      (pss_cons (ps_expr (pe_bm PySem.F.plainAttrs_list PySem.F.slot_list_extend PySem.F.type_list_extend mt_extend (pv 1) (pa_cons (pe_lst (pa_cons (pe_callB call_isE2 (by rfl) (f_isinstance T) (by decide +kernel) (pa_cons (pv 0) (pa_cons (pe_glob rfl (g_Circle T) (v := .ref (He.ga K "Circle")) rfl) pa_nil))) (pa_cons (pe_callB call_isE2 (by rfl) (f_isinstance T) (by decide +kernel) (pa_cons (pv 0) (pa_cons (pe_glob rfl (g_InvalidFact T) (v := .ref (He.ga K "InvalidFact")) rfl) pa_nil))) pa_nil))) pa_nil)))
      (pss_cons (ps_expr (pe_bm PySem.F.plainAttrs_list PySem.F.slot_list_extend PySem.F.type_list_extend mt_extend (pv 1) (pa_cons (pe_lst (pa_cons (pe_callB call_isE2 (by rfl) (f_isinstance T) (by decide +kernel) (pa_cons (pv 0) (pa_cons (pe_glob rfl (g_InvalidChange T) (v := .ref (He.ga K "InvalidChange")) rfl) pa_nil))) (pa_cons (pe_callB call_isE2 (by rfl) (f_isinstance T) (by decide +kernel) (pa_cons (pv 0) (pa_cons (pe_glob rfl (g_InvalidAnswer T) (v := .ref (He.ga K "InvalidAnswer")) rfl) pa_nil))) pa_nil))) pa_nil)))
      (pss_cons (ps_expr (pe_bm PySem.F.plainAttrs_list PySem.F.slot_list_extend PySem.F.type_list_extend mt_extend (pv 1) (pa_cons (pe_lst (pa_cons (pe_callB call_isE2 (by rfl) (f_isinstance T) (by decide +kernel) (pa_cons (pv 0) (pa_cons (pe_glob rfl (g_InvalidTemplate T) (v := .ref (He.ga K "InvalidTemplate")) rfl) pa_nil))) (pa_cons (pe_callB call_isE2 (by rfl) (f_isinstance T) (by decide +kernel) (pa_cons (pv 0) (pa_cons (pe_glob rfl (g_InvalidNames T) (v := .ref (He.ga K "InvalidNames")) rfl) pa_nil))) pa_nil))) pa_nil)))
      (pss_cons (ps_expr (pe_bm PySem.F.plainAttrs_list PySem.F.slot_list_extend PySem.F.type_list_extend mt_extend (pv 1) (pa_cons (pe_lst (pa_cons (pe_callB call_isE2 (by rfl) (f_isinstance T) (by decide +kernel) (pa_cons (pv 0) (pa_cons (pe_glob rfl (g_InvalidPair T) (v := .ref (He.ga K "InvalidPair")) rfl) pa_nil))) (pa_cons (pe_callB call_isE2 (by rfl) (f_isinstance T) (by decide +kernel) (pa_cons (pv 0) (pa_cons (pe_glob rfl (g_InvalidLimit T) (v := .ref (He.ga K "InvalidLimit")) rfl) pa_nil))) pa_nil))) pa_nil)))
      (pss_cons (ps_expr (pe_bm PySem.F.plainAttrs_list PySem.F.slot_list_extend PySem.F.type_list_extend mt_extend (pv 1) (pa_cons (pe_lst (pa_cons (pe_callB call_isE2 (by rfl) (f_isinstance T) (by decide +kernel) (pa_cons (pv 0) (pa_cons (pe_glob rfl (g_Unreadable T) (v := .ref (He.ga K "Unreadable")) rfl) pa_nil))) (pa_cons (pe_callB call_isE2 (by rfl) (f_isinstance T) (by decide +kernel) (pa_cons (pv 0) (pa_cons (pe_glob rfl (g_NoLine T) (v := .ref (He.ga K "NoLine")) rfl) pa_nil))) pa_nil))) pa_nil)))
      (pss_cons (ps_expr (pe_bm PySem.F.plainAttrs_list PySem.F.slot_list_extend PySem.F.type_list_extend mt_extend (pv 1) (pa_cons (pe_lst (pa_cons (pe_callB call_isE2 (by rfl) (f_isinstance T) (by decide +kernel) (pa_cons (pv 0) (pa_cons (pe_glob rfl (g_UnknownTable T) (v := .ref (He.ga K "UnknownTable")) rfl) pa_nil))) (pa_cons (pe_callB call_isE2 (by rfl) (f_isinstance T) (by decide +kernel) (pa_cons (pv 0) (pa_cons (pe_glob rfl (g_UnknownColumn T) (v := .ref (He.ga K "UnknownColumn")) rfl) pa_nil))) pa_nil))) pa_nil)))
      (pss_cons (ps_expr (pe_bm PySem.F.plainAttrs_list PySem.F.slot_list_extend PySem.F.type_list_extend mt_extend (pv 1) (pa_cons (pe_lst (pa_cons (pe_callB call_isE2 (by rfl) (f_isinstance T) (by decide +kernel) (pa_cons (pv 0) (pa_cons (pe_glob rfl (g_OutOfRange T) (v := .ref (He.ga K "OutOfRange")) rfl) pa_nil))) (pa_cons (pe_callB call_isE2 (by rfl) (f_isinstance T) (by decide +kernel) (pa_cons (pv 0) (pa_cons (pe_glob rfl (g_NoAnswer T) (v := .ref (He.ga K "NoAnswer")) rfl) pa_nil))) pa_nil))) pa_nil)))
      (pss_cons (ps_expr (pe_bm PySem.F.plainAttrs_list PySem.F.slot_list_extend PySem.F.type_list_extend mt_extend (pv 1) (pa_cons (pe_lst (pa_cons (pe_callB call_isE2 (by rfl) (f_isinstance T) (by decide +kernel) (pa_cons (pv 0) (pa_cons (pe_glob rfl (g_NoCase T) (v := .ref (He.ga K "NoCase")) rfl) pa_nil))) (pa_cons (pe_callB call_isE2 (by rfl) (f_isinstance T) (by decide +kernel) (pa_cons (pv 0) (pa_cons (pe_glob rfl (g_NoBranch T) (v := .ref (He.ga K "NoBranch")) rfl) pa_nil))) pa_nil))) pa_nil)))
      (pss_cons (ps_expr (pe_bm PySem.F.plainAttrs_list PySem.F.slot_list_extend PySem.F.type_list_extend mt_extend (pv 1) (pa_cons (pe_lst (pa_cons (pe_callB call_isE2 (by rfl) (f_isinstance T) (by decide +kernel) (pa_cons (pv 0) (pa_cons (pe_glob rfl (g_Nothing T) (v := .ref (He.ga K "Nothing")) rfl) pa_nil))) (pa_cons (pe_callB call_isE2 (by rfl) (f_isinstance T) (by decide +kernel) (pa_cons (pv 0) (pa_cons (pe_glob rfl (g_TooMany T) (v := .ref (He.ga K "TooMany")) rfl) pa_nil))) pa_nil))) pa_nil)))
      (pss_cons (ps_expr (pe_bm PySem.F.plainAttrs_list PySem.F.slot_list_extend PySem.F.type_list_extend mt_extend (pv 1) (pa_cons (pe_lst (pa_cons (pe_callB call_isE2 (by rfl) (f_isinstance T) (by decide +kernel) (pa_cons (pv 0) (pa_cons (pe_glob rfl (g_TooDear T) (v := .ref (He.ga K "TooDear")) rfl) pa_nil))) (pa_cons (pe_callB call_isE2 (by rfl) (f_isinstance T) (by decide +kernel) (pa_cons (pv 0) (pa_cons (pe_glob rfl (g_Broken T) (v := .ref (He.ga K "Broken")) rfl) pa_nil))) pa_nil))) pa_nil)))
      (pss_cons (ps_expr (pe_bm PySem.F.plainAttrs_list PySem.F.slot_list_extend PySem.F.type_list_extend mt_extend (pv 1) (pa_cons (pe_lst (pa_cons (pe_callB call_isE2 (by rfl) (f_isinstance T) (by decide +kernel) (pa_cons (pv 0) (pa_cons (pe_glob rfl (g_Unfit T) (v := .ref (He.ga K "Unfit")) rfl) pa_nil))) (pa_cons (pe_callB call_isE2 (by rfl) (f_isinstance T) (by decide +kernel) (pa_cons (pv 0) (pa_cons (pe_glob rfl (g_NeverFits T) (v := .ref (He.ga K "NeverFits")) rfl) pa_nil))) pa_nil))) pa_nil)))
      (pss_cons (ps_expr (pe_bm PySem.F.plainAttrs_list PySem.F.slot_list_extend PySem.F.type_list_extend mt_extend (pv 1) (pa_cons (pe_lst (pa_cons (pe_callB call_isE2 (by rfl) (f_isinstance T) (by decide +kernel) (pa_cons (pv 0) (pa_cons (pe_glob rfl (g_Refused T) (v := .ref (He.ga K "Refused")) rfl) pa_nil))) (pa_cons (pe_callB call_isE2 (by rfl) (f_isinstance T) (by decide +kernel) (pa_cons (pv 0) (pa_cons (pe_glob rfl (g_LookFailed T) (v := .ref (He.ga K "LookFailed")) rfl) pa_nil))) (pa_cons (pe_callB call_isE2 (by rfl) (f_isinstance T) (by decide +kernel) (pa_cons (pv 0) (pa_cons (pe_glob rfl (g_NoLook T) (v := .ref (He.ga K "NoLook")) rfl) pa_nil))) pa_nil)))) pa_nil)))
      (pss_one (ps_ret (pv 1))))))))))))))))))), ?_⟩
    refine ⟨line_ok (by decide), fun l nl => ?_⟩
    have c0 : Flags K H r l (upd H l (.lst [])) 0 := Flags.start nl
    refine ⟨_, rfl, .inl ⟨rfl, _, c0.sq⟩, ?_⟩
    refine ⟨_, rfl, _, _, _, _, _, _, fs, _, rfl, .own _, c0.at_e hE, cl, inst_ok T hi (j := 0) (s := ⟨"InvalidTable", .v, ["argument"]⟩) rfl, ?_⟩
    refine ⟨_, rfl, _, _, _, _, _, _, fs, _, rfl, .own _, c0.at_e hE, cl, inst_ok T hi (j := 1) (s := ⟨"InvalidSchema", .v, []⟩) rfl, ?_⟩
    refine ⟨line_ok (Nat.le_of_ble_eq_true rfl), fun q nq => ?_⟩
    obtain ⟨z0, w0, c1⟩ := c0.put (m := 2) (by decide) nq (zs := flagsOf r ["InvalidTable", "InvalidSchema"]) rfl
    refine ⟨l, q, _, _, rfl, rfl, z0, w0, line_ok (Nat.le_of_ble_eq_true rfl), ?_⟩
    refine ⟨_, rfl, .inl ⟨rfl, _, c1.sq⟩, ?_⟩
    refine ⟨_, rfl, _, _, _, _, _, _, fs, _, rfl, .own _, c1.at_e hE, cl, inst_ok T hi (j := 2) (s := ⟨"InvalidRow", .v, ["value"]⟩) rfl, ?_⟩
    refine ⟨_, rfl, _, _, _, _, _, _, fs, _, rfl, .own _, c1.at_e hE, cl, inst_ok T hi (j := 3) (s := ⟨"OtherSchema", .v, []⟩) rfl, ?_⟩
    refine ⟨line_ok (Nat.le_of_ble_eq_true rfl), fun q nq => ?_⟩
    obtain ⟨z1, w1, c2⟩ := c1.put (m := 4) (by decide) nq (zs := flagsOf r ["InvalidRow", "OtherSchema"]) rfl
    refine ⟨l, q, _, _, rfl, rfl, z1, w1, line_ok (Nat.le_of_ble_eq_true rfl), ?_⟩
    refine ⟨_, rfl, .inl ⟨rfl, _, c2.sq⟩, ?_⟩
    refine ⟨_, rfl, _, _, _, _, _, _, fs, _, rfl, .own _, c2.at_e hE, cl, inst_ok T hi (j := 4) (s := ⟨"InvalidRule", .v, ["argument"]⟩) rfl, ?_⟩
    refine ⟨_, rfl, _, _, _, _, _, _, fs, _, rfl, .own _, c2.at_e hE, cl, inst_ok T hi (j := 5) (s := ⟨"Misfit", .v, ["index"]⟩) rfl, ?_⟩
    refine ⟨line_ok (Nat.le_of_ble_eq_true rfl), fun q nq => ?_⟩
    obtain ⟨z2, w2, c3⟩ := c2.put (m := 6) (by decide) nq (zs := flagsOf r ["InvalidRule", "Misfit"]) rfl
    refine ⟨l, q, _, _, rfl, rfl, z2, w2, line_ok (Nat.le_of_ble_eq_true rfl), ?_⟩
    refine ⟨_, rfl, .inl ⟨rfl, _, c3.sq⟩, ?_⟩
    refine ⟨_, rfl, _, _, _, _, _, _, fs, _, rfl, .own _, c3.at_e hE, cl, inst_ok T hi (j := 6) (s := ⟨"Circle", .v, ["value"]⟩) rfl, ?_⟩
    refine ⟨_, rfl, _, _, _, _, _, _, fs, _, rfl, .own _, c3.at_e hE, cl, inst_ok T hi (j := 7) (s := ⟨"InvalidFact", .v, ["index"]⟩) rfl, ?_⟩
    refine ⟨line_ok (Nat.le_of_ble_eq_true rfl), fun q nq => ?_⟩
    obtain ⟨z3, w3, c4⟩ := c3.put (m := 8) (by decide) nq (zs := flagsOf r ["Circle", "InvalidFact"]) rfl
    refine ⟨l, q, _, _, rfl, rfl, z3, w3, line_ok (Nat.le_of_ble_eq_true rfl), ?_⟩
    refine ⟨_, rfl, .inl ⟨rfl, _, c4.sq⟩, ?_⟩
    refine ⟨_, rfl, _, _, _, _, _, _, fs, _, rfl, .own _, c4.at_e hE, cl, inst_ok T hi (j := 8) (s := ⟨"InvalidChange", .v, ["index"]⟩) rfl, ?_⟩
    refine ⟨_, rfl, _, _, _, _, _, _, fs, _, rfl, .own _, c4.at_e hE, cl, inst_ok T hi (j := 9) (s := ⟨"InvalidAnswer", .v, ["value"]⟩) rfl, ?_⟩
    refine ⟨line_ok (Nat.le_of_ble_eq_true rfl), fun q nq => ?_⟩
    obtain ⟨z4, w4, c5⟩ := c4.put (m := 10) (by decide) nq (zs := flagsOf r ["InvalidChange", "InvalidAnswer"]) rfl
    refine ⟨l, q, _, _, rfl, rfl, z4, w4, line_ok (Nat.le_of_ble_eq_true rfl), ?_⟩
    refine ⟨_, rfl, .inl ⟨rfl, _, c5.sq⟩, ?_⟩
    refine ⟨_, rfl, _, _, _, _, _, _, fs, _, rfl, .own _, c5.at_e hE, cl, inst_ok T hi (j := 10) (s := ⟨"InvalidTemplate", .v, ["index"]⟩) rfl, ?_⟩
    refine ⟨_, rfl, _, _, _, _, _, _, fs, _, rfl, .own _, c5.at_e hE, cl, inst_ok T hi (j := 11) (s := ⟨"InvalidNames", .v, ["value"]⟩) rfl, ?_⟩
    refine ⟨line_ok (Nat.le_of_ble_eq_true rfl), fun q nq => ?_⟩
    obtain ⟨z5, w5, c6⟩ := c5.put (m := 12) (by decide) nq (zs := flagsOf r ["InvalidTemplate", "InvalidNames"]) rfl
    refine ⟨l, q, _, _, rfl, rfl, z5, w5, line_ok (Nat.le_of_ble_eq_true rfl), ?_⟩
    refine ⟨_, rfl, .inl ⟨rfl, _, c6.sq⟩, ?_⟩
    refine ⟨_, rfl, _, _, _, _, _, _, fs, _, rfl, .own _, c6.at_e hE, cl, inst_ok T hi (j := 12) (s := ⟨"InvalidPair", .v, []⟩) rfl, ?_⟩
    refine ⟨_, rfl, _, _, _, _, _, _, fs, _, rfl, .own _, c6.at_e hE, cl, inst_ok T hi (j := 13) (s := ⟨"InvalidLimit", .v, ["value"]⟩) rfl, ?_⟩
    refine ⟨line_ok (Nat.le_of_ble_eq_true rfl), fun q nq => ?_⟩
    obtain ⟨z6, w6, c7⟩ := c6.put (m := 14) (by decide) nq (zs := flagsOf r ["InvalidPair", "InvalidLimit"]) rfl
    refine ⟨l, q, _, _, rfl, rfl, z6, w6, line_ok (Nat.le_of_ble_eq_true rfl), ?_⟩
    refine ⟨_, rfl, .inl ⟨rfl, _, c7.sq⟩, ?_⟩
    refine ⟨_, rfl, _, _, _, _, _, _, fs, _, rfl, .own _, c7.at_e hE, cl, inst_ok T hi (j := 14) (s := ⟨"Unreadable", .v, ["index"]⟩) rfl, ?_⟩
    refine ⟨_, rfl, _, _, _, _, _, _, fs, _, rfl, .own _, c7.at_e hE, cl, inst_ok T hi (j := 15) (s := ⟨"NoLine", .v, []⟩) rfl, ?_⟩
    refine ⟨line_ok (Nat.le_of_ble_eq_true rfl), fun q nq => ?_⟩
    obtain ⟨z7, w7, c8⟩ := c7.put (m := 16) (by decide) nq (zs := flagsOf r ["Unreadable", "NoLine"]) rfl
    refine ⟨l, q, _, _, rfl, rfl, z7, w7, line_ok (Nat.le_of_ble_eq_true rfl), ?_⟩
    refine ⟨_, rfl, .inl ⟨rfl, _, c8.sq⟩, ?_⟩
    refine ⟨_, rfl, _, _, _, _, _, _, fs, _, rfl, .own _, c8.at_e hE, cl, inst_ok T hi (j := 16) (s := ⟨"UnknownTable", .l, ["value"]⟩) rfl, ?_⟩
    refine ⟨_, rfl, _, _, _, _, _, _, fs, _, rfl, .own _, c8.at_e hE, cl, inst_ok T hi (j := 17) (s := ⟨"UnknownColumn", .l, ["value"]⟩) rfl, ?_⟩
    refine ⟨line_ok (Nat.le_of_ble_eq_true rfl), fun q nq => ?_⟩
    obtain ⟨z8, w8, c9⟩ := c8.put (m := 18) (by decide) nq (zs := flagsOf r ["UnknownTable", "UnknownColumn"]) rfl
    refine ⟨l, q, _, _, rfl, rfl, z8, w8, line_ok (Nat.le_of_ble_eq_true rfl), ?_⟩
    refine ⟨_, rfl, .inl ⟨rfl, _, c9.sq⟩, ?_⟩
    refine ⟨_, rfl, _, _, _, _, _, _, fs, _, rfl, .own _, c9.at_e hE, cl, inst_ok T hi (j := 18) (s := ⟨"OutOfRange", .l, ["value"]⟩) rfl, ?_⟩
    refine ⟨_, rfl, _, _, _, _, _, _, fs, _, rfl, .own _, c9.at_e hE, cl, inst_ok T hi (j := 19) (s := ⟨"NoAnswer", .l, ["value"]⟩) rfl, ?_⟩
    refine ⟨line_ok (Nat.le_of_ble_eq_true rfl), fun q nq => ?_⟩
    obtain ⟨z9, w9, c10⟩ := c9.put (m := 20) (by decide) nq (zs := flagsOf r ["OutOfRange", "NoAnswer"]) rfl
    refine ⟨l, q, _, _, rfl, rfl, z9, w9, line_ok (Nat.le_of_ble_eq_true rfl), ?_⟩
    refine ⟨_, rfl, .inl ⟨rfl, _, c10.sq⟩, ?_⟩
    refine ⟨_, rfl, _, _, _, _, _, _, fs, _, rfl, .own _, c10.at_e hE, cl, inst_ok T hi (j := 20) (s := ⟨"NoCase", .l, ["case"]⟩) rfl, ?_⟩
    refine ⟨_, rfl, _, _, _, _, _, _, fs, _, rfl, .own _, c10.at_e hE, cl, inst_ok T hi (j := 21) (s := ⟨"NoBranch", .l, ["value"]⟩) rfl, ?_⟩
    refine ⟨line_ok (Nat.le_of_ble_eq_true rfl), fun q nq => ?_⟩
    obtain ⟨z10, w10, c11⟩ := c10.put (m := 22) (by decide) nq (zs := flagsOf r ["NoCase", "NoBranch"]) rfl
    refine ⟨l, q, _, _, rfl, rfl, z10, w10, line_ok (Nat.le_of_ble_eq_true rfl), ?_⟩
    refine ⟨_, rfl, .inl ⟨rfl, _, c11.sq⟩, ?_⟩
    refine ⟨_, rfl, _, _, _, _, _, _, fs, _, rfl, .own _, c11.at_e hE, cl, inst_ok T hi (j := 22) (s := ⟨"Nothing", .l, []⟩) rfl, ?_⟩
    refine ⟨_, rfl, _, _, _, _, _, _, fs, _, rfl, .own _, c11.at_e hE, cl, inst_ok T hi (j := 23) (s := ⟨"TooMany", .o, ["limit"]⟩) rfl, ?_⟩
    refine ⟨line_ok (Nat.le_of_ble_eq_true rfl), fun q nq => ?_⟩
    obtain ⟨z11, w11, c12⟩ := c11.put (m := 24) (by decide) nq (zs := flagsOf r ["Nothing", "TooMany"]) rfl
    refine ⟨l, q, _, _, rfl, rfl, z11, w11, line_ok (Nat.le_of_ble_eq_true rfl), ?_⟩
    refine ⟨_, rfl, .inl ⟨rfl, _, c12.sq⟩, ?_⟩
    refine ⟨_, rfl, _, _, _, _, _, _, fs, _, rfl, .own _, c12.at_e hE, cl, inst_ok T hi (j := 24) (s := ⟨"TooDear", .o, ["number"]⟩) rfl, ?_⟩
    refine ⟨_, rfl, _, _, _, _, _, _, fs, _, rfl, .own _, c12.at_e hE, cl, inst_ok T hi (j := 25) (s := ⟨"Broken", .r, ["index", "spot"]⟩) rfl, ?_⟩
    refine ⟨line_ok (Nat.le_of_ble_eq_true rfl), fun q nq => ?_⟩
    obtain ⟨z12, w12, c13⟩ := c12.put (m := 26) (by decide) nq (zs := flagsOf r ["TooDear", "Broken"]) rfl
    refine ⟨l, q, _, _, rfl, rfl, z12, w12, line_ok (Nat.le_of_ble_eq_true rfl), ?_⟩
    refine ⟨_, rfl, .inl ⟨rfl, _, c13.sq⟩, ?_⟩
    refine ⟨_, rfl, _, _, _, _, _, _, fs, _, rfl, .own _, c13.at_e hE, cl, inst_ok T hi (j := 26) (s := ⟨"Unfit", .r, ["index"]⟩) rfl, ?_⟩
    refine ⟨_, rfl, _, _, _, _, _, _, fs, _, rfl, .own _, c13.at_e hE, cl, inst_ok T hi (j := 27) (s := ⟨"NeverFits", .r, []⟩) rfl, ?_⟩
    refine ⟨line_ok (Nat.le_of_ble_eq_true rfl), fun q nq => ?_⟩
    obtain ⟨z13, w13, c14⟩ := c13.put (m := 28) (by decide) nq (zs := flagsOf r ["Unfit", "NeverFits"]) rfl
    refine ⟨l, q, _, _, rfl, rfl, z13, w13, line_ok (Nat.le_of_ble_eq_true rfl), ?_⟩
    refine ⟨_, rfl, .inl ⟨rfl, _, c14.sq⟩, ?_⟩
    refine ⟨_, rfl, _, _, _, _, _, _, fs, _, rfl, .own _, c14.at_e hE, cl, inst_ok T hi (j := 28) (s := ⟨"Refused", .r, ["change"]⟩) rfl, ?_⟩
    refine ⟨_, rfl, _, _, _, _, _, _, fs, _, rfl, .own _, c14.at_e hE, cl, inst_ok T hi (j := 29) (s := ⟨"LookFailed", .r, ["number"]⟩) rfl, ?_⟩
    refine ⟨_, rfl, _, _, _, _, _, _, fs, _, rfl, .own _, c14.at_e hE, cl, inst_ok T hi (j := 30) (s := ⟨"NoLook", .r, ["value"]⟩) rfl, ?_⟩
    refine ⟨line_ok (Nat.le_of_ble_eq_true rfl), fun q nq => ?_⟩
    obtain ⟨z14, w14, c15⟩ := c14.put (m := 31) (by decide) nq (zs := flagsOf r ["Refused", "LookFailed", "NoLook"]) rfl
    refine ⟨l, q, _, _, rfl, rfl, z14, w14, line_ok (Nat.le_of_ble_eq_true rfl), ?_⟩
    exact ⟨_, rfl, kk l _ c15⟩
end
end Ol
set_option Elab.async false
set_option linter.all false
set_option maxRecDepth 100000
set_option maxHeartbeats 8000000
namespace Ol
open PySem PySem.Spec PyProof.Rows L2 Oc
section
variable {P : Program} {w : World} {K : PySem.W.Frag} {mg : Str → Option Value} {base : Heap}
def flags4 (b : Bs) : List V := [.bl (decide (b = .v)), .bl (decide (b = .l)), .bl (decide (b = .o)), .bl (decide (b = .r))]
def words4 : List V := [.str "value", .str "lookup", .str "overflow", .str "runtime"]
/-- the words of the kinds below n whose flag holds -/
def kept4 (b : Bs) (n : Nat) : List V := ((words4.zip (flags4 b)).take n).filterMap fun p => if p.2 = .bl true then some p.1 else none
/-- the kind of an error, as a list of one word -/
def spSorts (K : PySem.W.Frag) : Sp := fun vs H Q _ => ∃ (v : V) (i : Nat) (r : Row) (fs : List (Str × V)), vs = [v] ∧ rows[i]? = some r ∧ ExAt H v (He.ga K r.name) fs ∧ ∀ (l : Addr) (H' : Hp), Same H H' → H' l = some (.lst [.str r.kind.word]) → Q (.ref l) H'
theorem sc_sorts : FnScope ["_law_error", "_law_flags", "_law_one", "_law_flag"] ["_law_error"] (defScope s_law_sorts) := ⟨rfl, rfl, rfl, by decide +kernel, rfl, by decide +kernel, by decide +kernel⟩
theorem kept4_end (b : Bs) : kept4 b 4 = [.str b.word] := by
  cases b <;> rfl
theorem kept4_step {b : Bs} {i : Nat} {x y : V} (hx : words4[i]? = some x) (hy : (flags4 b)[i]? = some y) : ∃ t, y = .bl t ∧ kept4 b (i + 1) = if t = true then kept4 b i ++ [x] else kept4 b i := by
  match i, hx, hy with
  | 0, hx, hy => cases hx; cases hy; exact ⟨_, rfl, by cases b <;> rfl⟩
  | 1, hx, hy => cases hx; cases hy; exact ⟨_, rfl, by cases b <;> rfl⟩
  | 2, hx, hy => cases hx; cases hy; exact ⟨_, rfl, by cases b <;> rfl⟩
  | 3, hx, hy => cases hx; cases hy; exact ⟨_, rfl, by cases b <;> rfl⟩
  | n + 4, hx, _ => exact nomatch hx
theorem kept4_short (b : Bs) (i : Nat) : (kept4 b i).length < sizeLine := by
  have h : (kept4 b i).length ≤ 4 := Nat.le_trans (List.length_filterMap_le _ _) (by rw [List.length_take]; cases b <;> exact Nat.min_le_right _ _)
  exact Nat.lt_of_le_of_lt h (Nat.le_of_ble_eq_true rfl)
/-- the two lists and the new one -/
structure Sort4 (H0 : Hp) (b : Bs) (wa fa D : Addr) (i : Nat) (H : Hp) : Prop where
  s : Same H0 H
  nw : H0 D = none
  w : H wa = some (.lst words4)
  f : H fa = some (.lst (flags4 b))
  d : H D = some (.lst (kept4 b i))
theorem Sort4.step {H0 H : Hp} {b : Bs} {wa fa D T : Addr} {i : Nat} {o : HO} (c : Sort4 H0 b wa fa D i H) (n : H T = none) : Sort4 H0 b wa fa D i (upd H T o) :=
  ⟨c.s.trans (Same.alloc n), c.nw, (Same.alloc n) _ _ c.w, (Same.alloc n) _ _ c.f, (Same.alloc n) _ _ c.d⟩
theorem Sort4.put {H0 H : Hp} {b : Bs} {wa fa D : Addr} {i : Nat} (c : Sort4 H0 b wa fa D i H) (nw : wa ≠ D) (nf : fa ≠ D) : Sort4 H0 b wa fa D (i + 1) (upd H D (.lst (kept4 b (i + 1)))) :=
  ⟨fun a o e => by rw [upd_ne (ne_of_none e c.nw)]; exact c.s _ _ e, c.nw, by rw [upd_ne nw]; exact c.w, by rw [upd_ne nf]; exact c.f, upd_same⟩
theorem c_sorts (T : Tx K mg) : Cal P w K mg base 1 "_law_sorts" ["_law_error"] (spSorts K) := by
  obtain ⟨fd, F⟩ := D_law_sorts T
  refine Cal.mk_of (d := d_law_sorts) F (FunD.ok F sc_sorts (fun vs H Q E h => ?_) (fun cdv A outer s H vs Q E hr h => ?_)) (F.bindsN fun _ _ _ _ _ _ us hl => match us, hl with | [_], _ => rfl) (g_law_sorts T)
  · obtain ⟨v, i, r, fs, rfl, _⟩ := h
    rfl
  · obtain ⟨v, i, r, fs, rfl, hi, hE, kk⟩ := h
    have sc := sc_sorts
    have cl := T.cls i hi
    refine ⟨_, (pss_cons (ps_set (i := 1) sc.nd rfl (Or.inl rfl) (pe_lst (pa_cons (pe_callB call_isE2 (by rfl) (f_isinstance T) (by decide +kernel) (pa_cons (pv 0) (pa_cons (pe_bltn (v := .ty "ValueError") (u := .type "ValueError") (by rfl) (f_ValueError T) (by decide +kernel) rfl) pa_nil))) (pa_cons (pe_callB call_isE2 (by rfl) (f_isinstance T) (by decide +kernel) (pa_cons (pv 0) (pa_cons (pe_bltn (v := .ty "LookupError") (u := .type "LookupError") (by rfl) (f_LookupError T) (by decide +kernel) rfl) pa_nil))) pa_nil))))
      (pss_cons (ps_set (i := 1) sc.nd rfl (Or.inl rfl) (pe_op op_cat (pv 1) (pe_lst (pa_cons (pe_callB call_isE2 (by rfl) (f_isinstance T) (by decide +kernel) (pa_cons (pv 0) (pa_cons (pe_bltn (v := .ty "OverflowError") (u := .type "OverflowError") (by rfl) (f_OverflowError T) (by decide +kernel) rfl) pa_nil))) (pa_cons (pe_callB call_isE2 (by rfl) (f_isinstance T) (by decide +kernel) (pa_cons (pv 0) (pa_cons (pe_bltn (v := .ty "RuntimeError") (u := .type "RuntimeError") (by rfl) (f_RuntimeError T) (by decide +kernel) rfl) pa_nil))) pa_nil)))))
      (pss_cons (ps_if (pt_val (pe_callB call_isET (by rfl) (f_isinstance T) (by decide +kernel) (pa_cons (pv 0) (pa_cons (pe_tup (pa_cons (pe_bltn (v := .ty "IndexError") (u := .type "IndexError") (by rfl) (f_IndexError T) (by decide +kernel) rfl) (pa_cons (pe_bltn (v := .ty "KeyError") (u := .type "KeyError") (by rfl) (f_KeyError T) (by decide +kernel) rfl) (pa_cons (pe_bltn (v := .ty "NotImplementedError") (u := .type "NotImplementedError") (by rfl) (f_NotImplementedError T) (by decide +kernel) rfl) pa_nil)))) pa_nil)))) (pss_one (ps_ret (pe_lst (pa_cons pe_str pa_nil)))) pss_nil)
      (pss_one (ps_ret (pe_lc (g := gTup K 2 (gCons (gName 2) (gCons (gName 3) gNil))) (tt := tB (tVar 3)) (te := tVar 2) (own := [("_law_one", 2), ("_law_flag", 3)]) (by rfl) sc.nd (pi_zip (by rfl) (f_zip T) (pa_cons (pe_lst (pa_cons pe_str (pa_cons pe_str (pa_cons pe_str (pa_cons pe_str pa_nil))))) (pa_cons (pv 1) pa_nil))) (blkOk_by (N := ["_law_error", "_law_flags", "_law_one", "_law_flag"]) (sc := defScope s_law_sorts) (by decide +kernel)) (fun _ _ _ _ _ => (pg_tup rfl (pgs_cons (pg_name (i := 2) sc.nd rfl (Or.inl rfl)) (pgs_cons (pg_name (i := 3) sc.nd rfl (Or.inl rfl)) pgs_nil)))) (fun _ _ _ _ _ => pts_one (pt_val (pv 3))) (fun _ _ _ _ _ => (pv 2)))))))), ?_⟩
    refine ⟨_, rfl, _, _, _, _, _, _, fs, _, rfl, .ty _, hE, cl, kind_ok T hi .v, ?_⟩
    refine ⟨_, rfl, _, _, _, _, _, _, fs, _, rfl, .ty _, hE, cl, kind_ok T hi .l, ?_⟩
    refine ⟨line_ok (Nat.le_of_ble_eq_true rfl), fun q1 n1 => ?_⟩
    have s1 := Same.alloc (o := .lst [.bl (decide (r.kind = .v)), .bl (decide (r.kind = .l))]) n1
    have hE1 := hE.same s1
    refine ⟨_, rfl, _, rfl, _, _, _, _, _, _, fs, _, rfl, .ty _, hE1, cl, kind_ok T hi .o, ?_⟩
    refine ⟨_, rfl, _, _, _, _, _, _, fs, _, rfl, .ty _, hE1, cl, kind_ok T hi .r, ?_⟩
    refine ⟨line_ok (Nat.le_of_ble_eq_true rfl), fun q2 n2 => ?_⟩
    have s2 := Same.alloc (o := .lst [.bl (decide (r.kind = .o)), .bl (decide (r.kind = .r))]) n2
    refine ⟨_, _, _, _, rfl, rfl, s2 _ _ upd_same, upd_same, line_ok (Nat.le_of_ble_eq_true rfl), fun q3 n3 => ?_⟩
    have s3 := Same.alloc (o := .lst (flags4 r.kind)) n3
    have hE3 := (hE1.same s2).same s3
    have w1 := s3 _ _ (s2 _ _ (upd_same (H := H) (a := q1) (o := .lst [.bl (decide (r.kind = .v)), .bl (decide (r.kind = .l))])))
    refine ⟨_, rfl, line_ok (Nat.le_of_ble_eq_true rfl), fun q4 n4 => ?_⟩
    have s4 := Same.alloc (o := .tup [.ty "IndexError", .ty "KeyError", .ty "NotImplementedError"]) n4
    have hE4 := hE3.same s4
    refine ⟨_, _, _, _, _, _, _, fs, _, rfl, upd_same, .cons (.ty _) (.cons (.ty _) (.cons (.ty _) .nil)), hE4, cl, deep_ok T hi, _, rfl, iteF ?_⟩
    refine ⟨line_ok (Nat.le_of_ble_eq_true rfl), fun q5 n5 => ?_⟩
    have s5 := Same.alloc (o := .lst words4) n5
    have f5 := s5 _ _ (s4 _ _ (upd_same (a := q3) (o := .lst (flags4 r.kind)) (H := upd (upd H q1 (.lst [.bl (decide (r.kind = .v)), .bl (decide (r.kind = .l))])) q2 (.lst [.bl (decide (r.kind = .o)), .bl (decide (r.kind = .r))]))))
    refine ⟨_, rfl, _, _, words4, flags4 r.kind, rfl, .inl (.inl upd_same), .inl (.inl f5), ?_⟩
    have sA := ((((s1.trans s2).trans s3).trans s4).trans s5)
    intro D nD
    have nD0 : H D = none := by
      cases e : H D with
      | none => rfl
      | some o => exact nomatch (sA _ _ e).symm.trans nD
    have nw := ne_of_none (upd_same (a := q5) (o := .lst words4)) nD
    have nf := ne_of_none f5 nD
    refine lc_it (walk_zip (xs := words4) (ys := flags4 r.kind) (n := 4) rfl) (Sort4 H r.kind q5 q3 D) ⟨sA.trans (Same.alloc nD), nD0, (Same.alloc nD) _ _ upd_same, (Same.alloc nD) _ _ f5, upd_same⟩ (fun i H' _ c => ⟨.inl (.inl c.w), .inl (.inl c.f)⟩) ?_ fun H' c => kk D H' c.s (by rw [c.d, kept4_end])
    rintro i x H' H'' hlt c ⟨P1, a, y, rfl, nP, rfl, ha, hy⟩
    obtain ⟨t, rfl, e⟩ := kept4_step ha hy
    have c1 := c.step (o := .tup [a, .bl t]) nP
    refine ⟨P1, [a, .bl t], rfl, .inl (.inl upd_same), rfl, _, _, rfl, _, _, rfl, rfl, rfl, _, rfl, t, rfl, ?_⟩
    cases t with
    | false =>
      rw [if_neg Bool.false_ne_true] at e ⊢
      exact ⟨c1.s, c1.nw, c1.w, c1.f, by rw [e]; exact c1.d⟩
    | true =>
      rw [if_pos rfl] at e ⊢
      refine ⟨_, rfl, _, c1.d, kept4_short _ _, ?_⟩
      rw [← e]
      exact c1.put nw nf
end
end Ol
set_option Elab.async false
set_option linter.all false
set_option maxRecDepth 100000
set_option maxHeartbeats 8000000
namespace Ol
open PySem PySem.Spec PyProof.Rows L2 Oc
section
variable {P : Program} {w : World} {K : PySem.W.Frag} {mg : Str → Option Value} {base : Heap}
theorem pair_len (d : PyData) : (PyData.list [d, d]).shown.length ≤ 2 * d.shown.length + 10 := by
  simp only [PyData.shown, PyData.shownAll, listText]
  unfold textFrom
  unfold textFrom
  unfold textFrom
  simp only [Str.length_append]
  have e1 : (("[" : String) : Str).length = 1 := rfl
  have e2 : (("]" : String) : Str).length = 1 := rfl
  have e3 : ((", " : String) : Str).length = 2 := rfl
  have e4 : (("" : String) : Str).length = 0 := rfl
  simp [e1, e2, e3, e4]
  omega
structure PairOk (d : PyData) : Prop where
  sh : d.showable = true
  dp : d.depth ≤ 64
  ln : d.shown.length ≤ sizeLine
  sh2 : (PyData.list [d, d]).showable = true
  dp2 : (PyData.list [d, d]).depth ≤ 64
  ln2 : (PyData.list [d, d]).shown.length ≤ sizeLine
theorem pair_ok {d : PyData} (h : okD d = true) : PairOk d := by
  obtain ⟨h1, h2⟩ := Bool.and_eq_true_iff.mp h
  obtain ⟨h2, h3⟩ := Bool.and_eq_true_iff.mp h2
  have h2 := of_decide_eq_true h2
  have h3 := of_decide_eq_true h3
  have hl := pair_len d
  refine ⟨h1, by omega, by rw [sizeLine_eq]; omega, ?_, ?_, by rw [sizeLine_eq]; omega⟩
  · simp [PyData.showable, PyData.showableAll, h1]
  · simp only [PyData.depth, PyData.depthAll]
    omega
theorem callR3 (env : Env) : Room 3 (callerA.deeper env) := ⟨rfl, (by decide : callerA.depth + 1 + 3 * 3 + 5 < recursionLimit), (by decide : callerA.units + 3 + 16 * 3 + 200 < cLine)⟩
theorem callR2 (env : Env) : Room 2 (callerA.deeper env) := ⟨rfl, (by decide : callerA.depth + 1 + 3 * 2 + 5 < recursionLimit), (by decide : callerA.units + 3 + 16 * 2 + 200 < cLine)⟩
theorem callR1 (env : Env) : Room 1 (callerA.deeper env) := ⟨rfl, (by decide : callerA.depth + 1 + 3 * 1 + 5 < recursionLimit), (by decide : callerA.units + 3 + 16 * 1 + 200 < cLine)⟩
theorem callG (env : Env) : (callerA.deeper env).guards = some [] := rfl
theorem callU (env : Env) : (callerA.deeper env).units + 100 < cLine := (by decide : callerA.units + 3 + 100 < cLine)
theorem callU2 (env : Env) : (callerA.deeper env).units + 64 < cLine := (by decide : callerA.units + 3 + 64 < cLine)
theorem flags_one {i : Nat} {r : Row} (hi : rows[i]? = some r) : ((rows.map Row.name).map fun n => decide (r.name = n)).count true = 1 := by
  have h : rows.all (fun r => decide (((rows.map Row.name).map fun n => decide (r.name = n)).count true = 1)) = true := by decide +kernel
  exact of_decide_eq_true (List.all_eq_true.mp h r (List.mem_of_getElem? hi))
theorem flags_all (r : Row) : flagsOf r ((rows.map Row.name).take 31) = ((rows.map Row.name).map fun n => decide (r.name = n)).map V.bl := by
  rw [List.take_of_length_le (by decide +kernel), List.map_map]
  rfl
theorem word_eqv (b : Bs) : PyData.eqv (.list [.str b.word]) (.list [.str b.word]) = true := by
  cases b <;> rfl
theorem word_shaped (b : Bs) : SeqAt.shaped (.list [.str b.word]) = true := by
  simp only [SeqAt.shaped, PyData.canLay0, PyData.canLayAll0, PyData.depth, PyData.depthAll]
  cases b <;> kernel_rfl
theorem ExAt.but {H H' : Hp} {v : V} {C l : Addr} {fs : List (Str × V)} {ys : List V} (h : ExAt H v C fs) (hl : H l = some (.lst ys)) (b : ∀ c o, H c = some o → c ≠ l → H' c = some o) : ExAt H' v C fs := by
  obtain ⟨c, ec, hc⟩ := h
  have ext : ∀ {c : Addr} {f : Heap → Prop}, H c = some (.ext f) → c ≠ l := fun q => ne_of q hl (by intro z; cases z)
  refine ⟨c, ec, ?_⟩
  rcases hc with ⟨h1, h2⟩ | ⟨d, h1, h2⟩
  · exact .inl ⟨h1, b _ _ h2 (ext h2)⟩
  · exact .inr ⟨d, b _ _ h1 (ext h1), b _ _ h2 (ext h2)⟩
def ds1 : PyData := .list [.int 8, .int 4, .int 3, .int 5, .int 2, .int 3, .int 3]
def ds2 : PyData := .list [.int 16, .int 6, .int 200, .int 8, .int 4]
theorem shown1 : ds1.shown = ("[8, 4, 3, 5, 2, 3, 3]" : Str) := by kernel_rfl
theorem shown2 : ds2.shown = ("[16, 6, 200, 8, 4]" : Str) := by kernel_rfl
theorem TupE.same {x v : V} {H H' : Hp} (h : TupE K x H v) (s : Same H H') : TupE K x H' v := by
  obtain ⟨a, e, i, r, fs, ev, ha, hr, he⟩ := h
  exact ⟨a, e, i, r, fs, ev, s _ _ ha, hr, he.same s⟩
theorem iteN {A B : Prop} {c : Bool} (e : c = false) (h : B) : if c = true then A else B := by
  rw [e]
  exact iteF h
theorem sameV (x : V) : (!decide (x = x)) = false := by
  rw [decide_eq_true rfl]
  rfl
def spLaw (K : PySem.W.Frag) : Sp := fun vs H Q _ => ∃ (a : Addr) (ns : List Int), vs = [.ref a] ∧ SqL K H a (ns.map V.int) ∧ ns.length ≤ 63 ∧ ∀ H', Q (.bl true) H'
theorem sc_law : FnScope ["_law_script", "_law_pen_here", "_law_turn", "_law_thing", "_law_kept", "_law_every", "_law_error", "_law_titled", "_law_placed", "_law_sort", "_law_list_here", "_law_some"] ["_law_script"] (defScope s_law) := ⟨rfl, rfl, rfl, by decide +kernel, rfl, by decide +kernel, by decide +kernel⟩
/-- the slots in the loops -/
def Sl (p : Addr) (σ : L2.St) : Prop := ∃ a0 a2 a3 a4 a5 a6 a7 a8 a9 a10 a11, σ = [a0, some (.ref p), a2, a3, a4, a5, a6, a7, a8, a9, a10, a11]
theorem b_law {fd : FuncData} (F : FunD K d_law.name d_law.qual d_law.params d_law.body d_law.scope [] [] (He.ga K "law") fd) (s : Shared) (u : Value) : BindsTo s fd ⟨[u], []⟩ [("_law_script", u)] := by
  have b := FunD.bindsA (ps := ["_law_script"]) F fun _ _ _ _ _ _ us hl => match us, hl with | [_], _ => rfl
  exact b s [u] rfl
theorem ok_law (T : Tx K mg) {fd : FuncData} (F : FunD K d_law.name d_law.qual d_law.params d_law.body d_law.scope [] [] (He.ga K "law") fd) : LawOk P w K mg base (He.ga K "law") fd ["_law_script"] (spLaw K) := by
  have c_law_pen : Cal P w K mg base 1 "_law_pen" _ (spPen K) := c_pen T
  have c_law_any_value : Cal P w K mg base 3 "_law_any_value" _ (spAny K) := c_any T
  have c_law_some_errors : Cal P w K mg base 3 "_law_some_errors" _ (spFound K) := c_some T
  have c_law_other_errors : Cal P w K mg base 3 "_law_other_errors" _ (spFound K) := c_other T
  have c_law_sorts : Cal P w K mg base 1 "_law_sorts" _ (spSorts K) := c_sorts T
  have c_law_classes : Cal P w K mg base 1 "_law_classes" _ (spCls K) := c_cls T
  have hs := T.sys
  have sc := sc_law
  obtain ⟨t1, m1⟩ := i_MAX_WORD T
  obtain ⟨t2, m2⟩ := i_MAX_TABLES T
  obtain ⟨t3, m3⟩ := i_MAX_COLUMNS T
  obtain ⟨t4, m4⟩ := i_MAX_STATEMENTS T
  obtain ⟨t5, m5⟩ := i_MAX_LEAST T
  obtain ⟨t6, m6⟩ := i_MAX_MOST T
  obtain ⟨t7, m7⟩ := i_MAX_ENTRIES T
  obtain ⟨t8, m8⟩ := i_MAX_WANTED T
  obtain ⟨t9, m9⟩ := i_MAX_PAPER T
  obtain ⟨t10, m10⟩ := i_MAX_ANSWERS T
  obtain ⟨t11, m11⟩ := i_MAX_OPEN T
  obtain ⟨t12, m12⟩ := i_MAX_NAMES T
  refine law_of (d := d_law) F sc_law (fun vs H Q E h => ?_) fun cdv s H vs Q E h => ?_
  · obtain ⟨a, ns, rfl, _⟩ := h
    rfl
  · obtain ⟨a, ns, rfl, hS, hn, kk⟩ := h
    refine ⟨_, PSs.nox ((pss_cons (ps_set (i := 1) sc.nd rfl (Or.inl rfl) (pe_cal c_law_pen (by exact callR1 _) (pa_cons (pv 0) pa_nil)))
      (pss_cons (ps_for PassesOwn.never rfl (pi_range1 (by rfl) (f_range T) (pa_cons (pe_op op_add pe_int (pe_callB (call_min2 rfl) (by rfl) (f_min T) (by decide +kernel) (pa_cons pe_int (pa_cons (pe_callB call_len (by rfl) (f_len T) (by decide +kernel) (pa_cons (pv 0) pa_nil)) pa_nil)))) pa_nil)) (pg_name (i := 2) sc.nd rfl (Or.inl rfl)) (pss_cons (ps_set (i := 3) sc.nd rfl (Or.inl rfl) (pe_cal c_law_any_value (by exact callR3 _) (pa_cons (pv 1) pa_nil)))
      (pss_cons (ps_set (i := 4) sc.nd rfl (Or.inl rfl) (pe_callB (call_reprD (by exact callG _) (by exact callU _) hs) (by rfl) (f_repr T) (by decide +kernel) (pa_cons (pv 3) pa_nil)))
      (pss_cons (ps_set (i := 5) sc.nd rfl (Or.inl rfl) (pe_op op_cat (pe_cal c_law_some_errors (by exact callR3 _) (pa_cons (pv 3) pa_nil)) (pe_cal c_law_other_errors (by exact callR3 _) (pa_cons (pv 3) pa_nil))))
      (pss_one (ps_for PassesOwn.never rfl (pi_list (pv 5)) (pg_tup rfl (pgs_cons (pg_name (i := 6) sc.nd rfl (Or.inl rfl)) (pgs_cons (pg_name (i := 7) sc.nd rfl (Or.inl rfl)) (pgs_cons (pg_name (i := 8) sc.nd rfl (Or.inl rfl)) (pgs_cons (pg_name (i := 9) sc.nd rfl (Or.inl rfl)) pgs_nil))))) (pss_cons (ps_if (PW.pt (pw_or (pt_cmpR op_ne (pe_callB (call_reprD (by exact callG _) (by exact callU _) hs) (by rfl) (f_repr T) (by decide +kernel) (pa_cons (pe_lst (pa_cons (pv 7) (pa_cons (pv 8) pa_nil))) pa_nil)) (pe_callB (call_reprD (by exact callG _) (by exact callU _) hs) (by rfl) (f_repr T) (by decide +kernel) (pa_cons (pe_lst (pa_cons (pv 3) (pa_cons (pv 3) pa_nil))) pa_nil)) (nomark _)) (pw_or1 (pt_cmpR (op_neD (by exact callU2 _)) (pe_cal c_law_sorts (by exact callR1 _) (pa_cons (pv 6) pa_nil)) (pe_lst (pa_cons (pv 9) pa_nil)) (nomark _))))) (pss_one (ps_ret pe_bl)) pss_nil)
      (pss_one (ps_if (PW.pt (pw_or (pt_cmpR op_ne (pe_bm PySem.F.plainAttrs_list PySem.F.slot_list_count PySem.F.type_list_count mt_bcount (pe_cal c_law_classes (by exact callR1 _) (pa_cons (pv 6) pa_nil)) (pa_cons pe_bl pa_nil)) pe_int (nomark _)) (pw_or1 (pt_cmpR op_ne (pe_callB (call_reprD (by exact callG _) (by exact callU _) hs) (by rfl) (f_repr T) (by decide +kernel) (pa_cons (pv 3) pa_nil)) (pv 4) (nomark _))))) (pss_one (ps_ret pe_bl)) pss_nil)))))))))
      (pss_cons (ps_set (i := 10) sc.nd rfl (Or.inl rfl) (pe_lst (pa_cons pe_int pa_nil)))
      (pss_cons (ps_set (i := 6) sc.nd rfl (Or.inl rfl) (pe_ex1 (e_InvalidRow T) (by exact callR2 _) (pv 10)))
      (pss_cons (ps_expr (pe_bm PySem.F.plainAttrs_list PySem.F.slot_list_append PySem.F.type_list_append mt_append (pv 10) (pa_cons pe_int pa_nil)))
      (pss_cons (ps_if (pt_cmpR (op_neD (by exact callU2 _)) (pe_fldE (pv 6) rfl) (pe_lst (pa_cons pe_int (pa_cons pe_int pa_nil))) (nomark _)) (pss_one (ps_ret pe_bl)) pss_nil)
      (pss_cons (ps_set (i := 11) sc.nd rfl (Or.inl rfl) (pe_lst (pa_cons (pe_glob rfl m1 (v := .int 8) ⟨_, rfl⟩) (pa_cons (pe_glob rfl m2 (v := .int 4) ⟨_, rfl⟩) (pa_cons (pe_glob rfl m3 (v := .int 3) ⟨_, rfl⟩) (pa_cons (pe_glob rfl m4 (v := .int 5) ⟨_, rfl⟩) (pa_cons (pe_glob rfl m5 (v := .int 2) ⟨_, rfl⟩) (pa_cons (pe_glob rfl m6 (v := .int 3) ⟨_, rfl⟩) (pa_cons (pe_glob rfl m7 (v := .int 3) ⟨_, rfl⟩) pa_nil)))))))))
      (pss_cons (ps_if (pt_cmpR op_ne (pe_callB (call_reprD (by exact callG _) (by exact callU _) hs) (by rfl) (f_repr T) (by decide +kernel) (pa_cons (pv 11) pa_nil)) pe_str (nomark _)) (pss_one (ps_ret pe_bl)) pss_nil)
      (pss_one (ps_ret (pe_cmpR op_eq (pe_callB (call_reprD (by exact callG _) (by exact callU _) hs) (by rfl) (f_repr T) (by decide +kernel) (pa_cons (pe_lst (pa_cons (pe_glob rfl m8 (v := .int 16) ⟨_, rfl⟩) (pa_cons (pe_glob rfl m9 (v := .int 6) ⟨_, rfl⟩) (pa_cons (pe_glob rfl m10 (v := .int 200) ⟨_, rfl⟩) (pa_cons (pe_glob rfl m11 (v := .int 8) ⟨_, rfl⟩) (pa_cons (pe_glob rfl m12 (v := .int 4) ⟨_, rfl⟩) pa_nil)))))) pa_nil)) pe_str (nomark _))))))))))))), ?_⟩
    refine ⟨_, rfl, a, _, rfl, hS, fun p H1 hp s1 np => ?_⟩
    refine ⟨_, rfl, _, _, rfl, .inl ⟨_, s1.seq hS, rfl⟩, _, _, rfl, _, _, rfl, rfl, ?_⟩
    obtain ⟨j, ej, j0, j8⟩ : ∃ j : Int, (3 + (if (((ns.map V.int).length : Nat) : Int) < 5 then (((ns.map V.int).length : Nat) : Int) else 5)) = j ∧ 0 ≤ j ∧ j ≤ 8 := ⟨_, rfl, by split <;> omega, by split <;> omega⟩
    refine ⟨j, congrArg (fun z => [V.int z]) ej, by omega, by omega, ?_⟩
    refine for_it (walk_range (lo := 0) (n := j.toNat)) (fun i σ H' => Sl p σ ∧ PenAt H' p i) ⟨⟨_, _, _, _, _, _, _, _, _, _, _, rfl⟩, hp⟩ (fun _ _ _ _ _ => trivial) ?_ ?_
    · rintro i x σ H2 H3 hi ⟨⟨a0, a2, a3, a4, a5, a6, a7, a8, a9, a10, a11, rfl⟩, hp2⟩ ⟨rfl, rfl⟩
      refine ⟨_, rfl, p, i, rfl, hp2, by omega, fun v H4 av hp4 b4 => ?_⟩
      obtain ⟨d, hd, ok⟩ := av.dq
      have po := pair_ok ok
      refine ⟨_, rfl, v, d, rfl, hd, po.sh, po.dp, po.ln, ?_⟩
      refine ⟨_, rfl, v, rfl, fun l1 H5 k1 f1 b1 => ?_⟩
      refine ⟨_, rfl, v, rfl, fun l2 H6 k2 f2 b2 => ?_⟩
      obtain ⟨xs1, at1, len1, all1⟩ := f1.at_
      obtain ⟨xs2, at2, len2, all2⟩ := f2.at_
      refine ⟨_, _, _, _, rfl, rfl, f2.s _ _ at1, at2, line_ok (by omega), fun q nq => ?_⟩
      have s7 := Same.alloc (o := .lst (xs1 ++ xs2)) nq
      have all : ∀ u ∈ xs1 ++ xs2, TupE K v (upd H6 q (.lst (xs1 ++ xs2))) u := fun u hu => (List.mem_append.mp hu).elim (fun z => ((all1 u z).same f2.s).same s7) fun z => (all2 u z).same s7
      have s47 := (f1.s.trans f2.s).trans s7
      have hd7 := Dq.same s47 d v hd
      have hp7 := hp4.same s47
      refine ⟨_, rfl, q, rfl, ⟨_, .inl (.inl upd_same)⟩, ?_⟩
      refine for_it (walk_list (xs := xs1 ++ xs2)) (fun _ σ H' => (∃ a0 a2 a6 a7 a8 a9 a10 a11, σ = [a0, some (.ref p), a2, some v, some (.str d.shown), some (.ref q), a6, a7, a8, a9, a10, a11]) ∧ Same (upd H6 q (.lst (xs1 ++ xs2))) H') ⟨⟨_, _, _, _, _, _, _, _, rfl⟩, fun _ _ z => z⟩ (fun _ _ H' _ c => .inl (.inl (c.2 _ _ upd_same))) ?_ ?_
      · rintro j x σ H8 H9 hj ⟨⟨c0, c2, c6, c7, c8, c9, c10, c11, rfl⟩, s8⟩ ⟨rfl, hx⟩
        obtain ⟨ta, e, k, r, fs, rfl, ha, hr, hE⟩ := (all x (List.mem_of_getElem? hx)).same s8
        have hd8 := Dq.same s8 d v hd7
        refine ⟨ta, _, rfl, .inl (.inl ha), rfl, _, _, rfl, _, _, rfl, _, _, rfl, _, _, rfl, rfl, ?_⟩
        refine ⟨_, rfl, _, rfl, line_ok (Nat.le_of_ble_eq_true rfl), fun q1 n1 => ?_⟩
        have u1 := Same.alloc (o := .lst [v, v]) n1
        have g1 := Dq.same u1 d v hd8
        refine ⟨_, .list [d, d], rfl, .lst (.inl (.inl upd_same)) (.cons g1 (.cons g1 .nil)), po.sh2, po.dp2, po.ln2, ?_⟩
        refine ⟨_, rfl, _, rfl, line_ok (Nat.le_of_ble_eq_true rfl), fun q2 n2 => ?_⟩
        have u2 := Same.alloc (o := .lst [v, v]) n2
        have g2 := Dq.same u2 d v g1
        refine ⟨_, .list [d, d], rfl, .lst (.inl (.inl upd_same)) (.cons g2 (.cons g2 .nil)), po.sh2, po.dp2, po.ln2, ?_⟩
        refine ⟨rfl, _, rfl, iteN (sameV _) ?_⟩
        refine ⟨_, rfl, e, k, r, fs, rfl, hr, (hE.same u1).same u2, fun l3 H10 u3 at3 => ?_⟩
        refine ⟨_, rfl, line_ok (Nat.le_of_ble_eq_true rfl), fun q3 n3 => ?_⟩
        have u4 := Same.alloc (o := .lst [.str r.kind.word]) n3
        refine ⟨.list [.str r.kind.word], .list [.str r.kind.word], .lst (.inl (.inl (u4 _ _ at3))) (.cons (.str _) .nil), .lst (.inl (.inl upd_same)) (.cons (.str _) .nil), word_shaped _, word_shaped _, _, rfl, iteN (by rw [word_eqv]; rfl) ?_⟩
        have u5 := ((u1.trans u2).trans u3).trans u4
        refine ⟨_, rfl, e, k, r, fs, rfl, hr, hE.same u5, fun l4 H12 fl => ?_⟩
        refine ⟨.inl ⟨rfl, _, fl.sq⟩, l4, _, true, rfl, rfl, (flags_all r) ▸ fl.sq, ?_⟩
        refine ⟨rfl, _, rfl, iteN (by rw [flags_one hr]; rfl) ?_⟩
        have u6 := u5.trans fl.s
        refine ⟨_, rfl, v, d, rfl, Dq.same u6 d v hd8, po.sh, po.dp, po.ln, _, rfl, rfl, _, rfl, iteN (sameV _) ?_⟩
        exact ⟨⟨_, _, _, _, _, _, _, _, rfl⟩, s8.trans u6⟩
      · rintro σ H8 ⟨⟨c0, c2, c6, c7, c8, c9, c10, c11, rfl⟩, s8⟩
        exact ⟨⟨_, _, _, _, _, _, _, _, _, _, _, rfl⟩, hp7.same s8⟩
    · rintro σ H2 ⟨⟨a0, a2, a3, a4, a5, a6, a7, a8, a9, a10, a11, rfl⟩, hp2⟩
      refine ⟨line_ok (Nat.le_of_ble_eq_true rfl), fun q nq => ?_⟩
      refine ⟨_, rfl, ans1 (fun v H3 s3 e3 => ?_)⟩
      have hq := s3 _ _ (upd_same (H := H2) (a := q) (o := .lst [.int 1]))
      refine ⟨_, rfl, .inl ⟨rfl, _, .inl (.inl hq)⟩, q, _, _, rfl, rfl, hq, line_ok (Nat.le_of_ble_eq_true rfl), ?_⟩
      have e4 := ExAt.but (H' := upd H3 q (.lst ([.int 1] ++ [.int 2]))) e3 hq fun c o z n => by
        rw [upd_ne n]
        exact z
      refine ⟨_, rfl, _, _, _, _, _, e4, T.cls 2 (r := ⟨"InvalidRow", .v, ["value"]⟩), (n_InvalidRow_value T), lk1, ?_⟩
      refine ⟨line_ok (Nat.le_of_ble_eq_true rfl), fun q5 n5 => ?_⟩
      have u5 := Same.alloc (o := .lst [.int 1, .int 2]) n5
      refine ⟨.list [.int 1, .int 2], .list [.int 1, .int 2], .lst (.inl (.inl (u5 _ _ upd_same))) (.cons (.int _) (.cons (.int _) .nil)), .lst (.inl (.inl upd_same)) (.cons (.int _) (.cons (.int _) .nil)), by kernel_rfl, by kernel_rfl, _, rfl, iteN (by kernel_rfl) ?_⟩
      refine ⟨line_ok (Nat.le_of_ble_eq_true rfl), fun q6 n6 => ?_⟩
      refine ⟨_, rfl, _, ds1, rfl, .lst (.inl (.inl upd_same)) (.cons (.int _) (.cons (.int _) (.cons (.int _) (.cons (.int _) (.cons (.int _) (.cons (.int _) (.cons (.int _) .nil))))))), by kernel_rfl, by decide, by rw [shown1]; exact line_ok (Nat.le_of_ble_eq_true rfl), rfl, _, rfl, iteN (by rw [shown1]; exact sameV _) ?_⟩
      refine ⟨line_ok (Nat.le_of_ble_eq_true rfl), fun q7 n7 => ?_⟩
      refine ⟨_, ds2, rfl, .lst (.inl (.inl upd_same)) (.cons (.int _) (.cons (.int _) (.cons (.int _) (.cons (.int _) (.cons (.int _) .nil))))), by kernel_rfl, by decide, by rw [shown2]; exact line_ok (Nat.le_of_ble_eq_true rfl), rfl, ?_⟩
      rw [shown2, decide_eq_true rfl]
      exact kk _
end
end Ol
set_option Elab.async false
set_option linter.all false
set_option maxRecDepth 100000
set_option maxHeartbeats 0
open PySem PySem.W PySem.Calls PyProof.Rows
theorem PySem.Challenge.cw_onlylooks_k92_errors_and_limits_holds : PySem.Challenge.rw_onlylooks_k92_errors_and_limits.Holds := by
  w_on; o_law
  refine HandSHeadRun.head_any (r := OpenLaw.row PySem.Challenge.rw_onlylooks_k92_errors_and_limits) (q := view (OpenLaw.row PySem.Challenge.rw_onlylooks_k92_errors_and_limits).prog [53]) (H := Ol.hk) (ob := Ol.ob) (M := 60000) (loose := Ol.nms) (d := HandSHeadRun.topDef (OpenLaw.row PySem.Challenge.rw_onlylooks_k92_errors_and_limits).prog 53) (kwd := []) Ol.ob_eq
    (by kernel_rfl) (fun s => by kernel_rfl) Ol.run (by kernel_rfl) (by kernel_rfl) (by kernel_rfl) (by rfl) (by first | assumption | decide +kernel) (by decide +kernel) ⟨rfl, rfl, rfl, rfl, rfl, by decide +kernel⟩ ?hw ?hc
  case hw => w_witness2
  case hc =>
    refine Oc.walk_ofG (l := PySem.Challenge.rw_onlylooks_k92_errors_and_limits) (n := 63) (x := "_law_script") rfl (by decide) (by kernel_rfl) ?F
    intro w mg f h Y G hmg0
    obtain ⟨K, KX, c⟩ := Y
    have T : Ol.Tx K mg := ⟨⟨h, KX, G⟩, c⟩
    have hmg : mg ("law" : PySem.Str) = some (.ref f) := by
      have e : (HandSHeadRun.topDef (OpenLaw.row PySem.Challenge.rw_onlylooks_k92_errors_and_limits).prog 53).name = ("law" : PySem.Str) := by kernel_rfl
      rw [← e]
      exact hmg0
    have e := hmg.symm.trans (Ol.g_law T)
    cases e
    obtain ⟨fd, F⟩ := Ol.D_law T
    exact ⟨K, fd, Ol.spLaw K, KX, fun a o e => Ol.Tx.noL T a o e, Ol.b_law F, fun H a ns hl _ hS => ⟨a, ns, rfl, hS, hl, fun _ => rfl⟩, fun base _ _ => Ol.ok_law (base := base) T F⟩
