import PyProof.Rows.All
import Wide.All
import OpenK.AllK
import Wide.FinOn
import KE.KExcIs
import KE.KExcInit
import HandS.ForMost
import HandS.ExcInit
import HandS.ExcValue
import HandS.Defaults
import HandS.ExcIs
import HandS.IsInst
import HandS.MakeKw
import HandS.Head0
import HandS.Head1
import HandS.Head2
import HandS.HeadEnd
import HandS.HeadHook2
import HandS.HeadHook4
import HandS.RaiseMore
import HandS.Zip
import HandS.Walk
import PyProof.ReprRoads
import HandS.Codes
import HandS.Strs
import KE.SortData
import HandS.DictComp
import HandS.TupAny
import HandS.Flow
import HandS.WordsExc
import HandS.CallSlots
import HandS.Style
import HandS.Steps
import HandS.Iter
import HandS.Property
import HandS.Star
import HandS.OwnEq
import KE.KEqNest
import PyProof.InstNe
import HandS.ExcField
import HandS.TryMany
import HandS.ClsMeth
import HandS.HeadNt
import HandS.StrMore
import HandS.Lambda
import HandS.MakeKwOnly
import HandS.TryOnly
import PySem.Challenge.RW_onlylooks_k10_static_methods
set_option Elab.async false
set_option linter.all false
set_option maxRecDepth 100000
set_option maxHeartbeats 4000000
/-! Exceptions of the program's own as values, 1: made with keywords too, stored into, over any built-in base. -/
namespace Ox
open PySem PySem.W PySem.Calls PyProof.Rows PySem.HandSPX
section
variable {prog : Program} {w : World} {A : Around} {E : Value → Shared → Prop} {R : Result → Shared → Prop} {hp : Heap} {g : Array GenState} {dr : Drawn} {tk : Nat} {os : OsState}
variable {nm ql : Str} {C N fI : Addr} {bs bm : List Value} {hd : Bool} {sn : List Str} {su : List Value} {ab : Bool} {co : Option Bool} {od : Option Addr} {q0 q1 q2 q3 q5 : Option Value} {B nid iid : String} {ps : List Value} {kw : List (Str × Value)}
/-- the state behind __new__ -/
abbrev behindNew (hp : Heap) (C : Addr) (ps : List Value) : Heap := (hp.push (kdv_tup ps)).push (excO C hp.objs.size)
theorem behindNew_keeps {b : Addr} {o : Obj} (e : hp.get? b = some o) : (behindNew hp C ps).get? b = some o := Heap.get?_push_of_some _ (Heap.get?_push_of_some _ e)
theorem behindNew_at : (behindNew hp C ps).get? (hp.objs.size + 1) = some (excO C hp.objs.size) := by heap_get
/-- C(.., k = v) of an own class right below B, with an __init__ of its own: __new__ looks at the places alone, __init__ is handed both -/
theorem made_kw (F : ExcBaseFacts B nid iid bm) (cl : hp.get? C = some (excClassObj nm ql C N bs bm hd sn su ab co od q0 q1 q2 q3 q5 nid))
    (li : Looks (model prog w) hp (typeLookup (.ref C) "__init__") (some (.ref fI))) (lb : ∀ self, Looks (model prog w) hp (bindSpecial (.ref fI) self) (.ref fI, [self])) (hz : ps.length ≤ sizeLine)
    (run : codeAny (model prog w) (A.under (.builtin "type.__call__" ⟨.ref C :: ps, kw⟩)) (.call (.ref fI) ⟨.ref (hp.objs.size + 1) :: ps, kw⟩) (InitBack (hp.objs.size + 1) R) ⟨behindNew hp C ps, g, dr, tk, os⟩) :
    codeAny (model prog w) A (.call (.ref C) ⟨ps, kw⟩) R ⟨hp, g, dr, tk, os⟩ := by
  have ty : (⟨hp, g, dr, tk, os⟩ : Shared).TypeIs (.ref C) "type" := ⟨_, cl, rfl⟩
  have inB : (Value.ref C :: bm).contains (.type B) = true := by rw [List.contains_cons, F.hasB] <;> exact Bool.or_true _
  have inA : (Value.ref C :: bm).contains (.type "AttributeError") = false := by rw [List.contains_cons, F.noAttr] <;> rfl
  have inN : (Value.ref C :: bm).contains (.type "NameError") = false := by rw [List.contains_cons, F.noName] <;> rfl
  have l1 := tc_lookup
  have l2 := tc_bind (.ref C)
  refine codeAny_of_tree (show wpAny _ _ (callAny (.ref C) _) _ _ _ from ?_)
  repeat (any_goals (first
    | assumption
    | with_reducible refine wpAny_loadPart_at cl ?_
    | wp_step))
  refine ⟨rfl, codeAny_call_builtin_at (Code.quiet_builtin _ (by decide +kernel)) entry_typeCall (wpAny_check_type_call_sub cl ?_)⟩
  -- type.__call__: the class's __new__ is the base's
  repeat (first
    | with_reducible refine wpAny_loadPart_at cl ?_
    | with_reducible refine wpAny_madeBy_exc cl ?_
    | wp_step)
  have star := F.noStar
  have ends := F.ends
  refine codeAny_call_builtin_code (Code.quiet_builtin _ F.quiet) ?_
  simp only [checkBuiltinCall, F.newKind, F.newSplit, F.newRow]
  repeat (first
    | refine wpAny_loadPart_at cl ?_
    | (refine wpAny_isSubtype_exc cl ?_; rw [inB])
    | refine wpAny_staticBase_exc cl ?_
    | refine wpAny_madeBy_exc cl ?_
    | simp only [bne_self_eq_false, Bool.false_eq_true, if_false]
    | wp_step)
  refine codeAny_builtinAt F.entry ?_
  unfold Builtin.«BaseException.__new__»
  refine PySem.wpAt_bind (show PySem.wpAt _ _ _ (stack >>= _) _ _ _ from PySem.wpAt_bind (PySem.wpAt_stack fun _ _ => PySem.wpAt_of_wpAny ?_))
  wp_walk
  refine PySem.wpAt_of_wpAny ?_
  rw [F.owner]
  repeat (first
    | with_reducible refine wpAny_madeHere_exc F.canon cl ?_
    | with_reducible refine wpAny_loadPart_at cl ?_
    | (with_reducible refine wpAny_isSubtype_exc cl ?_; first | rw [inB] | rw [inA] | rw [inN])
    | wp_step)
  -- its object is of the class; __init__
  have keep : ∀ b o, hp.get? b = some o → (behindNew hp C ps).get? b = some o := fun b o => behindNew_keeps
  have cl2 := keep _ _ cl
  have me : (behindNew hp C ps).get? (hp.objs.size + 1) = some (excO C hp.objs.size) := behindNew_at
  have inC : (Value.ref C :: bm).contains (.ref C) = true := by simp
  show wpAny _ _ _ _ _ _
  rw [Heap.size_push]
  show wpAny _ _ _ _ _ (⟨behindNew hp C ps, g, dr, tk, os⟩ : Shared)
  show wpAny _ _ (isSubtype (.ref C) (.ref C)) _ _ _
  refine wpAny_isSubtype_exc cl2 ?_
  rw [inC]
  repeat (first
    | with_reducible refine wpAny_loadPart_at me ?_
    | wp_step)
  show wpAny _ _ (typeLookup (.ref C) _) _ _ _
  refine (li.keeps keep).at (wpAny_holding (wpAny_bind (((lb (.ref (hp.objs.size + 1))).keeps keep).at (wpAny_bind (wpAny_call (codeAny_mono run fun r s' z => ?_))))))
  cases r with
  | error e => exact z
  | ok f =>
    cases f with
    | ret v =>
      obtain ⟨rfl, z⟩ := z
      first
        | exact wpAny_pure (wpAny_pure z)
        | (wp_walk; exact z)
    | next => exact False.elim z
    | brk => exact False.elim z
    | cont => exact False.elim z
/-- e.f = v, e an exception without a dict as yet: a new dict is laid -/
theorem store_first {K : Frag} {x : Addr} {ox : Obj} {f : Str} {u : Tok} {v : Value} {bmB : List Value} {t : Addr} (SF : StoreFacts B bmB "object.__setattr__" "object") (X : K.In hp) (hx : hp.get? x = some (excObj C t none .none))
    (ov : excOver K C bmB = true) (no : takerIn K C f = some none) (hh : hasDictIn K C = true)
    (next : ∀ h' t' dx, (∀ b o, b ≠ x → hp.get? b = some o → h'.get? b = some o) → hp.objs.size ≤ dx → dx ≠ x → h'.get? x = some (excObj C t (some dx) .none) → h'.Ns1 dx (fun y => if y = f then some v else none) → R (.ok (.ret .none)) ⟨h', g, dr, t', os⟩) :
    codeAny (model prog w) A (.call (.builtin "object.__setattr__") ⟨[.ref x, .str f u, v], []⟩) R ⟨hp, g, dr, tk, os⟩ := by
  refine osa_openX (od := none) SF X ⟨hx, rfl, rfl, trivial⟩ ov no fun b => ?_
  obtain ⟨cd, hc, hd'⟩ := any_some hh
  have lt : x < hp.objs.size := Heap.lt_size hx
  refine wpAny_bind (wpAny_pure (wpAny_bind (instanceDict_exc hx (looks_clsIn X hc) hd' ?_)))
  show wpAny _ _ (Builtin.ObjectAttr.storeInDict hp.objs.size (.str f u) f v) _ _ _
  have new : ((hp.push (dictOf [] 0)).update x fun o => { o with dict := some hp.objs.size }).get? hp.objs.size = some (dictOf [] 0) := (Heap.get?_update_other _ _ (Nat.ne_of_lt lt)).trans (Heap.get?_push_size hp rfl)
  refine store_in_new ⟨_, #[], _, new, rfl, fun e he => absurd he (by simp), fun _ => rfl⟩ fun h' t' n' same => next h' t' hp.objs.size (fun b o nb ho => ?_) (Nat.le_refl _) (Nat.ne_of_gt lt) ?_ n'
  · have nd : b ≠ hp.objs.size := Nat.ne_of_lt (Heap.lt_size ho)
    exact (same.2 b nd).trans ((Heap.get?_update_other _ _ (Ne.symm nb)).trans (Heap.get?_push_of_some _ ho))
  · exact (same.2 x (Nat.ne_of_lt lt)).trans (Heap.get?_update_self _ (Heap.get?_push_of_some _ hx) rfl)
/-- e.f = v, e with its dict -/
theorem store_more {K : Frag} {x dx : Addr} {f : Str} {u : Tok} {v : Value} {bmB : List Value} {fs : Array Value} {m0 : Str → Option Value} {ns : List Str} (SF : StoreFacts B bmB "object.__setattr__" "object") (X : K.In hp) (hx : hp.get? x = some { cls := .ref C, dict := some dx, data := .fields fs })
    (hn : hp.Ns1 dx m0) (hw : Within m0 ns) (hz : ns.length ≤ 1000) (ov : excOver K C bmB = true) (no : takerIn K C f = some none) (hh : hasDictIn K C = true)
    (next : ∀ h' t', (∀ b o, b ≠ dx → hp.get? b = some o → h'.get? b = some o) → h'.Ns1 dx (fun y => if y = f then some v else m0 y) → R (.ok (.ret .none)) ⟨h', g, dr, t', os⟩) :
    codeAny (model prog w) A (.call (.builtin "object.__setattr__") ⟨[.ref x, .str f u, v], []⟩) R ⟨hp, g, dr, tk, os⟩ := by
  obtain ⟨oD, _, _, hoD, _, _⟩ := hn.count hw
  refine osa_openX (od := some oD) SF X ⟨hx, rfl, rfl, hoD⟩ ov no fun b => ?_
  obtain ⟨cd, hc, hd'⟩ := any_some hh
  refine wpAny_bind (wpAny_pure (wpAny_bind (wpAny_bind (wpAny_loadPart hx (wpAny_bind ((looks_clsIn X hc).here ?_))))))
  rw [hd']
  exact wpAny_pure (a := some dx) (OEX.store_in_old hn hw hz fun h' t' n' same => next h' t' (fun b o nb ho => (same.2 b nb).trans ho) n')
end
end Ox
set_option Elab.async false
set_option linter.all false
set_option maxRecDepth 100000
set_option maxHeartbeats 4000000
/-! Exceptions of the program's own as values, 2: over the layer. -/
namespace L2
open PySem PySem.Spec PyProof.Rows
/-- what the built-in base tells -/
structure ExBase (newId : String) (bm : List Value) : Prop where
  fac : ∃ B initId, ExcBaseFacts B newId initId bm ∧ StoreFacts B bm "object.__setattr__" "object"
/-- what the written part says of the class at C, right below that base -/
structure ExCl (K : PySem.W.Frag) (C : Addr) (newId : String) (bm : List Value) : Prop where
  base : ExBase newId bm
  cls : ∃ nm q N bs sn sub ab col dd k0 k1 k2 k3 k5, K.lookup C = some (excClassObj nm q C N bs bm true sn sub ab col dd k0 k1 k2 k3 k5 newId)
  sa : PySem.W.findIn K (.ref C) "__setattr__" = some (some (.builtin "object.__setattr__"))
  ov : PySem.W.excOver K C bm = true
  kC : PySem.W.keepIn K (.ref C) = true
  hg : PySem.W.findIn K (.ref C) "__getattribute__" = some (some (.builtin "BaseException.__getattribute__"))
  hk : PySem.W.findIn K (.ref C) "__getattr__" = some none
  hs : PySem.W.subIn K (.ref C) (.type "BaseException") = some true
  hd : PySem.W.hasDictIn K C = true
  ha : PySem.W.findIn K (.ref C) "__class__" = some (some (.builtin "object.__class__"))
  hn : PySem.W.specialIn K (.builtin "object.__class__") "__get__" = some (some (.builtin "getset_descriptor.__get__"))
  ht : PySem.W.takesIn K (.builtin "object.__class__") = some true
  hm : PySem.W.mroIn K C (.type "object") = some true
section
variable {X : Cx} {pins : List (Addr × Obj)} {σ : St} {H : Hp} {s : Shared} {a C dx : Addr} {f : Str} {y : V} {u : Value} {fs : List (Str × V)} {Q : Unit → Shared → Prop} {E : Value → Shared → Prop} {A : Around} {newId : String} {bm : List Value}
/-- the object at a has got its dict, at dx -/
theorem Inv.gotDict {h' : Heap} {t' : Nat} (I : Inv X pins σ H s) (e : H a = some (exo a C none)) (k : ∀ b o, b ≠ a → s.heap.get? b = some o → h'.get? b = some o) (dn : s.heap.objs.size ≤ dx)
    (x : ObjOk X.prog X.w (upd (upd H dx (exd dx fs)) a (exo a C (some dx))) h' a (exo a C (some dx))) (d : ObjOk X.prog X.w (upd (upd H dx (exd dx fs)) a (exo a C (some dx))) h' dx (exd dx fs)) :
    Inv X pins σ (upd (upd H dx (exd dx fs)) a (exo a C (some dx))) { s with heap := h', toks := t' } := by
  have nx : H dx = none := I.hok.fresh dn
  have old : ∀ {b : Addr} {o : Obj}, s.heap.get? b = some o → b ≠ dx := fun q => Nat.ne_of_lt (Nat.lt_of_lt_of_le (Heap.lt_size q) dn)
  have not_a : ∀ {b : Addr} {o : HO}, H b = some o → o ≠ exo a C none → b ≠ a := fun q d z => by
    rw [z, e] at q
    exact d (Option.some.inj q).symm
  have free_a : ∀ {b : Addr}, H b = none → b ≠ a := fun n z => by
    rw [z, e] at n
    cases n
  have stays : ∀ {b : Addr} {o : HO}, H b = some o → b ≠ a → upd (upd H dx (exd dx fs)) a (exo a C (some dx)) b = some o := fun q n => by
    rw [upd_ne n, upd_ne (ne_of_none q nx)]
    exact q
  refine I.un ⟨fun b o q n _ _ => k b o (free_a n) q, fun b o q n _ _ => ⟨o.slots, k b o (free_a n) q⟩, fun b o q n _ => ?_, fun b o q _ => ?_, fun b xs q => stays q (not_a q fun z => exo_tup z.symm), fun b o v q => stays q (not_a q fun z => exo_frz z.symm), fun b ps q => ⟨#[], by rw [stays q (not_a q fun z => exo_tbl z.symm)]; simp⟩⟩ fun b o q => ?_
  · rw [upd_ne (free_a n), upd_ne (old q)]
    exact n
  · by_cases z : b = a
    · rw [z]
      exact x.2.1
    · exact ⟨o, k b o z q⟩
  · by_cases za : b = a
    · rw [za, upd_same] at q
      cases q
      rw [za]
      exact x
    · rw [upd_ne za] at q
      by_cases zd : b = dx
      · rw [zd, upd_same] at q
        cases q
        rw [zd]
        exact d
      · rw [upd_ne zd] at q
        have own : ∀ {c : Addr}, H c = some (.own b) → c ≠ a := fun r => not_a r fun z => exo_own z.symm
        exact (I.hok b o q).stay (fun c v hc => k c v (hc.elim (fun z => by rw [z]; exact za) own)) (fun c r => stays r (own r)) fun c xs r => stays r (not_a r fun z => exo_tup z.symm)
theorem exo_get {P : Program} {w : World} {h : Heap} {a C : Addr} {d : Option Addr} (hok : HOk P w H h) (e : H a = some (exo a C d)) : ∃ t : Addr, h.get? a = some (PySem.W.excObj C t d .none) := exo_at hok e
/-- self.f = y, the first one -/
theorem ost_newB (T : ExCl X.K C newId bm) (I : Inv X pins σ H s) (e : H a = some (exo a C none)) (hno : PySem.W.findIn X.K (.ref C) f = some none) (ry : RelV y u)
    (h : ∀ dx s', H dx = none → dx ≠ a → Inv X pins σ (upd (upd H dx (exd dx [(f, y)])) a (exo a C (some dx))) s' → Q () s') : wpAny (model X.prog X.w) A (setAttr (.ref a) f u) Q E s := by
  obtain ⟨B, initId, _, SF⟩ := T.base.fac
  obtain ⟨t, ho⟩ := exo_get I.hok e
  obtain ⟨hp, g, dr, tk, os⟩ := s
  refine PySem.W.set_plain I.kIn (od := none) ⟨ho, rfl, rfl, trivial⟩ T.sa (Ox.store_first (ox := default) SF I.kIn ho T.ov (NoAttr.taker hno) T.hd fun h' t' dx k dn dne hx hn => h dx _ (I.hok.fresh dn) dne ?_)
  exact I.gotDict e k dn (exo_ok hx) (exd_ok hn (relO_put (fs := []) ry fun _ => True.intro))
/-- self.f = y, a further one -/
theorem ost_oldB (T : ExCl X.K C newId bm) (I : Inv X pins σ H s) (e : H a = some (exo a C (some dx))) (ed : H dx = some (exd dx fs)) (hl : fs.length ≤ 900) (hno : PySem.W.findIn X.K (.ref C) f = some none) (ry : RelV y u)
    (h : ∀ s', Inv X pins σ (upd H dx (exd dx ((f, y) :: fs))) s' → Q () s') : wpAny (model X.prog X.w) A (setAttr (.ref a) f u) Q E s := by
  obtain ⟨B, initId, _, SF⟩ := T.base.fac
  obtain ⟨t, ho⟩ := exo_get I.hok e
  obtain ⟨mA, hns, rel⟩ := exd_at I.hok ed
  have hw := within_of rel
  obtain ⟨hp, g, dr, tk, os⟩ := s
  obtain ⟨oD, _, _, hoD, _, _⟩ := hns.count hw
  refine PySem.W.set_plain I.kIn (od := some oD) ⟨ho, rfl, rfl, hoD⟩ T.sa (Ox.store_more SF I.kIn ho hns hw (by rw [List.length_map]; omega) T.ov (NoAttr.taker hno) T.hd fun h' t' k hn => h _ ?_)
  have there : ∃ o, h'.get? dx = some o := let ⟨o, _, _, z, _⟩ := hn; ⟨o, z⟩
  exact I.write (x := dx) (e := dx) (by rw [ed]; exact True.intro) (.inl rfl) k there (exd_ok hn (relO_put ry rel))
end
/-- self.f = e in such a class's __init__ -/
def tOstB (K : PySem.W.Frag) (f : Str) (to te : TE) : TS := fun D σ H => te σ H fun y H1 => to σ H1 fun x H2 => ∃ (a C : Addr) (newId : String) (bm : List Value), x = .ref a ∧ ExCl K C newId bm ∧ PySem.W.findIn K (.ref C) f = some none ∧
  ((H2 a = some (exo a C none) ∧ ∀ dx, H2 dx = none → dx ≠ a → D.nx σ (upd (upd H2 dx (exd dx [(f, y)])) a (exo a C (some dx)))) ∨
    ∃ (dx : Addr) (fs : List (Str × V)), H2 a = some (exo a C (some dx)) ∧ H2 dx = some (exd dx fs) ∧ fs.length ≤ 900 ∧ D.nx σ (upd H2 dx (exd dx ((f, y) :: fs))))
theorem ps_ostB {X : Cx} {o e : Expr} {to te : TE} {f : Str} {p' pos : Pos} (ho : PE X o to) (he : PE X e te) (hs : swapsWith e (some (.Attribute o f p')) pos.line X.env = pure false := by rfl) : PS X (.Assign [.Attribute o f p'] e pos) (tOstB X.K f to te) := by
  refine ⟨fun pins s σ H D I h => plainObj_wpAny_Assign_Attribute (thn (he.run pins s σ H _ I h) fun v s1 ⟨y, H1, I1, r1, q1⟩ => thn (ho.run pins s1 σ H1 _ I1 q1) fun u s2 ⟨x, H2, I2, r2, q2⟩ => ?_) hs⟩
  obtain ⟨a, C, nid, bm, ex, T, hno, q⟩ := q2
  subst ex
  cases (show u = Value.ref a from r2)
  rcases q with ⟨ea, q⟩ | ⟨dx, fs, ea, ed, hl, q⟩
  · exact ost_newB T I2 ea hno r1 fun dx s' n ne J => ⟨σ, _, J, q dx n ne⟩
  · exact ost_oldB T I2 ea ed hl hno r1 fun s' J => ⟨σ, _, J, q⟩
end L2
set_option Elab.async false
set_option linter.all false
set_option maxRecDepth 100000
set_option maxHeartbeats 4000000
namespace L2
open PySem PySem.Spec PyProof.Rows
/-! ### C(..), C an own exception class with its own __init__, as a value -/
def tMkE (C : Addr) (n m : Nat) (sp : Sp) (gV : List V → List V → List V) (t tk : TA) : TE := fun σ H Q => t σ H fun vs H1 => tk σ H1 fun zs H2 => vs.length = n ∧ zs.length = m ∧ ∀ a, H2 a = none →
  sp (gV (.ref a :: vs) zs) (upd H2 a (exo a C none)) (fun v H3 => v = .non ∧ Q (.ref a) H3) (fun _ _ _ => False)
section
variable {X : Cx} {CX : CXT} {k n : Nat} {fI C : Addr} {fd : FuncData} {ps ks : List Str} {sp : Sp} {x : Str} {p pos : Pos} {e : Expr} {es : List Expr} {kws : List Keyword} {t tk : TA} {g : List Value → List Value → List Value} {gV : List V → List V → List V} {newId : String} {bm : List Value}
theorem run_mkE {pins : List (Addr × Obj)} {σ : St} {H : Hp} {s : Shared} {Q : VK} {us ws : List Value} {vs zs : List V} (T : ExCl X.K C newId bm) (iC : PySem.W.findIn X.K (.ref C) "__init__" = some (some (.ref fI))) (tI : PySem.W.typeIn X.K (.ref fI) = some (.type "function"))
    (F : FnOk X.prog X.w X.K X.mg X.base CX k fI fd ps sp) (hr : Room (k + 1) X.A) (hb : KBn X.K fd ps (n + 1) ks g gV) (hx : Passes CX X (fun _ _ _ => False))
    (I : Inv X pins σ H s) (r : Vals vs us) (rz : Vals zs ws) (l1 : vs.length = n) (l2 : zs.length = ks.length) (hn : n ≤ 1000)
    (h : ∀ a, H a = none → sp (gV (.ref a :: vs) zs) (upd H a (exo a C none)) (fun v H2 => v = .non ∧ Q (.ref a) H2) (fun _ _ _ => False)) :
    wpAny (model X.prog X.w) X.A (call (.ref C) us (ks.zip ws)) (EP X pins σ Q) X.xe s := by
  obtain ⟨nm, q, N, bs, sn, sub, ab, col, dd, k0, k1, k2, k3, k5, hC⟩ := T.cls
  obtain ⟨B, initId, Fb, _⟩ := T.base.fac
  obtain ⟨hp, g', dr, tk', os⟩ := s
  have hsz : hp.objs.size ≤ hp.objs.size + 1 := Nat.le_succ _
  have hnn : H (hp.objs.size + 1) = none := I.hok.fresh hsz
  have hq := h (hp.objs.size + 1) hnn
  have kk : ∀ b o, hp.get? b = some o → ((hp.push (PySem.W.kdv_tup us)).push (PySem.HandSPX.excO C hp.objs.size)).get? b = some o := fun b o e => Heap.get?_push_of_some _ (Heap.get?_push_of_some _ e)
  have hget : ((hp.push (PySem.W.kdv_tup us)).push (PySem.HandSPX.excO C hp.objs.size)).get? (hp.objs.size + 1) = some (PySem.HandSPX.excO C hp.objs.size) := by heap_get
  have I2 : Inv X pins σ (upd H (hp.objs.size + 1) (exo (hp.objs.size + 1) C none)) ⟨(hp.push (PySem.W.kdv_tup us)).push (PySem.HandSPX.excO C hp.objs.size), g', dr, tk', os⟩ :=
    I.laid (t' := tk') (a := hp.objs.size + 1) (o := exo (hp.objs.size + 1) C none) (h' := (hp.push (PySem.W.kdv_tup us)).push (PySem.HandSPX.excO C hp.objs.size)) kk hsz (exo_ok hget)
  have r1 : Vals (V.ref (hp.objs.size + 1) :: vs) (Value.ref (hp.objs.size + 1) :: us) := .cons rfl r
  have r2 := hb.rel r1 rz
  have e1 : (Value.ref (hp.objs.size + 1) :: us).length = n + 1 := r1.length.symm.trans (congrArg Nat.succ l1)
  have e2 : ws.length = ks.length := rz.length.symm.trans l2
  have hus : us.length ≤ sizeLine := by
    rw [← Paired.length r, l1, sizeLine_eq]
    omega
  refine wpAny_call (Ox.made_kw Fb (I.kIn _ _ hC) (PySem.W.looks_findIn I.kIn iC) (fun self => PySem.W.bind_fn I.kIn self tI) hus
    (codeAny_mono (F.run _ X.stack _ _ ⟨Value.ref (hp.objs.size + 1) :: us, ks.zip ws⟩ (g (Value.ref (hp.objs.size + 1) :: us) ws) _ _ (fun _ _ _ => False) (hr.make C us (ks.zip ws)) (I2.env0.make C us (ks.zip ws)) (hb.to _ (Value.ref (hp.objs.size + 1) :: us) ws I2.kIn e1 e2) r2 hq) fun r s' hq' => ?_))
  cases r with
  | error e => exact hx pins σ _ _ e s' I2 hq'
  | ok fl =>
    cases fl with
    | ret u =>
      obtain ⟨v, H', I3, rv, ev, q3⟩ := I2.after hq'
      subst ev
      exact ⟨rv, ⟨V.ref (hp.objs.size + 1), H', I3, rfl, q3⟩⟩
    | next => exact False.elim hq'
    | brk => exact False.elim hq'
    | cont => exact False.elim hq'
/-- every parameter is given by its place -/
theorem Binds.kbn {K : PySem.W.Frag} {m : Nat} (h : Binds K fd ps []) (hm : ps.length = m) : KBn K fd ps m [] (fun us _ => us) (fun vs _ => vs) :=
  ⟨fun s us ws X l1 l2 => by
    have z := h s us X (by rw [List.append_nil, l1, hm])
    rw [List.append_nil] at z
    exact z, fun r _ => r⟩
/-- C(e, ..) -/
theorem pe_mkE (T : ExCl X.K C newId bm) (iC : PySem.W.findIn X.K (.ref C) "__init__" = some (some (.ref fI))) (tI : PySem.W.typeIn X.K (.ref fI) = some (.type "function"))
    (F : FnOk X.prog X.w X.K X.mg X.base CX k fI fd ps sp) (hr : Room (k + 1) X.A) (hg : Gl X x) (hm : X.mg x = some (.ref C)) (hb : Binds X.K fd ps []) (hx : Passes CX X (fun _ _ _ => False)) (ha : PA X (e :: es) t) (hl : ps.length = n + 1 := by rfl) (hn : n ≤ 1000 := by decide)
    (hdb : (x == ("__debug__" : Str)) = false := by decide) (he : starEach (e :: es) X.env = (false, eval e X.env) :: starEach es X.env := by rfl) (hpl : (backTo pos (starEach es X.env)).any (·.1) = false := by rfl) :
    PE X (.Call (.Name x p) (e :: es) [] pos) (tMkE C n 0 sp (fun vs _ => vs) t tNil) := by
  refine ⟨fun pins s σ H Q I h => ?_⟩
  refine wpAny_Call_Name_kw (ld_glob I hg hm ?_ hdb)
  refine PySem.W.callWith_K (h₀ := X.base) I.ok.mod.kin T.kC (thn (ha.run pos pins s σ H _ I h) fun us s1 ⟨vs, H1, I1, r, q⟩ => ⟨I1.kIn, ?_⟩) he hpl
  obtain ⟨l1, _, q2⟩ := q
  exact run_mkE (ks := []) (ws := []) (zs := []) T iC tI F hr (hb.kbn hl) hx I1 r .nil l1 rfl hn q2
/-- C(k = v, ..) -/
theorem pe_mkEK (T : ExCl X.K C newId bm) (iC : PySem.W.findIn X.K (.ref C) "__init__" = some (some (.ref fI))) (tI : PySem.W.typeIn X.K (.ref fI) = some (.type "function"))
    (F : FnOk X.prog X.w X.K X.mg X.base CX k fI fd ps sp) (hr : Room (k + 1) X.A) (hg : Gl X x) (hm : X.mg x = some (.ref C)) (hb : KBn X.K fd ps 1 ks g gV) (hx : Passes CX X (fun _ _ _ => False)) (hkw : PK X kws tk)
    (hall : (backToKw pos (keywordEach kws X.env)).all (·.1.isSome) = true := by rfl) (hks : (backToKw pos (keywordEach kws X.env)).filterMap (·.1) = ks := by rfl) (hdb : (x == ("__debug__" : Str)) = false := by decide)
    (hpl : ((backTo pos (starEach [] X.env)).any (·.1) || (backToKw pos (keywordEach kws X.env)).any (·.1.isNone)) = false := by rfl) :
    PE X (.Call (.Name x p) [] kws pos) (tMkE C 0 ks.length sp gV tNil tk) := by
  refine ⟨fun pins s σ H Q I h => ?_⟩
  refine wpAny_Call_Name_kw (ld_glob I hg hm ?_ hdb)
  refine PySem.W.callWith_KW0 (h₀ := X.base) I.ok.mod.kin T.kC hall ?_ hpl
  refine thn (hkw.run pos pins s σ H _ I h) fun ws s2 ⟨zs, H2, I2, rz, l1, l2, q2⟩ => ⟨I2.kIn, ?_⟩
  rw [hks]
  exact run_mkE (us := []) (vs := []) T iC tI F hr hb hx I2 .nil rz rfl l2 (by decide) q2
/-- C(), a class without an __init__ of its own -/
theorem pe_mkE0 {B initId : String} (Fb : ExcBaseFacts B newId initId bm) (q : PySem.W.excIn X.K C bm newId = true) (T : PySem.W.keepIn X.K (.ref C) = true) (hg : Gl X x) (hm : X.mg x = some (.ref C)) (hdb : (x == ("__debug__" : Str)) = false := by decide) :
    PE X (.Call (.Name x p) [] [] pos) (fun _ H Q => ∀ a, H a = none → Q (.ref a) (upd H a (exo a C none))) := by
  refine ⟨fun pins s σ H Q I h => ?_⟩
  refine wpAny_Call_Name_kw (ld_glob I hg hm ?_ hdb)
  refine PySem.W.callWith_K0 I.kIn T ?_
  obtain ⟨bm', N, nm, qn, bs, hdct, sn, sub, ab, col, dd, k0, k1, k2, k3, k5, mN, hC, hN, hni, Tt⟩ := exc_obj I.kIn q
  show wpAny _ _ (call (.ref C) []) _ _ _
  refine wpAny_call_exc_subT Fb Tt hC hN hni (fun h' a hm => ?_) (by show 0 ≤ sizeLine; exact Nat.zero_le _)
  have hn : H a = none := I.hok.gone hm.new
  obtain ⟨t, ht, _, _⟩ := hm.there
  exact ⟨.ref a, upd H a (exo a C none), I.laidN hm.keeps hm.new hn (exo_ok ht), rfl, h a hn⟩
end
/-! ### such an object read -/
/-- at a an exception of the class at C with these fields, the last one first -/
def ExAt (H : Hp) (v : V) (C : Addr) (fs : List (Str × V)) : Prop := ∃ a, v = .ref a ∧ ((fs = [] ∧ H a = some (exo a C none)) ∨ ∃ d, H a = some (exo a C (some d)) ∧ H d = some (exd d fs))
theorem ExAt.same {H H' : Hp} {v : V} {C : Addr} {fs : List (Str × V)} (h : ExAt H v C fs) (s : Same H H') : ExAt H' v C fs := by
  obtain ⟨a, e, h⟩ := h
  rcases h with ⟨h1, h2⟩ | ⟨d, h1, h2⟩
  · exact ⟨a, e, .inl ⟨h1, s _ _ h2⟩⟩
  · exact ⟨a, e, .inr ⟨d, s _ _ h1, s _ _ h2⟩⟩
section
variable {X : Cx} {C : Addr} {newId : String} {bm : List Value}
/-- e.f -/
def tFldE (K : PySem.W.Frag) (f : Str) (te : TE) : TE := fun σ H Q => te σ H fun x H1 => ∃ (C : Addr) (newId : String) (bm : List Value) (fs : List (Str × V)) (v : V), ExAt H1 x C fs ∧ ExCl K C newId bm ∧ PySem.W.findIn K (.ref C) f = some none ∧ fs.lookup f = some v ∧ Q v H1
theorem pe_fldE {e : Expr} {te : TE} {f : Str} {pos : Pos} (he : PE X e te) (hb : attributeBase e f X.env (eval e X.env) = eval e X.env := by rfl) : PE X (.Attribute e f pos) (tFldE X.K f te) := by
  refine ⟨fun pins s σ H Q I h => ?_⟩
  refine attr_of hb (thn (he.run pins s σ H _ I h) fun u s1 hh => ?_)
  obtain ⟨x, H1, I1, rx, C, nid, bm, fs, v, ha, T, hno, l, q⟩ := hh
  obtain ⟨a, ex, ha⟩ := ha
  subst ex
  obtain rfl : u = Value.ref a := rx
  rcases ha with ⟨h1, _⟩ | ⟨d, h1, h2⟩
  · subst h1
    cases l
  · obtain ⟨t1, ho⟩ := exo_at I1.hok h1
    obtain ⟨mA, hns, hr⟩ := exd_at I1.hok h2
    obtain ⟨od, hod, hl⟩ := lookIn_ns hns
    obtain ⟨u, hu, ru⟩ := RelO.some_of (v := v) (o := mA f) (by rw [← l]; exact hr f)
    have J : PySem.W.InstAt s1.heap a _ C (some od) := ⟨ho, rfl, rfl, hod⟩
    exact PySem.HandSPX.exc_get I1.kIn J T.hg T.hk T.hs (PySem.W.findObj_own T.hd hno rfl (by rw [hl, hu])) (handed_of ru) ⟨v, H1, I1.tok _, ru, q⟩
/-- isinstance(e, c) -/
def rIsE2 (K : PySem.W.Frag) : List V → Hp → VK → Prop := fun xs H Q => ∃ (x c : V) (cv : Value) (C : Addr) (newId : String) (bm : List Value) (fs : List (Str × V)) (b : Bool), xs = [x, c] ∧ ClsV c cv ∧ ExAt H x C fs ∧ ExCl K C newId bm ∧ PySem.W.kitOne K (.ref C) cv = some b ∧ Q (.bl b) H
def rIsET (K : PySem.W.Frag) : List V → Hp → VK → Prop := fun xs H Q => ∃ (x : V) (tp : Addr) (cs : List V) (us : List Value) (C : Addr) (newId : String) (bm : List Value) (fs : List (Str × V)) (b : Bool), xs = [x, .ref tp] ∧ H tp = some (.tup cs) ∧ Paired ClsV cs us ∧ ExAt H x C fs ∧ ExCl K C newId bm ∧ PySem.W.kitAny K (.ref C) us = some b ∧ Q (.bl b) H
theorem ExCl.kit {K : PySem.W.Frag} {x : Addr} {ox : Obj} {od : Option Obj} (T : ExCl K C newId bm) : PySem.W.KitX K (.ref x) (.ref C) (fun h => PySem.W.InstAt h x ox C od) := by
  obtain ⟨cd, hcl, _⟩ := PySem.W.any_some T.hd
  exact PySem.W.kitx_exc (by rw [hcl] <;> rfl) T.hg T.hk T.hs T.ha T.hn T.ht T.hm
theorem ExAt.inst {pins : List (Addr × Obj)} {σ : St} {H : Hp} {s : Shared} {x : V} {u : Value} {fs : List (Str × V)} (I : Inv X pins σ H s) (h : ExAt H x C fs) (r : RelV x u) : ∃ a ox od, u = .ref a ∧ PySem.W.InstAt s.heap a ox C od := by
  obtain ⟨a, ex, h⟩ := h
  subst ex
  obtain rfl : u = Value.ref a := r
  rcases h with ⟨_, h1⟩ | ⟨d, h1, h2⟩
  · obtain ⟨t1, ho⟩ := exo_at I.hok h1
    exact ⟨a, _, none, rfl, ho, rfl, rfl, trivial⟩
  · obtain ⟨t1, ho⟩ := exo_at I.hok h1
    obtain ⟨mA, hns, hr⟩ := exd_at I.hok h2
    obtain ⟨od, hod, hl⟩ := lookIn_ns hns
    exact ⟨a, _, some od, rfl, ho, rfl, rfl, hod⟩
theorem call_isE2 : CallR X (.builtin "isinstance") (rIsE2 X.K) := by
  intro pins s σ H xs us Q I r h
  obtain ⟨x, c, cv, C, nid, bm, fs, b, rfl, k, ha, T, e, q⟩ := h
  obtain ⟨u1, u2, rfl, r1, r2⟩ := vals2 r
  have e2 := k.eq r2
  subst e2
  obtain ⟨a, ox, od, rfl, J⟩ := ha.inst I r1
  exact PySem.W.kia_one T.kit I.kIn J e (fun z => nomatch z) fun tk => ⟨.bl b, H, I.tok tk, rfl, q⟩
theorem call_isET : CallR X (.builtin "isinstance") (rIsET X.K) := by
  intro pins s σ H xs us Q I r h
  obtain ⟨x, tp, cs, ws, C, nid, bm, fs, b, rfl, hT, k, ha, T, e, q⟩ := h
  obtain ⟨u1, u2, rfl, r1, r2⟩ := vals2 r
  cases (show u2 = Value.ref tp from r2)
  obtain ⟨a, ox, od, rfl, J⟩ := ha.inst I r1
  obtain ⟨_, its, rv, o, h1, h2, n, h3⟩ := (show ObjOk X.prog X.w H s.heap tp (.tup cs) from I.hok tp _ hT)
  have e3 := ClsV.all k rv
  subst e3
  obtain ⟨oc, od', dt, sl⟩ := o
  simp only at h2 h3
  subst h2 h3
  exact PySem.W.kia_tup T.kit I.kIn J h1 e (fun z => nomatch z) fun tk => ⟨.bl b, H, I.tok tk, rfl, q⟩
end
end L2
set_option Elab.async false
set_option linter.all false
set_option maxRecDepth 100000
set_option maxHeartbeats 4000000
namespace Oh
open PySem PySem.Spec PyProof.Rows L2
/-! ### the head's facts: the defs, and one Bool of the written part -/
def frag (n : Nat) (g : Addr → Option Obj) : PySem.W.Frag := He.frG g (cStatics :: sysModules :: He.asD g n)
structure Says (fa : List He.Fa) (fn : List He.DefD) (ex : PySem.W.Frag → Bool) (K : PySem.W.Frag) : Prop where
  d : He.SaysD fa fn K
  more : ex K = true
def obsO (n : Nat) (fa : List He.Fa) (fn : List He.DefD) (ex : PySem.W.Frag → Bool) (g : Addr → Option Obj) : He.AlD × Bool := (He.obsD fa fn (frag n g), ex (frag n g))
def hookO (n : Nat) (fa : List He.Fa) (fn : List He.DefD) (ex : PySem.W.Frag → Bool) : PySem.W.Hook where
  α := He.AlD × Bool
  obs s := obsO n fa fn ex s.heap.get?
  val _ := (He.valD fn, true)
  says _ h := ∃ K : PySem.W.Frag, K.In h ∧ Says fa fn ex K
  of _ s e := ⟨frag n s.heap.get?, He.frG_in, congrArg (fun z : He.AlD × Bool => z.1) e, congrArg (fun z : He.AlD × Bool => z.2) e⟩
  keeps _ _ _ h k := by
    obtain ⟨K, hK, c⟩ := h
    exact ⟨K, PySem.W.Frag.In.keeps hK k, c⟩
theorem obsO_eq {n : Nat} {fa : List He.Fa} {fn : List He.DefD} {ex : PySem.W.Frag → Bool} {g : Addr → Option Obj} {s : Shared} (h : ∀ a, g a = s.heap.get? a) : obsO n fa fn ex g = (hookO n fa fn ex).obs s := by
  have e := funext h
  subst e
  rfl
/-! ### an own exception class, read off the written part -/
def exB (K : PySem.W.Frag) (C : Addr) (newId : String) (bm : List Value) : Bool := match K.lookup C with
  | some ⟨.type ty, _, .cls cd, sl⟩ => (match cd.mro, sl.toList with
    | .ref D :: r, [_, _, _, _, some (.builtin n), _] => decide (ty = "type") && (decide (D = C) && (decide (r = bm) && (decide (n = newId) && (!cd.hasDel && cd.hasDict))))
    | _, _ => false)
  | _ => false
theorem exB_ok {K : PySem.W.Frag} {C : Addr} {newId : String} {bm : List Value} (h : exB K C newId bm = true) :
    ∃ nm q N bs sn sub ab col dd k0 k1 k2 k3 k5, K.lookup C = some (excClassObj nm q C N bs bm true sn sub ab col dd k0 k1 k2 k3 k5 newId) := by
  unfold exB at h
  split at h
  · rename_i ty dd cd sl ho
    split at h
    · rename_i D r k0 k1 k2 k3 n k5 hm hs
      simp only [Bool.and_eq_true, decide_eq_true_eq, Bool.not_eq_true'] at h
      obtain ⟨rfl, rfl, rfl, rfl, h5, h6⟩ := h
      obtain ⟨nm, bs, mro, ns, qn, hd, sn, sub, ab, col, del⟩ := cd
      dsimp only at hm h5 h6
      subst hm h5 h6
      have e : sl = #[k0, k1, k2, k3, some (.builtin n), k5] := by
        rw [← Array.toArray_toList (xs := sl), hs]
      subst e
      exact ⟨nm, qn, ns, bs, sn, sub, ab, col, dd, k0, k1, k2, k3, k5, ho⟩
    · cases h
  · cases h
def exAll (K : PySem.W.Frag) (C : Addr) (newId : String) (bm : List Value) : Bool :=
  exB K C newId bm && (He.eqO (PySem.W.findIn K (.ref C) "__setattr__") (some (some (.builtin "object.__setattr__"))) && (PySem.W.excOver K C bm && (PySem.W.keepIn K (.ref C)
    && (He.eqO (PySem.W.findIn K (.ref C) "__getattribute__") (some (some (.builtin "BaseException.__getattribute__"))) && (He.eqO (PySem.W.findIn K (.ref C) "__getattr__") (some none)
    && (decide (PySem.W.subIn K (.ref C) (.type "BaseException") = some true) && (PySem.W.hasDictIn K C && (He.eqO (PySem.W.findIn K (.ref C) "__class__") (some (some (.builtin "object.__class__")))
    && (He.eqO (PySem.W.specialIn K (.builtin "object.__class__") "__get__") (some (some (.builtin "getset_descriptor.__get__"))) && (decide (PySem.W.takesIn K (.builtin "object.__class__") = some true)
    && decide (PySem.W.mroIn K C (.type "object") = some true)))))))))))
theorem exAll_ok {K : PySem.W.Frag} {C : Addr} {newId : String} {bm : List Value} (b : ExBase newId bm) (h : exAll K C newId bm = true) : ExCl K C newId bm := by
  unfold exAll at h
  simp only [Bool.and_eq_true, decide_eq_true_eq] at h
  obtain ⟨h0, h1, hv, h2, h3, h4, h5, h6, h7, h8, h9, h10⟩ := h
  exact ⟨b, exB_ok h0, He.eqO_ok h1, hv, h2, He.eqO_ok h3, He.eqO_ok h4, h5, h6, He.eqO_ok h7, He.eqO_ok h8, h9, h10⟩
/-- the class x has a def of its own for __init__, and no name f -/
def iniB (K : PySem.W.Frag) (x : Str) : Bool := He.eqO (PySem.W.findIn K (.ref (He.ga K x)) "__init__") (some (some (.ref (He.ma K (He.ga K x) "__init__")))) && decide (PySem.W.typeIn K (.ref (He.ma K (He.ga K x) "__init__")) = some (.type "function"))
def noB (K : PySem.W.Frag) (C : Addr) (f : Str) : Bool := He.eqO (PySem.W.findIn K (.ref C) f) (some none)
end Oh
set_option Elab.async false
set_option linter.all false
set_option maxRecDepth 100000
set_option maxHeartbeats 4000000
namespace Oc
open PySem PySem.Spec PyProof.Rows L2
/-! ### a def that may be called by its name: it keeps its promise, it is bound by its places -/
structure Cal (P : Program) (w : World) (K : PySem.W.Frag) (mg : Str → Option Value) (base : Heap) (k : Nat) (x : Str) (ps : List Str) (sp : Sp) : Prop where
  ex : ∃ (f : Addr) (fd : FuncData), FnOk P w K mg base CX0 k f fd ps sp ∧ Binds K fd ps [] ∧ PySem.W.keepIn K (.ref f) = true ∧ mg x = some (.ref f)
theorem pe_cal {X : Cx} {k : Nat} {ps : List Str} {sp : Sp} {x : Str} {p pos : Pos} {e : Expr} {es : List Expr} {t : TA} (C : Cal X.prog X.w X.K X.mg X.base k x ps sp) (hr : Room k X.A) (ha : PA X (e :: es) t) (hg : Gl X x := by rfl)
    (hdb : (x == ("__debug__" : Str)) = false := by decide) (he : starEach (e :: es) X.env = (false, eval e X.env) :: starEach es X.env := by rfl) (hpl : (backTo pos (starEach es X.env)).any (·.1) = false := by rfl) :
    PE X (.Call (.Name x p) (e :: es) [] pos) (tCall sp [] E0 t) := by
  obtain ⟨f, fd, F, b, kp, hm⟩ := C.ex
  exact pe_call F hr hg hm kp b .nil pass0 ha hdb he hpl
theorem Cal.mk_of {P : Program} {w : World} {K : PySem.W.Frag} {mg : Str → Option Value} {base : Heap} {k : Nat} {x : Str} {ps : List Str} {sp : Sp} {d : He.DefD} {fd : FuncData}
    (F : FunD K d.name d.qual d.params d.body d.scope [] [] (He.fAd K d.at_) fd) (ok : FnOk P w K mg base CX0 k (He.fAd K d.at_) fd ps sp) (b : Binds K fd ps []) (g : mg x = some (.ref (He.fAd K d.at_))) : Cal P w K mg base k x ps sp :=
  ⟨_, fd, ok, b, F.kp, g⟩
/-! ### data at any depth: none, bools, ints, texts, lists, tuples, dicts -/
def kD : Key → PyData
  | .inl i => .int i
  | .inr x => .str x
mutual
inductive Dq (K : PySem.W.Frag) (H : Hp) : V → PyData → Prop
  | non : Dq K H .non .none
  | bl (b : Bool) : Dq K H (.bl b) (.bool b)
  | int (i : Int) : Dq K H (.int i) (.int i)
  | str (x : Str) : Dq K H (.str x) (.str x)
  | lst {a : Addr} {xs : List V} {ds : List PyData} : SqL K H a xs → DqAll K H xs ds → Dq K H (.ref a) (.list ds)
  | tup {a : Addr} {xs : List V} {ds : List PyData} : SqT K H a xs → DqAll K H xs ds → Dq K H (.ref a) (.tuple ds)
  | dic {a : Addr} {kvs : List (Key × V)} {ds : List (PyData × PyData)} : Rd H a (.dK kvs) → DqKv K H kvs ds → Dq K H (.ref a) (.dict ds)
inductive DqAll (K : PySem.W.Frag) (H : Hp) : List V → List PyData → Prop
  | nil : DqAll K H [] []
  | cons {v : V} {vs : List V} {d : PyData} {ds : List PyData} : Dq K H v d → DqAll K H vs ds → DqAll K H (v :: vs) (d :: ds)
inductive DqKv (K : PySem.W.Frag) (H : Hp) : List (Key × V) → List (PyData × PyData) → Prop
  | nil : DqKv K H [] []
  | cons {k : Key} {v : V} {vs : List (Key × V)} {d : PyData} {ds : List (PyData × PyData)} : Dq K H v d → DqKv K H vs ds → DqKv K H ((k, v) :: vs) ((kD k, d) :: ds)
end
theorem Rd.same {H H' : Hp} {a : Addr} {u : HO} (r : Rd H a u) (s : Same H H') : Rd H' a u := by
  rcases r with r | ⟨o, r⟩
  · exact .inl (s _ _ r)
  · exact .inr ⟨o, s _ _ r⟩
theorem SqT.same {K : PySem.W.Frag} {H H' : Hp} {a : Addr} {xs : List V} (h : SqT K H a xs) (e : Same H H') : SqT K H' a xs := by
  rcases h with (h | ⟨o, h⟩) | h
  · exact .inl (.inl (e _ _ h))
  · exact .inl (.inr ⟨o, e _ _ h⟩)
  · exact .inr h
mutual
theorem Dq.same {K : PySem.W.Frag} {H H' : Hp} (s : Same H H') : ∀ (d : PyData) (v : V), Dq K H v d → Dq K H' v d
  | .none, _, h => by cases h; exact .non
  | .bool b, _, h => by cases h; exact .bl b
  | .int i, _, h => by cases h; exact .int i
  | .str x, _, h => by cases h; exact .str x
  | .list ds, _, h => by cases h with | lst a b => exact .lst (s.seq a) (DqAll.same s ds _ b)
  | .tuple ds, _, h => by cases h with | tup a b => exact .tup (SqT.same a s) (DqAll.same s ds _ b)
  | .dict ds, _, h => by cases h with | dic a b => exact .dic (Rd.same a s) (DqKv.same s ds _ b)
theorem DqAll.same {K : PySem.W.Frag} {H H' : Hp} (s : Same H H') : ∀ (ds : List PyData) (vs : List V), DqAll K H vs ds → DqAll K H' vs ds
  | [], _, h => by cases h; exact .nil
  | d :: ds, _, h => by cases h with | cons a b => exact .cons (Dq.same s d _ a) (DqAll.same s ds _ b)
theorem DqKv.same {K : PySem.W.Frag} {H H' : Hp} (s : Same H H') : ∀ (ds : List (PyData × PyData)) (vs : List (Key × V)), DqKv K H vs ds → DqKv K H' vs ds
  | [], _, h => by cases h; exact .nil
  | (_, d) :: ds, _, h => by cases h with | cons a b => exact .cons (Dq.same s d _ a) (DqKv.same s ds _ b)
end
/-- where the module table stands is written down, and it is a dict -/
def sysB (K : PySem.W.Frag) : Bool := match K.lookup sysModules with
  | some ⟨.type c, _, .dict _ _, _⟩ => decide (c = "dict")
  | _ => false
theorem sysB_ok {K : PySem.W.Frag} (h : sysB K = true) : ∃ o, K.lookup sysModules = some o ∧ o.cls = .type "dict" := by
  unfold sysB at h
  split at h
  · rename_i c dd es n sl ho
    exact ⟨_, ho, by rw [of_decide_eq_true h]⟩
  · cases h
end Oc
set_option Elab.async false
set_option linter.all false
set_option maxRecDepth 100000
set_option maxHeartbeats 4000000
namespace Oc
open PySem PySem.Spec PyProof.Rows L2
/-! ### the law's own def, called by the claim's caller: no repr is under way there -/
def LawOk (P : Program) (w : World) (K : PySem.W.Frag) (mg : Str → Option Value) (base : Heap) (f : Addr) (fd : FuncData) (ps : List Str) (sp : Sp) : Prop :=
  ∀ (s : Shared) (H : Hp) (us : List Value) (vs : List V) (Q : VK) (E : XK), Env0 P w K mg base callerA [] s H → BindsTo s fd ⟨us, []⟩ (ps.zip us) → Vals vs us → sp vs H Q E → codeAny (model P w) callerA (.call (.ref f) ⟨us, []⟩) (CR CX0 [] P w H s Q E) s
section
variable {P : Program} {w : World} {K : PySem.W.Frag} {mg mb : Str → Option Value} {base : Heap}
theorem law_of {f : Addr} {fd : FuncData} {d : He.DefD} {N ps : List Str} {sp : Sp} (F : FunD K d.name d.qual d.params d.body d.scope [] [] f fd) (S : FnScope N ps d.scope) (len : ∀ vs H Q E, sp vs H Q E → vs.length = ps.length)
    (hbody : ∀ (cdv : Value) (s : Shared) (H : Hp) (vs : List V) (Q : VK) (E : XK), sp vs H Q E →
      ∃ t, PSs (cxOf CX0 P w K mg base N d.qual d.scope f cdv callerA [] s H E) d.body t ∧ t { nx := fun _ H' => Q .non H', rt := Q } (start N vs) H) : LawOk P w K mg base f fd ps sp := by
  obtain ⟨oc, od, dV, kV, doc, pm, an, cdv, ct, osl, rfl, lk, hcd, _, _⟩ := F.ex
  intro s H us vs Q E e0 hb r hsp
  have kb : ∀ b o, base.get? b = some o → s.heap.get? b = some o := fun b o e => (e0.bs b o e).1
  have KX := e0.mod.kin.keeps kb
  refine codeAny_call_function (by decide) (KX _ _ lk) rfl S.co S.gen rfl (PySem.W.codeRec_of KX hcd) (hb _ _ _ _ (wpAny_newFunctionEnv_cells S.kind (fun y hy => ?_) fun env he s1 x => ?_))
  · rcases S.par y.1 (List.of_mem_zip hy).1 with q | q
    · exact .inl q
    · exact .inr ⟨q, PySem.W.cellsFrom_some _ _ _ (.inl q)⟩
  · subst he
    obtain ⟨t, ht, hq⟩ := hbody cdv s H vs Q E hsp
    have I := inv_start (CX := CX0) (P := P) (w := w) (E := E) (f := f) (cd := cdv) (qual := d.qual) S rfl e0 (len _ _ _ _ hsp) r x
    refine ⟨(e0.mod.nolimit.keeps kb).keeps x.toInCall.keep, codeAny_func (wpAny_mono (ht.run [] s1 (start N vs) H _ I hq) (fun fl s' hs => ?_) fun e s' hs => hs)⟩
    cases fl with
    | ret u => obtain ⟨v, σ', H', J, rv, q⟩ := hs; exact ⟨v, H', J.os, J.bare, J.base, J.hok, rv, q⟩
    | next => obtain ⟨σ', H', J, q⟩ := hs; exact ⟨.non, H', J.os, J.bare, J.base, J.hok, rfl, q⟩
    | brk => obtain ⟨_, _, _, q⟩ := hs; exact False.elim q
    | cont => obtain ⟨_, _, _, q⟩ := hs; exact False.elim q
/-- the heap at the entry: nothing is tracked but the script, where it is none of the written part -/
theorem law_callG {fa a : Addr} {fd : FuncData} {x : Str} {sp : Sp} {s1 : Shared} {vs : List Value} {ns : List Int}
    (KX : K.In s1.heap) (hns : s1.heap.Ns mainGlobals mg) (hb : s1.heap.Ns builtinsNs mb) (hbb : ∀ x : Str, x ≠ "__name__" → mb x = bootBuiltins x) (hlim : s1.heap.NoLimit) (hg : s1.gens = #[])
    (ha : s1.heap.get? a = some { cls := .type "list", data := .seq vs.toArray }) (hi : IntsAre vs ns) (hl : ns.length ≤ sizeLine) (hka : K.lookup a = none)
    (F : ∀ base : Heap, K.In base → base.Ns mainGlobals mg → LawOk P w K mg base fa fd [x] sp) (hbind : ∀ (s : Shared) (u : Value), BindsTo s fd ⟨[u], []⟩ [(x, u)])
    (hsp : ∀ H : Hp, Only H → SqL K H a (ns.map V.int) → sp [.ref a] H (fun v _ => v = .bl true) fun _ _ _ => False) :
    codeAny (model P w) callerA (.call (.ref fa) ⟨[.ref a], []⟩) (fun r s' => r = .ok (.ret (.bool true)) ∧ OldK s1.heap s'.heap ∧ s'.os = s1.os ∧ AllBare s'.gens) s1 := by
  obtain ⟨H, hH⟩ : ∃ H : Hp, H = fun b => if b = a then some (HO.frz { cls := .type "list", data := .seq vs.toArray } (.lst (ns.map V.int))) else none := ⟨_, rfl⟩
  have hHa : H a = some (HO.frz { cls := .type "list", data := .seq vs.toArray } (.lst (ns.map V.int))) := by rw [hH]; exact if_pos rfl
  have hHn : ∀ b, b ≠ a → H b = none := fun b e => by rw [hH]; exact if_neg e
  have hO : Only H := fun b => by
    by_cases e : b = a
    · rw [e]; exact .inr ⟨_, _, hHa⟩
    · exact .inl (hHn b e)
  have bk : ∀ {b : Addr} {o : Obj}, b ≠ a → s1.heap.get? b = some o → (hidT s1.heap H).get? b = some o := fun e q => hidT_get q (hHn _ e)
  have nsK : ∀ {b : Addr} {m : Str → Option Value}, s1.heap.Ns b m → (hidT s1.heap H).Ns b m := fun {b m} ⟨o, es, ep, e, d, r⟩ => by
    have ne : b ≠ a := fun z => by
      rw [z, ha] at e
      cases e
      have d' : Data.seq vs.toArray _ = Data.dict es ep := d
      cases d'
    exact ⟨o, es, ep, bk ne e, d, r⟩
  have hKb : K.In (hidT s1.heap H) := fun b o e => bk (fun z => by rw [z, hka] at e; cases e) (KX b o e)
  have hM : Mod K mg (hidT s1.heap H) := ⟨hKb, nsK hns, ⟨mb, nsK hb, hbb⟩, let ⟨mc, h1, h2⟩ := hlim; ⟨mc, nsK h1, h2⟩⟩
  have hok : HOk P w H s1.heap := fun b o e => by
    by_cases z : b = a
    · rw [z, hHa] at e
      cases e
      rw [z]
      exact ⟨ha, by rw [List.length_map]; exact hl, vs, _, vals_ints hi, ha⟩
    · rw [hHn b z] at e
      cases e
  have e0 : Env0 P w K mg (hidT s1.heap H) callerA [] s1 H := ⟨rfl, hM, fun b o e => of_hidT e, Nat.le_of_eq (hidT_size _ _), trivial, (fun b hb => absurd (show b ∈ ([] : List Addr) from hb) (by simp)), hok, .of_eq hg⟩
  refine codeAny_mono (F _ hKb (nsK hns) s1 H [.ref a] [.ref a] _ _ e0 (hbind s1 (.ref a)) (.cons rfl .nil) (hsp H hO (.inl (.inr ⟨_, hHa⟩)))) fun r s' h => ?_
  cases r with
  | error e => exact False.elim h
  | ok fl =>
    cases fl with
    | next => exact False.elim h
    | brk => exact False.elim h
    | cont => exact False.elim h
    | ret u =>
      obtain ⟨v, H', os, bare, un, hok', r', q⟩ := h
      have q' : v = .bl true := q
      subst q'
      obtain rfl : u = Value.bool true := r'
      refine ⟨rfl, OldK.of_keep fun b o e => ?_, os, bare⟩
      by_cases z : b = a
      · rw [z] at e ⊢
        rw [ha] at e
        cases e
        exact (hok' a _ (un.frzs a _ _ hHa)).1
      · exact un.keep b o e (hHn b z) (by intro z; cases z) (by intro z; cases z)
end
/-- the end of a law's row over a head by facts; the written part must not hold the script -/
theorem walk_ofG {l : PySem.W.OpenLaw} {n : Nat} {q : Program} {loose : List Str} {XP : (Str → Option Value) → Heap → Prop} {YP : World → Heap → Prop} {d : DefRec} {x : Str}
    (hn : l.most = some n) (hn2 : n ≤ sizeLine) (hdf : d.params.defaults = [])
    (F : ∀ (w : World) (mg : Str → Option Value) (fa : Addr) (h : Heap), YP w h → h.Ns mainGlobals mg → mg d.name = some (.ref fa) →
      ∃ (K : PySem.W.Frag) (fd : FuncData) (sp : Sp), K.In h ∧ (∀ a o, K.lookup a = some o → o.cls ≠ .type "list") ∧ (∀ (s : Shared) (u : Value), BindsTo s fd ⟨[u], []⟩ [(x, u)]) ∧
        (∀ (H : Hp) (a : Addr) (ns : List Int), ns.length ≤ n → Only H → SqL K H a (ns.map V.int) → sp [.ref a] H (fun v _ => v = .bl true) fun _ _ _ => False) ∧
        ∀ base : Heap, K.In base → base.Ns mainGlobals mg → LawOk l.prog w K mg base fa fd [x] sp) :
    PySem.W.WalkO q loose XP YP l.row.toRowW d [] (fun f vs => PySem.call f vs) := by
  refine Att.attach_call hn hdf fun w s0 s1 mg mb fa o pm cd doc a vs ns G Y ho hd hcd hmg hobj hints hlen hg => ?_
  obtain ⟨K, fd, sp, KX, hnl, hb, hsp, hF⟩ := F w mg fa _ Y G.T.g hmg
  refine law_callG KX G.T.g G.T.b G.T.builtins G.T.nolimit hg hobj hints (Nat.le_trans hlen hn2) ?_ hF hb fun H hO hS => hsp H a ns hlen hO hS
  cases e : K.lookup a with
  | none => rfl
  | some o =>
    have z := KX a o e
    rw [hobj] at z
    cases z
    exact absurd rfl (hnl a _ e)
end Oc
set_option Elab.async false
set_option linter.all false
set_option maxRecDepth 100000
set_option maxHeartbeats 4000000
namespace Oc
open PySem PySem.Spec PyProof.Rows L2
section
variable {X : Cx} {pins : List (Addr × Obj)} {σ : L2.St} {H : Hp} {s : Shared}
theorem keys_read {P : Program} {w : World} {h : Heap} : ∀ {es : List DictEntry} {vs : List (Key × Value)} {kvs : List (Key × V)} {ds : List (PyData × PyData)} {K : PySem.W.Frag} {H : Hp}, Pairs (mixKind P w) es vs → KV kvs vs → DqKv K H kvs ds → ReadsAll h (es.map (·.key)) (ds.map (·.1)) [] := by
  intro es
  induction es with
  | nil =>
    intro vs kvs ds K H p q r
    cases p
    cases q
    cases r
    exact .nil
  | cons e es ih =>
    intro vs kvs ds K H p q r
    cases p with
    | cons h1 h2 h3 =>
      cases q with
      | cons g1 g2 =>
        cases r with
        | @cons k v rest d dr r1 r2 =>
          have z := ih h3 g2 r2
          have e1 : k = _ := g1.1
          have hk : keyIs k e.key = true := by
            rw [e1]
            exact h1
          show ReadsAll h (e.key :: es.map (·.key)) (kD k :: dr.map (·.1)) []
          rcases keyIs_shape hk with ⟨i, t, rfl, ek⟩ | ⟨x, t, rfl, ek⟩
          · rw [ek]
            exact .cons (as := []) (bs := []) (Reads.int i t) z
          · rw [ek]
            exact .cons (as := []) (bs := []) (Reads.str x t) z
theorem ne_sys {a : Addr} {o oS : Obj} {c : String} (hS : s.heap.get? sysModules = some oS) (hc : oS.cls = .type "dict") (ho : s.heap.get? a = some o) (hl : o.cls = .type c) (hn : c ≠ "dict") : sysModules ≠ a := fun z => by
  rw [z, ho] at hS
  cases hS
  rw [hl] at hc
  exact hn (Value.type.inj hc)
mutual
theorem Dq.reads (I : Inv X pins σ H s) {oS : Obj} (hS : s.heap.get? sysModules = some oS) (hc : oS.cls = .type "dict") : ∀ (d : PyData) (v : V) (u : Value), Dq X.K H v d → RelV v u → ∃ as, Reads s.heap u d as ∧ sysModules ∉ as
  | .none, _, _, h, r => by
    cases h
    cases r
    exact ⟨_, Reads.none, by simp⟩
  | .bool b, _, _, h, r => by
    cases h
    cases r
    exact ⟨_, Reads.bool b, by simp⟩
  | .int i, _, _, h, r => by
    cases h
    obtain ⟨t, rfl⟩ := r
    exact ⟨_, Reads.int i t, by simp⟩
  | .str x, _, _, h, r => by
    cases h
    obtain ⟨t, rfl⟩ := r
    exact ⟨_, Reads.str x t, by simp⟩
  | .list ds, _, _, h, r => by
    cases h with
    | lst hs ha =>
      cases r
      obtain ⟨its, rv, ⟨o, n, ho, hcl, _, hd⟩, _⟩ := I.list hs
      obtain ⟨as, hr, hn⟩ := DqAll.reads I hS hc ds _ its ha rv
      refine ⟨_, Reads.list ho hcl hd hr, fun z => ?_⟩
      rcases List.mem_cons.mp z with z | z
      · exact ne_sys hS hc ho hcl (by decide) z
      · exact hn z
  | .tuple ds, _, _, h, r => by
    cases h with
    | tup hs ha =>
      cases r
      obtain ⟨its, rv, ⟨o, ho, hcl, n, hd⟩, _⟩ := I.tuple hs
      obtain ⟨as, hr, hn⟩ := DqAll.reads I hS hc ds _ its ha rv
      exact ⟨_, Reads.tuple ho hcl hd hr, hn⟩
  | .dict ds, _, _, h, r => by
    cases h with
    | dic hs ha =>
      cases r
      obtain ⟨z, hne, vs, kv, o, es, ep, ho, hx, hd, _, hp, _⟩ := hs.ok I.hok
      obtain ⟨bs, hr, hn⟩ := DqKv.reads I hS hc ds _ vs es.toList ha kv hp
      refine ⟨_, Reads.dict ho hx.1 hd (keys_read hp kv ha) hr, fun z => ?_⟩
      simp only [List.cons_append, List.mem_cons, List.nil_append] at z
      rcases z with z | z
      · rw [z] at hne
        simp at hne
      · exact hn z
theorem DqAll.reads (I : Inv X pins σ H s) {oS : Obj} (hS : s.heap.get? sysModules = some oS) (hc : oS.cls = .type "dict") : ∀ (ds : List PyData) (vs : List V) (us : List Value), DqAll X.K H vs ds → Vals vs us → ∃ as, ReadsAll s.heap us ds as ∧ sysModules ∉ as
  | [], _, _, h, r => by
    cases h
    cases r
    exact ⟨_, ReadsAll.nil, by simp⟩
  | d :: ds, _, _, h, r => by
    cases h with
    | cons h1 h2 =>
      cases r with
      | cons r1 r2 =>
        obtain ⟨as, q1, n1⟩ := Dq.reads I hS hc d _ _ h1 r1
        obtain ⟨bs, q2, n2⟩ := DqAll.reads I hS hc ds _ _ h2 r2
        exact ⟨_, ReadsAll.cons q1 q2, fun z => (List.mem_append.mp z).elim n1 n2⟩
theorem DqKv.reads (I : Inv X pins σ H s) {oS : Obj} (hS : s.heap.get? sysModules = some oS) (hc : oS.cls = .type "dict") : ∀ (ds : List (PyData × PyData)) (kvs : List (Key × V)) (vs : List (Key × Value)) (es : List DictEntry), DqKv X.K H kvs ds → KV kvs vs → Pairs (mixKind X.prog X.w) es vs →
    ∃ as, ReadsAll s.heap (es.map (·.val)) (ds.map (·.2)) as ∧ sysModules ∉ as
  | [], _, _, _, h, r, p => by
    cases h
    cases r
    cases p
    exact ⟨_, ReadsAll.nil, by simp⟩
  | (k, d) :: ds, _, _, _, h, r, p => by
    cases h with
    | cons h1 h2 =>
      cases r with
      | cons r1 r2 =>
        cases p with
        | cons p1 p2 p3 =>
          obtain ⟨bs, q2, n2⟩ := DqKv.reads I hS hc ds _ _ _ h2 r2 p3
          obtain ⟨as, q1, n1⟩ := Dq.reads I hS hc d _ _ h1 r1.2
          refine ⟨_, ?_, fun z => (List.mem_append.mp z).elim n1 n2⟩
          show ReadsAll s.heap (_ :: _) (d :: ds.map (·.2)) (as ++ bs)
          refine ReadsAll.cons ?_ q2
          simpa only [p2] using q1
end
end
/-- repr(x) of such data, where no repr is under way -/
def rRepr (K : PySem.W.Frag) : List V → Hp → VK → Prop := fun xs H Q => ∃ (x : V) (d : PyData), xs = [x] ∧ Dq K H x d ∧ d.showable = true ∧ d.depth ≤ 64 ∧ d.shown.length ≤ sizeLine ∧ Q (.str d.shown) H
theorem call_reprD {X : Cx} (hg : X.A.guards = some []) (hu : X.A.units + 100 < cLine) (hs : sysB X.K = true) : CallR X (.builtin "repr") (rRepr X.K) := by
  intro pins s σ H xs us Q I r h
  obtain ⟨x, d, rfl, hd, sh, dp, hl, q⟩ := h
  obtain ⟨u, rfl, rx⟩ := vals1 r
  obtain ⟨oS, lS, cS⟩ := sysB_ok hs
  obtain ⟨as, hr, hn⟩ := Dq.reads I (I.kIn _ _ lS) cS d x u hd rx
  cases hd with
  | non =>
    cases rx
    exact P.repr_of_none ⟨.str _, H, I.tok _, ⟨_, rfl⟩, q⟩
  | bl b =>
    cases rx
    exact P.repr_of_bool ⟨.str _, H, I.tok _, ⟨_, rfl⟩, q⟩
  | int i =>
    obtain ⟨t, rfl⟩ := rx
    exact P.repr_of_int (of_decide_eq_true sh) ⟨.str _, H, I.tok _, ⟨_, rfl⟩, q⟩
  | str y =>
    obtain ⟨t, rfl⟩ := rx
    exact P.repr_of_str ⟨.str _, H, I.tok _, ⟨_, rfl⟩, q⟩ hl
  | _ =>
    cases rx
    refine repr_of_reads' hr sh (fun _ => hn) hg (by omega) (fun _ _ z => z) (fun h' u tk k => ⟨.str _, H, I.kept (t' := tk) k, ⟨_, rfl⟩, q⟩) hl
end Oc
set_option Elab.async false
set_option linter.all false
set_option maxRecDepth 100000
set_option maxHeartbeats 4000000
namespace Oc
open PySem PySem.Spec PyProof.Rows L2
/-- a text times a small number -/
def repS (z : Str) (i : Int) : Str := if i < 1 then Str.empty else if (i == 1 || z.length == 0) = true then z else ⟨(List.replicate i.toNat z.cps).foldl (· ++ ·) #[]⟩
theorem foldl_size (z : Array Nat) : ∀ (n : Nat) (a : Array Nat), ((List.replicate n z).foldl (· ++ ·) a).size = a.size + n * z.size
  | 0, a => by simp
  | n + 1, a => by
    rw [List.replicate_succ, List.foldl_cons, foldl_size z n (a ++ z), Array.size_append, Nat.succ_mul]
    omega
theorem repS_length (z : Str) (i : Int) (h0 : 0 ≤ i) : (repS z i).length = i.toNat * z.length := by
  unfold repS
  by_cases h : i < 1
  · rw [if_pos h]
    have e : i.toNat = 0 := by omega
    rw [e, Nat.zero_mul]
    rfl
  · rw [if_neg h]
    by_cases h2 : (i == 1 || z.length == 0) = true
    · rw [if_pos h2]
      rcases Bool.or_eq_true_iff.mp h2 with q | q
      · have e : i = 1 := by simpa using q
        rw [e]
        simp
      · have e : z.length = 0 := by simpa using q
        rw [e]
        simp
    · rw [if_neg h2]
      show ((List.replicate i.toNat z.cps).foldl (· ++ ·) #[]).size = _
      rw [foldl_size]
      show 0 + i.toNat * z.cps.size = i.toNat * z.cps.size
      omega
theorem op_mul_str {X : Cx} : OpR X (binaryOp .Mult) (fun x y H Q => ∃ z i, x = .str z ∧ y = .int i ∧ 0 ≤ i ∧ i ≤ 1000 ∧ z.length ≤ 1000 ∧ Q (.str (repS z i)) H) := by
  intro pins s σ H x y v u Q I rx ry h
  obtain ⟨z, i, rfl, rfl, h0, h1, h2, q⟩ := h
  obtain ⟨t, rfl⟩ := rx
  obtain ⟨t', rfl⟩ := ry
  have small : i.toNat * z.length ≤ 1000000 := Nat.le_trans (Nat.mul_le_mul (by omega : i.toNat ≤ 1000) h2) (by decide)
  refine PySem.P.mul_str ?_ (fun a b => ?_) (fun a b => ?_) ?_
  · have e1 : ¬ i < -(2 ^ 63 : Int) := by omega
    have e2 : ¬ i ≥ 2 ^ 63 := by omega
    rw [decide_eq_false e1, decide_eq_false e2]
    rfl
  · have e : ((2 : Int) ^ 63 - 1) / i ≥ 1000 := by
      have : (1000 : Int) ≤ (2 ^ 63 - 1) / i := by
        rw [Int.le_ediv_iff_mul_le (by omega)]
        omega
      exact this
    omega
  · rw [Nat.mul_comm]
    show decide _ = false
    refine decide_eq_false ?_
    rw [sizeLine_eq]
    omega
  · unfold repS at q
    by_cases c1 : i < 1
    · rw [if_pos c1] at q ⊢
      exact ⟨by decide, .str _, H, I.tok _, ⟨_, rfl⟩, q⟩
    · rw [if_neg c1] at q ⊢
      by_cases c2 : (i == 1 || z.length == 0) = true
      · rw [if_pos c2] at q ⊢
        exact ⟨.str _, H, I, ⟨_, rfl⟩, q⟩
      · rw [if_neg c2] at q ⊢
        refine ⟨?_, .str _, H, I.tok _, ⟨_, rfl⟩, q⟩
        show ((List.replicate i.toNat z.cps).foldl (· ++ ·) #[]).size ≤ _
        rw [foldl_size, sizeLine_eq]
        have : i.toNat * z.cps.size ≤ 1000000 := small
        show 0 + _ ≤ _
        omega
/-- small data, that may be shown -/
def okD (d : PyData) : Bool := d.showable && (decide (d.depth ≤ 8) && decide (d.shown.length ≤ 300))
/-- such data stands there, whatever becomes of the pen at p -/
def AnyV (K : PySem.W.Frag) (H : Hp) (p : Addr) (v : V) : Prop := ∃ d, Dq K (delH H p) v d ∧ okD d = true
theorem delH_at {H : Hp} {p a : Addr} {o : HO} (h : H a = some o) (n : a ≠ p) : delH H p a = some o := by
  rw [delH_ne n]
  exact h
theorem Same.alloc {H : Hp} {q : Addr} {o : HO} (n : H q = none) : Same H (upd H q o) := fun b u e => by
  rw [upd_ne (ne_of_none e n)]
  exact e
/-- a new object at q, the pen at p -/
structure Alc (H H' : Hp) (p q : Addr) (o : HO) : Prop where
  s : Same H H'
  e : H' q = some o
  n : q ≠ p
theorem alc {H : Hp} {p q : Addr} {o u : HO} (hp : H p = some u) (n : H q = none) : Alc H (upd H q o) p q o := ⟨Same.alloc n, upd_same, (ne_of_none hp n).symm⟩
theorem alcD {H : Hp} {p q : Addr} {o o' u : HO} (hp : H p = some u) (n : H q = none) : Alc H (upd (upd H q o') q o) p q o := by
  rw [upd_upd]
  exact alc hp n
theorem AnyV.dq {K : PySem.W.Frag} {H : Hp} {p : Addr} {v : V} (h : AnyV K H p v) : ∃ d, Dq K H v d ∧ okD d = true := by
  obtain ⟨d, h1, h2⟩ := h
  refine ⟨d, Dq.same (fun b o e => ?_) d v h1, h2⟩
  by_cases z : b = p
  · rw [z, delH_same] at e
    cases e
  · rw [delH_ne z] at e
    exact e
theorem AnyV.keep {K : PySem.W.Frag} {H H' : Hp} {p : Addr} {v : V} (h : AnyV K H p v) (b : ∀ c o, H c = some o → c ≠ p → H' c = some o) : AnyV K H' p v := by
  obtain ⟨d, h1, h2⟩ := h
  refine ⟨d, Dq.same (fun c o e => ?_) d v h1, h2⟩
  by_cases z : c = p
  · rw [z, delH_same] at e
    cases e
  · rw [delH_ne z] at e ⊢
    exact b c o e z
end Oc
set_option Elab.async false
set_option linter.all false
set_option maxRecDepth 100000
set_option maxHeartbeats 4000000
namespace Oc
open PySem PySem.Spec PyProof.Rows L2
theorem PE.weak {X : Cx} {e : Expr} {t t' : TE} (h : PE X e t) (w : ∀ σ H Q, t' σ H Q → t σ H Q) : PE X e t' := ⟨fun pins s σ H Q I q => h.run pins s σ H Q I (w _ _ _ q)⟩
theorem FunD.kbnN {K : PySem.W.Frag} {x qual : Str} {params : Arguments} {body : List Stmt} {scope : Scope} {f : Addr} {fd : FuncData} {ps ks : List Str} {n : Nat} {g : List Value → List Value → List Value} {gV : List V → List V → List V} (F : FunD K x qual params body scope [] [] f fd)
    (h : ∀ (kV doc pm : Value) (an : Option Addr) (cdv ct : Value) (us ws : List Value), us.length = n → ws.length = ks.length → bindArgs (PySem.W.fnOf x qual params body scope .none kV doc pm an cdv ct) ⟨us, ks.zip ws⟩ = pure (ps.zip (g us ws)))
    (r : ∀ {vs : List V} {us : List Value} {zs : List V} {ws : List Value}, Vals vs us → Vals zs ws → Vals (gV vs zs) (g us ws)) : KBn K fd ps n ks g gV := by
  obtain ⟨oc, od, dV, kV, doc, pm, an, cdv, ct, osl, rfl, lk, hcd, hD, hK⟩ := F.ex
  rcases hD with ⟨_, rfl⟩ | ⟨e, _⟩
  · exact ⟨fun s us ws X l1 l2 => .of_eq (h kV doc pm an cdv ct us ws l1 l2), r⟩
  · exact absurd rfl e
/-! ### __init__ that stores its one argument, or its two -/
def spI1 (C : Addr) (f : Str) : Sp := fun vs H Q _ => ∃ (a : Addr) (x : V), vs = [.ref a, x] ∧ H a = some (exo a C none) ∧ ∀ dx, H dx = none → dx ≠ a → Q .non (upd (upd H dx (exd dx [(f, x)])) a (exo a C (some dx)))
def spI2 (C : Addr) (f g : Str) : Sp := fun vs H Q _ => ∃ (a : Addr) (x y : V), vs = [.ref a, x, y] ∧ H a = some (exo a C none) ∧ ∀ dx, H dx = none → dx ≠ a → Q .non (upd (upd (upd H dx (exd dx [(f, x)])) a (exo a C (some dx))) dx (exd dx [(g, y), (f, x)]))
/-- the class at C, its __init__ with it -/
structure ExK (K : PySem.W.Frag) (mg : Str → Option Value) (x : Str) (C fI : Addr) (newId : String) (bm : List Value) : Prop where
  cl : ExCl K C newId bm
  ini : PySem.W.findIn K (.ref C) "__init__" = some (some (.ref fI))
  fn : PySem.W.typeIn K (.ref fI) = some (.type "function")
  g : mg x = some (.ref C)
structure Ex1 (P : Program) (w : World) (K : PySem.W.Frag) (mg : Str → Option Value) (base : Heap) (x f : Str) (C : Addr) (newId : String) (bm : List Value) : Prop where
  ex : ∃ (fI : Addr) (fd : FuncData), ExK K mg x C fI newId bm ∧ FnOk P w K mg base CX0 1 fI fd ["self", f] (spI1 C f) ∧ Binds K fd ["self", f] [] ∧ KBn K fd ["self", f] 1 [f] (fun us ws => us ++ ws) (fun vs zs => vs ++ zs)
  no : PySem.W.findIn K (.ref C) f = some none
structure Ex2 (P : Program) (w : World) (K : PySem.W.Frag) (mg : Str → Option Value) (base : Heap) (x f g : Str) (C : Addr) (newId : String) (bm : List Value) : Prop where
  ex : ∃ (fI : Addr) (fd : FuncData), ExK K mg x C fI newId bm ∧ FnOk P w K mg base CX0 1 fI fd ["self", f, g] (spI2 C f g) ∧ Binds K fd ["self", f, g] [] ∧ KBn K fd ["self", f, g] 1 [g, f] (fun us ws => us ++ ws.reverse) (fun vs zs => vs ++ zs.reverse)
  noF : PySem.W.findIn K (.ref C) f = some none
  noG : PySem.W.findIn K (.ref C) g = some none
theorem made_same {H : Hp} {a dx C : Addr} {fs : List (Str × V)} (na : H a = none) (nd : upd H a (exo a C none) dx = none) (ne : dx ≠ a) : Same H (upd (upd (upd H a (exo a C none)) dx (exd dx fs)) a (exo a C (some dx))) := fun b o e => by
  have h1 : b ≠ a := ne_of_none e na
  rw [upd_ne ne] at nd
  rw [upd_ne h1, upd_ne (ne_of_none e nd), upd_ne h1]
  exact e
theorem made_at {H : Hp} {a dx C : Addr} {fs : List (Str × V)} (ne : dx ≠ a) : ExAt (upd (upd (upd H a (exo a C none)) dx (exd dx fs)) a (exo a C (some dx))) (.ref a) C fs :=
  ⟨a, rfl, .inr ⟨dx, upd_same, by rw [upd_ne ne, upd_same]⟩⟩
section
variable {X : Cx} {x f g : Str} {C : Addr} {newId : String} {bm : List Value} {e e' : Expr} {te tu : TE} {p pos q q' : Pos}
/-- C(e), C(f=e), C(e, e'), C(g=e', f=e) -/
theorem pe_ex1 (E : Ex1 X.prog X.w X.K X.mg X.base x f C newId bm) (hr : Room 2 X.A) (he : PE X e te) (hg : Gl X x := by rfl) (hdb : (x == ("__debug__" : Str)) = false := by decide) (hs : starEach [e] X.env = (false, eval e X.env) :: starEach [] X.env := by rfl) :
    PE X (.Call (.Name x p) [e] [] pos) (tMkE C 1 0 (spI1 C f) (fun vs _ => vs) (tCons te tNil) tNil) := by
  obtain ⟨fI, fd, ⟨cl, ini, fn, g⟩, F, b, _⟩ := E.ex
  exact pe_mkE (n := 1) cl ini fn F hr hg g b pass0 (pa_cons he pa_nil hs) rfl (by decide) hdb hs rfl
theorem pe_ex1k (E : Ex1 X.prog X.w X.K X.mg X.base x f C newId bm) (hr : Room 2 X.A) (he : PE X e te) (hg : Gl X x := by rfl) (hdb : (x == ("__debug__" : Str)) = false := by decide) :
    PE X (.Call (.Name x p) [] [⟨some f, e, q⟩] pos) (tMkE C 0 1 (spI1 C f) (fun vs zs => vs ++ zs) tNil (tCons te tNil)) := by
  obtain ⟨fI, fd, ⟨cl, ini, fn, g⟩, F, _, b⟩ := E.ex
  exact pe_mkEK (ks := [f]) cl ini fn F hr hg g b pass0 (pk_cons he pk_nil) rfl rfl hdb rfl
theorem pe_ex2 (E : Ex2 X.prog X.w X.K X.mg X.base x f g C newId bm) (hr : Room 2 X.A) (he : PE X e te) (hu : PE X e' tu) (hg : Gl X x := by rfl) (hdb : (x == ("__debug__" : Str)) = false := by decide) (hs : starEach [e, e'] X.env = (false, eval e X.env) :: starEach [e'] X.env := by rfl)
    (hs' : starEach [e'] X.env = (false, eval e' X.env) :: starEach [] X.env := by rfl) (hpl : (backTo pos (starEach [e'] X.env)).any (·.1) = false := by rfl) :
    PE X (.Call (.Name x p) [e, e'] [] pos) (tMkE C 2 0 (spI2 C f g) (fun vs _ => vs) (tCons te (tCons tu tNil)) tNil) := by
  obtain ⟨fI, fd, ⟨cl, ini, fn, g⟩, F, b, _⟩ := E.ex
  exact pe_mkE (n := 2) cl ini fn F hr hg g b pass0 (pa_cons he (pa_cons hu pa_nil hs') hs) rfl (by decide) hdb hs hpl
theorem pe_ex2k (E : Ex2 X.prog X.w X.K X.mg X.base x f g C newId bm) (hr : Room 2 X.A) (he : PE X e te) (hu : PE X e' tu) (hg : Gl X x := by rfl) (hdb : (x == ("__debug__" : Str)) = false := by decide) :
    PE X (.Call (.Name x p) [] [⟨some g, e, q⟩, ⟨some f, e', q'⟩] pos) (tMkE C 0 2 (spI2 C f g) (fun vs zs => vs ++ zs.reverse) tNil (tCons te (tCons tu tNil))) := by
  obtain ⟨fI, fd, ⟨cl, ini, fn, g⟩, F, _, b⟩ := E.ex
  exact pe_mkEK (ks := [_, _]) cl ini fn F hr hg g b pass0 (pk_cons he (pk_cons hu pk_nil)) rfl rfl hdb rfl
end
section
variable {H : Hp} {C : Addr} {f g : Str} {x y : V} {R : Addr → Hp → Prop} {E : XK}
/-- what such a call asks behind its arguments -/
theorem ans1 (k : ∀ a H', Same H H' → ExAt H' (.ref a) C [(f, x)] → R a H') : [x].length = 1 ∧ ([] : List V).length = 0 ∧ ∀ a, H a = none → spI1 C f (.ref a :: [x]) (upd H a (exo a C none)) (fun v H3 => v = .non ∧ R a H3) E :=
  ⟨rfl, rfl, fun a na => ⟨a, x, rfl, upd_same, fun dx nd ne => ⟨rfl, k _ _ (made_same na nd ne) (made_at ne)⟩⟩⟩
theorem ans1k (k : ∀ a H', Same H H' → ExAt H' (.ref a) C [(f, x)] → R a H') : ([] : List V).length = 0 ∧ [x].length = 1 ∧ ∀ a, H a = none → spI1 C f ([.ref a] ++ [x]) (upd H a (exo a C none)) (fun v H3 => v = .non ∧ R a H3) E :=
  ⟨rfl, rfl, fun a na => ⟨a, x, rfl, upd_same, fun dx nd ne => ⟨rfl, k _ _ (made_same na nd ne) (made_at ne)⟩⟩⟩
theorem made2_same {a dx : Addr} {fs gs : List (Str × V)} (na : H a = none) (nd : upd H a (exo a C none) dx = none) (ne : dx ≠ a) : Same H (upd (upd (upd (upd H a (exo a C none)) dx (exd dx fs)) a (exo a C (some dx))) dx (exd dx gs)) := fun b o e => by
  have h1 := made_same (fs := fs) (C := C) na nd ne b o e
  rw [upd_ne ne] at nd
  rw [upd_ne (ne_of_none e nd)]
  exact h1
theorem made2_at {a dx : Addr} {fs gs : List (Str × V)} (ne : dx ≠ a) : ExAt (upd (upd (upd (upd H a (exo a C none)) dx (exd dx fs)) a (exo a C (some dx))) dx (exd dx gs)) (.ref a) C gs :=
  ⟨a, rfl, .inr ⟨dx, by rw [upd_ne ne.symm, upd_same], upd_same⟩⟩
theorem ans2 (k : ∀ a H', Same H H' → ExAt H' (.ref a) C [(g, y), (f, x)] → R a H') : [x, y].length = 2 ∧ ([] : List V).length = 0 ∧ ∀ a, H a = none → spI2 C f g (.ref a :: [x, y]) (upd H a (exo a C none)) (fun v H3 => v = .non ∧ R a H3) E :=
  ⟨rfl, rfl, fun a na => ⟨a, x, y, rfl, upd_same, fun dx nd ne => ⟨rfl, k _ _ (made2_same na nd ne) (made2_at ne)⟩⟩⟩
theorem ans2k (k : ∀ a H', Same H H' → ExAt H' (.ref a) C [(g, y), (f, x)] → R a H') : ([] : List V).length = 0 ∧ [y, x].length = 2 ∧ ∀ a, H a = none → spI2 C f g ([.ref a] ++ [y, x].reverse) (upd H a (exo a C none)) (fun v H3 => v = .non ∧ R a H3) E :=
  ⟨rfl, rfl, fun a na => ⟨a, x, y, rfl, upd_same, fun dx nd ne => ⟨rfl, k _ _ (made2_same na nd ne) (made2_at ne)⟩⟩⟩
theorem made0 {a : Addr} (_n : H a = none) : ExAt (upd H a (exo a C none)) (.ref a) C [] := ⟨a, rfl, .inl ⟨rfl, upd_same⟩⟩
end
end Oc
set_option Elab.async false
set_option linter.all false
set_option maxRecDepth 100000
set_option maxHeartbeats 4000000
namespace Oc
open PySem PySem.Spec PyProof.Rows L2
/-! ### xs.count(k), a list of True and False -/
def isB (k : Bool) : Value → Bool
  | .bool b => b == k
  | _ => false
theorem bools_at {k : Bool} {A : Around} {s : Shared} : ∀ {bs : List Bool} {us : List Value}, Vals (bs.map V.bl) us → ∀ y ∈ us, SeqAt.EqAt A s y (.bool k) (isB k y)
  | [], _, .nil => fun y hy => by cases hy
  | b :: bs, _, .cons (r : _ = Value.bool b) h => fun y hy => by
    rcases List.mem_cons.mp hy with e | e
    · rw [e, r]
      exact SeqAt.EqAt.bool_bool b k
    · exact bools_at h y e
theorem bools_count {k : Bool} : ∀ {bs : List Bool} {us : List Value}, Vals (bs.map V.bl) us → us.countP (isB k) = bs.count k
  | [], _, .nil => rfl
  | b :: bs, _, .cons (r : _ = Value.bool b) h => by
    rw [List.countP_cons, bools_count h, List.count_cons, r]
    rfl
def rCntB (K : PySem.W.Frag) : V → List V → Hp → VK → Prop := fun x xs H Q => ∃ (p : Addr) (bs : List Bool) (k : Bool), x = .ref p ∧ xs = [.bl k] ∧ SqL K H p (bs.map V.bl) ∧ Q (.int (bs.count k : Nat)) H
theorem mt_bcount {X : Cx} : MtR X "list.count" (rCntB X.K) := by
  intro pins s σ H x xs v us Q I rx rxs h
  obtain ⟨p, bs, k, rfl, rfl, hs, q⟩ := h
  cases rx
  obtain ⟨u, rfl, ru⟩ := vals1 rxs
  cases (show u = Value.bool k from ru)
  obtain ⟨its, rv, ⟨⟨cls, dd, data, sl⟩, n, ho, hc, hdn, hd⟩, hlen⟩ := I.list hs
  simp only at hc hd
  subst hc hd
  refine PySem.call_meets PySem.F.slot_list_count ⟨_, ho, rfl⟩ PySem.F.entry_list_count (PySem.F.args_list_count_2 _ _) (SeqAt.list_countAt p its.toArray n dd sl (.bool k) (isB k)) ⟨ho, fun y hy => bools_at rv y (by simpa using hy), ?_⟩
  refine ⟨.int (bs.count k : Nat), H, I.tok _, ⟨s.toks, ?_⟩, q⟩
  show Value.int ((its.toArray.toList.countP (isB k) : Nat) : Int) s.toks = _
  rw [show its.toArray.toList = its from rfl, bools_count rv]
end Oc
set_option Elab.async false
set_option linter.all false
set_option maxRecDepth 100000
set_option maxHeartbeats 4000000
namespace Oc
open PySem PySem.Spec PyProof.Rows L2
theorem yesT {σ : L2.St} {H : Hp} {A B : Hp → Prop} (h : A H) : tYes σ H fun b H3 => if b = true then A H3 else B H3 := by
  show (if true = true then A H else B H)
  rw [if_pos rfl]
  exact h
theorem ixL {X : Cx} {K : PySem.W.Frag} (h : X.K = K) : IxR X (rIxL K) := by
  rw [← h]
  exact ix_list
theorem ixT {X : Cx} {K : PySem.W.Frag} (h : X.K = K) : IxR X (rIxT K) := by
  rw [← h]
  exact ix_tup
/-! ### drawn words -/
def letters : Str := "abcdefghijklmnopqrstuvwxyz"
def lets : List Nat := letters.cps.toList
theorem lets_at {i : Nat} (h : i < 26) : lets[i]? = some (97 + i) := by
  have z : ∀ i : Fin 26, lets[i.val]? = some (97 + i.val) := by decide +kernel
  exact z ⟨i, h⟩
theorem lets_mem {c : Nat} : c ∈ lets ↔ 97 ≤ c ∧ c ≤ 122 := by
  have e : lets = (List.range 26).map (97 + ·) := by decide +kernel
  rw [e, List.mem_map]
  constructor
  · rintro ⟨i, hi, rfl⟩
    have := List.mem_range.mp hi
    omega
  · rintro ⟨h1, h2⟩
    exact ⟨c - 97, List.mem_range.mpr (by omega), by omega⟩
/-- a text of code points -/
abbrev Sx (l : List Nat) : Str := ⟨l.toArray⟩
theorem Sx_add (a b : List Nat) : Sx a ++ Sx b = Sx (a ++ b) := by
  show (⟨a.toArray ++ b.toArray⟩ : Str) = _
  simp
theorem Sx_len (a : List Nat) : (Sx a).length = a.length := rfl
theorem Sx_of (z : Str) : Sx z.cps.toList = z := rfl
theorem Sx_inj {a b : List Nat} (h : Sx a = Sx b) : a = b := by
  have := congrArg (fun z => z.cps.toList) h
  simpa using this
/-- a word: one to eight small letters -/
def Wd (w : Str) : Prop := 1 ≤ w.length ∧ w.length ≤ 8 ∧ ∀ c ∈ w.cps.toList, c ∈ lets
def codes (st : List Nat) (at_ f s i : Nat) : List Nat := st.take at_ ++ ((97 + (f + s * i) % 26) :: st.drop at_) ++ (if i % 3 = 2 then [113] else [])
theorem codes_len (st : List Nat) (at_ f s i : Nat) : (codes st at_ f s i).length = st.length + 1 + (if i % 3 = 2 then 1 else 0) := by
  unfold codes
  rw [List.length_append, List.length_append, List.length_cons]
  have := congrArg List.length (List.take_append_drop at_ st)
  rw [List.length_append] at this
  split <;> simp <;> omega
theorem codes_wd {st : List Nat} {at_ f s i : Nat} (h : st.length ≤ 4) (hm : ∀ c ∈ st, c ∈ lets) : Wd (Sx (codes st at_ f s i)) := by
  have hl := codes_len st at_ f s i
  refine ⟨?_, ?_, fun c hc => ?_⟩
  · rw [Sx_len, hl]; omega
  · rw [Sx_len, hl]
    split <;> omega
  · have hc : c ∈ codes st at_ f s i := hc
    unfold codes at hc
    rcases List.mem_append.mp hc with z | z
    · rcases List.mem_append.mp z with z | z
      · exact hm c (List.mem_of_mem_take z)
      · rcases List.mem_cons.mp z with z | z
        · rw [lets_mem, z]; omega
        · exact hm c (List.mem_of_mem_drop z)
    · split at z
      · rw [List.mem_singleton.mp z, lets_mem]; decide
      · cases z
def Step (s : Nat) : Prop := s = 1 ∨ s = 3 ∨ s = 5 ∨ s = 7 ∨ s = 9 ∨ s = 11
theorem step_inj {s f i j : Nat} (hs : Step s) (hi : i < 26) (hj : j < 26) (h : (f + s * i) % 26 = (f + s * j) % 26) : i = j := by
  rcases hs with rfl | rfl | rfl | rfl | rfl | rfl <;> omega
theorem codes_inj {st : List Nat} {at_ f s i j : Nat} (hs : Step s) (hi : i < 26) (hj : j < 26) (h : codes st at_ f s i = codes st at_ f s j) : i = j := by
  have hl := congrArg List.length h
  rw [codes_len, codes_len] at hl
  have hq : (if i % 3 = 2 then [113] else ([] : List Nat)) = (if j % 3 = 2 then [113] else []) := by
    by_cases c1 : i % 3 = 2 <;> by_cases c2 : j % 3 = 2 <;> simp [c1, c2] at hl ⊢
  unfold codes at h
  rw [hq] at h
  have h1 := List.append_cancel_right h
  have h2 := List.append_cancel_left h1
  exact step_inj (f := f) hs hi hj (by have := List.head_eq_of_cons_eq h2; omega)
/-- the words drawn: m of them -/
def words (st : List Nat) (at_ f s m : Nat) : List Str := (List.range m).map fun i => Sx (codes st at_ f s i)
theorem words_len (st : List Nat) (at_ f s m : Nat) : (words st at_ f s m).length = m := by
  simp [words]
theorem words_wd {st : List Nat} {at_ f s m : Nat} (h : st.length ≤ 4) (hm : ∀ c ∈ st, c ∈ lets) : ∀ w ∈ words st at_ f s m, Wd w := by
  intro w hw
  obtain ⟨i, _, rfl⟩ := List.mem_map.mp hw
  exact codes_wd h hm
theorem words_nodup {st : List Nat} {at_ f s m : Nat} (hs : Step s) (hm : m ≤ 26) : (words st at_ f s m).Nodup := by
  refine List.Pairwise.map _ (R := fun i j => i ∈ List.range m ∧ j ∈ List.range m ∧ i ≠ j) (fun i j ⟨h1, h2, h3⟩ e => h3 ?_) ?_
  · have := List.mem_range.mp h1
    have := List.mem_range.mp h2
    exact codes_inj hs (by omega) (by omega) (Sx_inj e)
  · exact (List.pairwise_iff_forall_sublist.mpr fun {a b} sub => ⟨sub.subset (by simp), sub.subset (by simp), by
      have := (List.nodup_range (n := m)).sublist sub
      simpa using this⟩)
theorem words_at {st : List Nat} {at_ f s m i : Nat} (h : i < m) : (words st at_ f s m)[i]? = some (Sx (codes st at_ f s i)) := by
  simp [words, h]
/-- one sign of code c -/
abbrev sg (c : Nat) : Str := ⟨#[c]⟩
theorem joinL_nil : ∀ cs : List Nat, TL.joinL [] (cs.map fun c => [c]) = cs
  | [] => rfl
  | [_] => rfl
  | a :: b :: r => by
    have ih := joinL_nil (b :: r)
    show [a] ++ ([] ++ TL.joinL [] ((b :: r).map fun c => [c])) = _
    rw [ih]
    rfl
theorem join_signs (cs : List Nat) : Txt.join "" (cs.map sg) = Sx cs := by
  have e : ("" : Str) = Sx [] := rfl
  have e2 : cs.map sg = (cs.map fun c => [c]).map Sx := by rw [List.map_map]; rfl
  rw [e, e2]
  have h := SX.join_S [] (cs.map fun c => [c])
  rw [joinL_nil] at h
  exact h
theorem signs_sum : ∀ cs : List Nat, ((cs.map sg).map (·.length)).sum = cs.length
  | [] => rfl
  | c :: cs => by
    rw [List.map_cons, List.map_cons, List.sum_cons, signs_sum cs, List.length_cons]
    show 1 + cs.length = _
    omega
theorem cut_to {st : List Nat} {k : Nat} (h : k ≤ st.length) : cutS (Sx st) none (some (k : Int)) = Sx (st.take k) := by
  unfold cutS
  rw [HT.sIx_none, HT.sIx_nat, Sx_len, Nat.min_eq_left h]
  simp
theorem cut_from {st : List Nat} {k : Nat} (h : k ≤ st.length) : cutS (Sx st) (some (k : Int)) none = Sx (st.drop k) := by
  unfold cutS
  rw [HT.sIx_none, HT.sIx_nat, Sx_len, Nat.min_eq_left h]
  have e : List.take (st.length - k) (List.drop k st) = List.drop k st := List.take_of_length_le (by rw [List.length_drop]; exact Nat.le_refl _)
  simp [e]
def codes0 (st : List Nat) (at_ f s i : Nat) : List Nat := st.take at_ ++ ((97 + (f + s * i) % 26) :: st.drop at_)
def qs (i : Nat) : List Nat := if i % 3 = 2 then [113] else []
theorem codes_q (st : List Nat) (at_ f s i : Nat) : codes st at_ f s i = codes0 st at_ f s i ++ qs i := rfl
def words0 (st : List Nat) (at_ f s m : Nat) : List Str := (List.range m).map fun i => Sx (codes0 st at_ f s i)
theorem words_succ (st : List Nat) (at_ f s m : Nat) : words st at_ f s (m + 1) = words st at_ f s m ++ [Sx (codes st at_ f s m)] := by
  simp [words, List.range_succ]
theorem words0_succ (st : List Nat) (at_ f s m : Nat) : words0 st at_ f s (m + 1) = words0 st at_ f s m ++ [Sx (codes0 st at_ f s m)] := by
  simp [words0, List.range_succ]
theorem words0_len (st : List Nat) (at_ f s m : Nat) : (words0 st at_ f s m).length = m := by
  simp [words0]
theorem words0_at {st : List Nat} {at_ f s m i : Nat} (h : i < m) : (words0 st at_ f s m)[i]? = some (Sx (codes0 st at_ f s i)) := by
  simp [words0, h]
theorem codes0_len (st : List Nat) (at_ f s i : Nat) : (codes0 st at_ f s i).length = st.length + 1 := by
  unfold codes0
  rw [List.length_append, List.length_cons]
  have := congrArg List.length (List.take_append_drop at_ st)
  rw [List.length_append] at this
  omega
theorem mod26 (f s i : Nat) : ((f : Int) + (s : Int) * (0 + (i : Int))).fmod 26 = (((f + s * i) % 26 : Nat) : Int) := by
  rw [Int.fmod_eq_emod_of_nonneg _ (by decide), Int.zero_add]
  omega
theorem mod3 (i : Nat) : (0 + (i : Int)).fmod 3 = ((i % 3 : Nat) : Int) := by
  rw [Int.fmod_eq_emod_of_nonneg _ (by decide), Int.zero_add]
  omega
theorem made0_eq {st : List Nat} {a f s i : Nat} (h : a ≤ st.length) : (cutS (Sx st) none (some (a : Int)) ++ sg (97 + (f + s * i) % 26)) ++ cutS (Sx st) (some (a : Int)) none = Sx (codes0 st a f s i) := by
  rw [cut_to h, cut_from h]
  have e : sg (97 + (f + s * i) % 26) = Sx [97 + (f + s * i) % 26] := rfl
  rw [e, Sx_add, Sx_add, List.append_assoc]
  rfl
theorem q_eq (i : Nat) : repS "q" (if (decide (V.int ((0 + (i : Int)).fmod 3) = V.int 2)) = true then 1 else 0) = Sx (qs i) := by
  rw [mod3]
  unfold qs
  by_cases h : i % 3 = 2
  · rw [if_pos h, h]
    have e : V.int ((2 : Nat) : Int) = V.int 2 := rfl
    rw [if_pos (decide_eq_true e)]
    rfl
  · have e : ¬ V.int ((i % 3 : Nat) : Int) = V.int 2 := fun z => h (by have := V.int.inj z; omega)
    rw [if_neg h, decide_eq_false e, if_neg Bool.false_ne_true]
    rfl
theorem pick_step {jj : Nat} {x : V} (h : ([.int 1, .int 3, .int 5, .int 7, .int 9, .int 11] : List V)[jj]? = some x) : ∃ s : Nat, x = .int (s : Int) ∧ Step s := by
  match jj, h with
  | 0, h => cases h; exact ⟨1, rfl, .inl rfl⟩
  | 1, h => cases h; exact ⟨3, rfl, .inr (.inl rfl)⟩
  | 2, h => cases h; exact ⟨5, rfl, .inr (.inr (.inl rfl))⟩
  | 3, h => cases h; exact ⟨7, rfl, .inr (.inr (.inr (.inl rfl)))⟩
  | 4, h => cases h; exact ⟨9, rfl, .inr (.inr (.inr (.inr (.inl rfl))))⟩
  | 5, h => cases h; exact ⟨11, rfl, .inr (.inr (.inr (.inr (.inr rfl))))⟩
  | k + 6, h => exact nomatch h
theorem Step.le {s : Nat} (h : Step s) : s ≤ 11 := by
  rcases h with rfl | rfl | rfl | rfl | rfl | rfl <;> decide
end Oc
set_option Elab.async false
set_option linter.all false
set_option maxRecDepth 100000
set_option maxHeartbeats 4000000
namespace Oc
open PySem PySem.Spec PyProof.Rows L2
/-! ### plain data (no dicts) and the pen's dict; lists without one item -/
section
variable {K : PySem.W.Frag} {H H' : Hp}
mutual
theorem Dp.butD {p : Addr} {kvs : List (Key × V)} (hp : H p = some (.dK kvs)) (b : ∀ c o, H c = some o → c ≠ p → H' c = some o) : ∀ (d : PyData) (v : V), Dp K H v d → Dp K H' v d
  | .none, _, h => by cases h; exact .non
  | .bool b, _, h => by cases h; exact .bl b
  | .int i, _, h => by cases h; exact .int i
  | .str x, _, h => by cases h; exact .str x
  | .list ds, _, h => by
    cases h with
    | lst a q =>
      refine .lst ?_ (DpAll.butD hp b ds _ q)
      rcases a with (a | ⟨o, a⟩) | a
      · exact .inl (.inl (b _ _ a (ne_of a hp (by intro z; cases z))))
      · exact .inl (.inr ⟨o, b _ _ a (ne_of a hp (by intro z; cases z))⟩)
      · exact .inr a
  | .tuple ds, _, h => by
    cases h with
    | tup a q =>
      refine .tup ?_ (DpAll.butD hp b ds _ q)
      rcases a with (a | ⟨o, a⟩) | a
      · exact .inl (.inl (b _ _ a (ne_of a hp (by intro z; cases z))))
      · exact .inl (.inr ⟨o, b _ _ a (ne_of a hp (by intro z; cases z))⟩)
      · exact .inr a
  | .dict ds, _, h => by cases h
theorem DpAll.butD {p : Addr} {kvs : List (Key × V)} (hp : H p = some (.dK kvs)) (b : ∀ c o, H c = some o → c ≠ p → H' c = some o) : ∀ (ds : List PyData) (vs : List V), DpAll K H vs ds → DpAll K H' vs ds
  | [], _, h => by cases h; exact .nil
  | d :: ds, _, h => by
    cases h with
    | cons q r => exact .cons (Dp.butD hp b d _ q) (DpAll.butD hp b ds _ r)
end
theorem DpAll.erase : ∀ {xs : List V} {ds : List PyData} (k : Nat), DpAll K H xs ds → DpAll K H (xs.eraseIdx k) (ds.eraseIdx k)
  | [], _, k, h => by cases h; exact .nil
  | x :: xs, _, k, h => by
    cases h with
    | cons q r =>
      cases k with
      | zero => exact r
      | succ k => exact .cons q (DpAll.erase k r)
theorem DpAll.len : ∀ {xs : List V} {ds : List PyData}, DpAll K H xs ds → xs.length = ds.length
  | [], _, h => by cases h; rfl
  | x :: xs, _, h => by
    cases h with
    | cons q r => rw [List.length_cons, List.length_cons, DpAll.len r]
theorem DpAll.strs : ∀ ws : List Str, DpAll K H (ws.map V.str) (ws.map PyData.str)
  | [] => .nil
  | w :: ws => .cons (.str w) (DpAll.strs ws)
end
/-- data that a list of may be compared -/
def Sm (d : PyData) : Prop := d.canLay0 = true ∧ d.depth ≤ 60
theorem sm_list : ∀ {ds : List PyData}, (∀ d ∈ ds, Sm d) → PyData.canLayAll0 ds = true ∧ PyData.depthAll ds ≤ 60
  | [], _ => ⟨rfl, by decide⟩
  | d :: ds, h => by
    obtain ⟨h1, h2⟩ := sm_list (ds := ds) fun e he => h e (List.mem_cons_of_mem _ he)
    obtain ⟨h3, h4⟩ := h d (List.mem_cons_self ..)
    refine ⟨by simp [PyData.canLayAll0, h1, h3], ?_⟩
    simp only [PyData.depthAll]
    omega
theorem shaped_list {ds : List PyData} (h : ∀ d ∈ ds, Sm d) : SeqAt.shaped (.list ds) = true := by
  obtain ⟨h1, h2⟩ := sm_list h
  have h3 : PyData.depth (.list ds) ≤ 64 := by
    simp only [PyData.depth]
    omega
  simp only [SeqAt.shaped, PyData.canLay0, h1, Bool.true_and]
  exact decide_eq_true h3
theorem eqv_nil_nil : PyData.eqv (.list []) (.list []) = true := by kernel_rfl
theorem eqv_cons_nil (d : PyData) (ds : List PyData) : PyData.eqv (.list (d :: ds)) (.list []) = false := by
  simp [PyData.eqv, PyData.eqvAll]
theorem sm_str (x : Str) (h : PyData.canLay0 (.str x) = true) : Sm (.str x) := ⟨h, by simp [PyData.depth]⟩
theorem erase_perm {ls : List V} {j : Nat} (hj : j < ls.length) : (ls[j] :: ls.eraseIdx j).Perm ls := by
  rw [List.eraseIdx_eq_take_drop_succ]
  have e : ls = ls.take j ++ ls[j] :: ls.drop (j + 1) := by
    rw [← List.drop_eq_getElem_cons hj, List.take_append_drop]
  have h := (List.perm_middle (a := ls[j]) (l₁ := ls.take j) (l₂ := ls.drop (j + 1))).symm
  rw [← e] at h
  exact h
theorem perm_step {xs fs ls : List V} {j : Nat} (hj : j < ls.length) (h : (fs ++ ls).Perm xs) : ((fs ++ [ls[j]]) ++ ls.eraseIdx j).Perm xs := by
  refine List.Perm.trans ?_ h
  rw [List.append_assoc]
  exact List.Perm.append_left fs (erase_perm hj)
end Oc
set_option Elab.async false
set_option linter.all false
set_option maxRecDepth 100000
set_option maxHeartbeats 4000000
namespace Oc
open PySem PySem.Spec PyProof.Rows L2
/-! ### pairs of lists; drawn schemas as they stand in the heap -/
def All2 {α β : Type} (R : α → β → Prop) : List α → List β → Prop
  | [], [] => True
  | x :: xs, y :: ys => R x y ∧ All2 R xs ys
  | _, _ => False
section
variable {α β : Type} {R S : α → β → Prop}
theorem All2.mono (h : ∀ x y, R x y → S x y) : ∀ {xs : List α} {ys : List β}, All2 R xs ys → All2 S xs ys
  | [], [], _ => trivial
  | _ :: _, _ :: _, ⟨a, b⟩ => ⟨h _ _ a, b.mono h⟩
  | [], _ :: _, z => z.elim
  | _ :: _, [], z => z.elim
theorem All2.len : ∀ {xs : List α} {ys : List β}, All2 R xs ys → xs.length = ys.length
  | [], [], _ => rfl
  | _ :: _, _ :: _, ⟨_, b⟩ => by rw [List.length_cons, List.length_cons, b.len]
  | [], _ :: _, z => z.elim
  | _ :: _, [], z => z.elim
theorem All2.snoc {x : α} {y : β} (h : R x y) : ∀ {xs : List α} {ys : List β}, All2 R xs ys → All2 R (xs ++ [x]) (ys ++ [y])
  | [], [], _ => ⟨h, trivial⟩
  | _ :: _, _ :: _, ⟨a, b⟩ => ⟨a, b.snoc h⟩
  | [], _ :: _, z => z.elim
  | _ :: _, [], z => z.elim
theorem All2.get : ∀ {xs : List α} {ys : List β} {i : Nat} {x : α}, All2 R xs ys → xs[i]? = some x → ∃ y, ys[i]? = some y ∧ R x y
  | [], [], _, _, _, e => nomatch e
  | _ :: _, y :: _, 0, _, ⟨a, _⟩, e => by
    cases e
    exact ⟨y, rfl, a⟩
  | _ :: _, _ :: _, i + 1, _, ⟨_, b⟩, e => All2.get (i := i) b e
  | [], _ :: _, _, _, z, _ => z.elim
  | _ :: _, [], _, _, z, _ => z.elim
theorem All2.get2 : ∀ {xs : List α} {ys : List β} {i : Nat} {y : β}, All2 R xs ys → ys[i]? = some y → ∃ x, xs[i]? = some x ∧ R x y
  | [], [], _, _, _, e => nomatch e
  | x :: _, _ :: _, 0, _, ⟨a, _⟩, e => by
    cases e
    exact ⟨x, rfl, a⟩
  | _ :: _, _ :: _, i + 1, _, ⟨_, b⟩, e => All2.get2 (i := i) b e
  | [], _ :: _, _, _, z, _ => z.elim
  | _ :: _, [], _, _, z, _ => z.elim
end
def unS : V → Str | .str s => s | _ => ""
theorem strs_perm {ys : List V} {ws : List Str} (h : ys.Perm (ws.map V.str)) : ∃ us : List Str, ys = us.map V.str ∧ us.Perm ws := by
  refine ⟨ys.map unS, ?_, ?_⟩
  · rw [List.map_map]
    have e : ∀ y ∈ ys, (V.str ∘ unS) y = y := fun y hy => by
      obtain ⟨s, _, rfl⟩ := List.mem_map.mp (h.mem_iff.mp hy)
      rfl
    exact (List.map_id'' (fun y => rfl) ys ▸ (List.map_congr_left e)).symm
  · have h2 := h.map unS
    rw [List.map_map] at h2
    have e : ws.map (unS ∘ V.str) = ws := by
      have : (unS ∘ V.str) = id := rfl
      rw [this, List.map_id]
    rw [e] at h2
    exact h2
theorem cut_take (xs : List V) (k : Nat) : cutV xs none (some (k : Int)) = xs.take k := by
  unfold cutV
  rw [HT.sIx_none, HT.sIx_nat]
  simp [List.take_eq_take_iff]
theorem cut_mid (xs : List V) (i k : Nat) (h : k ≤ xs.length) : cutV xs (some (i : Int)) (some (k : Int)) = (xs.drop i).take (k - i) := by
  unfold cutV
  rw [HT.sIx_nat, HT.sIx_nat, Nat.min_eq_left h]
  by_cases hi : i ≤ xs.length
  · rw [Nat.min_eq_left hi]
  · rw [Nat.min_eq_right (by omega), List.drop_eq_nil_of_le (by omega : xs.length ≤ i), List.drop_length]
    simp
/-- a column: its word, its marks or none -/
abbrev Col := Str × Option (List Str)
abbrev Plain := Str × List Col
def MkAt (H : Hp) (m : V) : Option (List Str) → Prop
  | none => m = .non
  | some ms => ∃ b, m = .ref b ∧ H b = some (.tup (ms.map V.str))
def ColAt (H : Hp) (v : V) (c : Col) : Prop := ∃ a m, v = .ref a ∧ H a = some (.tup [.str c.1, m]) ∧ MkAt H m c.2
def PlainAt (H : Hp) (v : V) (t : Plain) : Prop := ∃ a l vs, v = .ref a ∧ H a = some (.tup [.str t.1, .ref l]) ∧ H l = some (.lst vs) ∧ All2 (ColAt H) vs t.2
/-- the same, its list of columns not the one at f -/
def PlainOff (f : Addr) (H : Hp) (v : V) (t : Plain) : Prop := ∃ a l vs, v = .ref a ∧ H a = some (.tup [.str t.1, .ref l]) ∧ H l = some (.lst vs) ∧ l ≠ f ∧ All2 (ColAt H) vs t.2
theorem PlainOff.at_ {f : Addr} {H : Hp} {v : V} {t : Plain} (h : PlainOff f H v t) : PlainAt H v t := by
  obtain ⟨a, l, vs, h1, h2, h3, _, h4⟩ := h
  exact ⟨a, l, vs, h1, h2, h3, h4⟩
section
variable {H H' : Hp}
/-- tuples stand -/
def Tups (H H' : Hp) : Prop := ∀ a xs, H a = some (.tup xs) → H' a = some (.tup xs)
theorem Tups.same (s : Same H H') : Tups H H' := fun a xs e => s a _ e
theorem Tups.of {p f : Addr} {kvs : List (Key × V)} {ys : List V} (hp : H p = some (.dK kvs)) (hf : H f = some (.lst ys)) (b : ∀ c o, H c = some o → c ≠ p → c ≠ f → H' c = some o) : Tups H H' := fun a xs e =>
  b a _ e (ne_of e hp (by intro z; cases z)) (ne_of e hf (by intro z; cases z))
theorem MkAt.tups {m : V} {o : Option (List Str)} (h : MkAt H m o) (t : Tups H H') : MkAt H' m o := by
  cases o with
  | none => exact h
  | some ms =>
    obtain ⟨b, e, hb⟩ := h
    exact ⟨b, e, t _ _ hb⟩
theorem ColAt.tups {v : V} {c : Col} (h : ColAt H v c) (t : Tups H H') : ColAt H' v c := by
  obtain ⟨a, m, e, ha, hm⟩ := h
  exact ⟨a, m, e, t _ _ ha, hm.tups t⟩
theorem PlainOff.keep {f : Addr} {v : V} {t : Plain} (h : PlainOff f H v t) (u : Tups H H') (b : ∀ c xs, H c = some (.lst xs) → c ≠ f → H' c = some (.lst xs)) : PlainOff f H' v t := by
  obtain ⟨a, l, vs, e, ha, hl, nf, hc⟩ := h
  exact ⟨a, l, vs, e, u _ _ ha, b _ _ hl nf, nf, hc.mono fun _ _ z => z.tups u⟩
theorem PlainAt.keep {v : V} {t : Plain} (h : PlainAt H v t) (u : Tups H H') (b : ∀ c xs, H c = some (.lst xs) → H' c = some (.lst xs)) : PlainAt H' v t := by
  obtain ⟨a, l, vs, e, ha, hl, hc⟩ := h
  exact ⟨a, l, vs, e, u _ _ ha, b _ _ hl, hc.mono fun _ _ z => z.tups u⟩
end
def OkMarks (ms : List Str) : Prop := (ms.length = 2 ∨ ms.length = 3) ∧ (∀ m ∈ ms, Wd m) ∧ ms.Nodup
def OkCol (c : Col) : Prop := Wd c.1 ∧ ∀ ms, c.2 = some ms → OkMarks ms
def OkPlain (t : Plain) : Prop := Wd t.1 ∧ 1 ≤ t.2.length ∧ t.2.length ≤ 3 ∧ (∀ c ∈ t.2, OkCol c) ∧ (t.2.map Prod.fst).Nodup
end Oc
namespace Oc
open PySem PySem.Spec PyProof.Rows L2
theorem _root_.List.take_append_getElem? {α : Type} {l : List α} {i : Nat} {x : α} (h : l[i]? = some x) : l.take i ++ [x] = l.take (i + 1) := by
  rw [List.take_add_one, h]
  rfl
theorem sm_word {w : Str} (h : Wd w) : Sm (.str w) := by
  refine sm_str w ?_
  simp only [PyData.canLay0, PyData.strOk]
  rw [Array.all_eq_true']
  intro c hc
  have := lets_mem.mp (h.2.2 c (by simpa using hc))
  exact decide_eq_true (by omega)
theorem list11 {l : List Str} (h : l.length = 11) : ∃ a b c d e f g i j k m, l = [a, b, c, d, e, f, g, i, j, k, m] := by
  match l, h with
  | [a, b, c, d, e, f, g, i, j, k, m], _ => exact ⟨a, b, c, d, e, f, g, i, j, k, m, rfl⟩
end Oc
set_option Elab.async false
set_option linter.all false
set_option maxRecDepth 100000
set_option maxHeartbeats 8000000
/-! set(xs) of texts, any number of them; len(set(xs)) -/
namespace Os
open PySem PySem.Spec PyProof.Rows
def stepS (σ : List Str) (v : Str) : List Str := if σ.any (· == v) = true then σ else σ ++ [v]
/-- the texts as they are met first -/
def fm (xs : List Str) : List Str := xs.foldl stepS []
theorem fm_snoc (xs : List Str) (x : Str) : fm (xs ++ [x]) = stepS (fm xs) x := by
  unfold fm
  rw [List.foldl_append]
  rfl
theorem fm_take {xs : List Str} {i : Nat} (h : i < xs.length) : fm (xs.take (i + 1)) = stepS (fm (xs.take i)) (xs.getD i Str.empty) := by
  have e : xs[i]? = some (xs.getD i Str.empty) := by
    rw [List.getD_eq_getElem?_getD, List.getElem?_eq_getElem h]
    rfl
  rw [← List.take_append_getElem? e, fm_snoc]
theorem stepS_any (σ : List Str) (v k : Str) : (stepS σ v).any (· == k) = (σ.any (· == k) || decide (k = v)) := by
  unfold stepS
  by_cases e : k = v
  · rw [decide_eq_true e, Bool.or_true, e]
    by_cases h : σ.any (· == v) = true
    · rw [if_pos h, h]
    · rw [if_neg h, List.any_append]
      simp
  · have hb : (v == k) = false := beq_eq_false_iff_ne.mpr fun z => e z.symm
    rw [decide_eq_false e, Bool.or_false]
    split
    · rfl
    · rw [List.any_append]
      simp [hb]
theorem stepS_len (σ : List Str) (v : Str) : (stepS σ v).length = if σ.any (· == v) = true then σ.length else σ.length + 1 := by
  unfold stepS
  split <;> simp
theorem fm_le (xs : List Str) : (fm xs).length ≤ xs.length := by
  have h : ∀ (ys σ : List Str), (ys.foldl stepS σ).length ≤ σ.length + ys.length := by
    intro ys
    induction ys with
    | nil => intro σ; exact Nat.le_refl _
    | cons y ys ih =>
      intro σ
      have h1 := ih (stepS σ y)
      have h2 := stepS_len σ y
      rw [List.foldl_cons, List.length_cons]
      split at h2 <;> omega
  have := h xs []
  simpa [fm] using this
section
variable {prog : Program} {w : World} {A : Around} {R : Result → Shared → Prop} {It : Addr} {fp wr : List Addr} {G : Array GenState → Array GenState → Prop} {n : Nat} {Pv : Nat → Value → Prop} {St : Nat → Shared → Prop}
abbrev Held (prog : Program) (w : World) (h : Heap) (S : Addr) (ys : List Str) : Prop := h.SetOf (PySem.strKind prog w) S (fun k' => ys.any (· == k')) ys.length
theorem Held.move {h h' : Heap} {S : Addr} {ys : List Str} (x : Held prog w h S ys) (k : ∀ o, h.get? S = some o → h'.get? S = some o) : Held prog w h' S ys := by
  obtain ⟨o, es, ep, t, ho, rest⟩ := x
  exact ⟨o, es, ep, t, k o ho, rest⟩
theorem loopT (W : WalksS prog w A.in1 It fp wr G n Pv St) (S : Addr) (out : S ∉ fp) (xs : List Str) (len : xs.length = n) (few : n + 1 < scanBound) (val : ∀ i v, Pv i v → ∃ t, v = .str (xs.getD i Str.empty) t) :
    ∀ (k i : Nat) (s : Shared), n - i = k → i ≤ n → St i s → Held prog w s.heap S (fm (xs.take i)) → (∀ s', Moved (S :: wr) G s s' → Held prog w s'.heap S (fm (xs.take n)) → R (.ok (.ret .none)) s') →
      codeAny (model prog w) A (.builtin "set.update.loop" ⟨[.ref S, .ref It], []⟩) R s := by
  have noW : S ∉ wr := fun z => out (W.sub _ z)
  have wider : ∀ b ∈ wr, b ∈ S :: wr := fun b z => List.mem_cons_of_mem _ z
  intro k
  induction k with
  | zero =>
    intro i s hk hi st held after
    obtain rfl : i = n := by omega
    refine codeAny_builtin PyProof.Rows.F.entry_set_update_loop (by
      rw [Around.under_plainId PyProof.Rows.F.plain_set_update_loop _]
      show wpAny _ A.in1 (pyNext (.ref It) >>= _) _ _ s
      refine wpAny_bind (W.done s _ _ st fun s' mv => (by
        show wpAny _ A.in1 (ret Value.none) _ _ s'
        exact wpAny_pure (after s' (mv.mono wider) (held.move fun o e => mv.heap S _ noW e)))))
  | succ k ih =>
    intro i s hk hi st held after
    have lt : i < n := by omega
    refine codeAny_builtin PyProof.Rows.F.entry_set_update_loop (by
      rw [Around.under_plainId PyProof.Rows.F.plain_set_update_loop _]
      show wpAny _ A.in1 (pyNext (.ref It) >>= _) _ _ s
      refine wpAny_bind (W.item i s _ _ lt st fun v s1 hv st1 mv => ?_)
      obtain ⟨t, rfl⟩ := val i v hv
      have held1 : Held prog w s1.heap S (fm (xs.take i)) := held.move fun o e => mv.heap S _ noW e
      show wpAny _ A.in1 (holding [Value.str (xs.getD i Str.empty) t] (setAdd S (.str (xs.getD i Str.empty) t)) >>= _) _ _ s1
      refine wpAny_bind (wpAny_holding (by
        unfold setAdd
        refine wpAny_holding (wpAny_bind ((PySem.strKind prog w).pyHash (k := xs.getD i Str.empty) (strKind_is _ _ _ _) ?_))
        have room : (fm (xs.take i)).length + 1 < scanBound := by
          have := fm_le (xs.take i)
          rw [List.length_take] at this
          omega
        refine wpAny_setAddHashed_of (knd := PySem.strKind prog w) (s := { s1 with toks := s1.toks + 1 }) (strKind_is _ _ _ _) rfl held1 room fun h2 sb set2 => ?_
        have held2 : Held prog w h2 S (fm (xs.take (i + 1))) := PyProof.Rows.SetOf_congr set2 (fun k' => by rw [fm_take (by omega), stepS_any]) (by rw [fm_take (by omega), stepS_len])
        have same2 : ∀ b, b ≠ S → ∀ o, s1.heap.get? b = some o → h2.get? b = some o := fun b nb o e => by
          rw [sb.2 b nb]
          exact e
        refine wpAny_pure ⟨plainId_quiet PyProof.Rows.F.plain_set_update_loop _, ih (i + 1) _ (by omega) lt (W.frame _ s1 _ _ st1 (Nat.le_succ _) fun b hb o e => same2 b (fun z => out (z ▸ hb)) o e) held2 fun s3 mv3 held3 => ?_⟩
        exact after s3 (Moved.trans W.gtrans ((mv.mono wider).then_heap (Nat.le_succ _) fun b o hb e => same2 b (fun z => hb (z ▸ List.mem_cons_self)) o e) mv3) held3)))
end
abbrev setO (led : Bool) : Obj := { cls := .type "set", dict := none, data := .set #[] 0 (.fresh 0 0 led) }
section
variable {prog : Program} {w : World} {A : Around} {E : Value → Shared → Prop} {s : Shared}
theorem set_texts {l : Addr} {items : Array Value} {xs : List Str} {Q : Value → Shared → Prop} (hh : A.handled = none) (hl : s.heap.IsList l items) (hi : StrsAre items.toList xs) (few : xs.length + 1 < scanBound)
    (h : ∀ (h' : Heap) (tk : Nat), Held prog w h' s.heap.objs.size (fm xs) → (∀ b o, b < s.heap.objs.size → s.heap.get? b = some o → h'.get? b = some o) → Q (.ref s.heap.objs.size) { s with heap := h', toks := tk }) :
    wpAny (model prog w) A (call (.type "set") [.ref l]) Q E s := by
  obtain ⟨c, tl, hmro⟩ := PySem.F.called_set.mro
  have f1 := PySem.F.called_set.made; have f2 := PySem.F.called_set.sub; have f3 := PySem.F.called_set.notType; have f4 := PySem.F.called_set.canCreate; have f5 := PySem.F.typeCall_set_1 (.ref l)
  refine wpAny_call (codeAny_of_tree (by
    show wpAny _ _ (callAny (.type "set") _) _ _ _
    refine wpAny_pure ⟨Code.quiet_builtin _ (by decide +kernel), codeAny_builtin PySem.F.entry_type_call (by
      rw [Around.under_plain (weight_type_call_type "set" [.ref l] []) rfl]
      repeat (any_goals (first | assumption | wp_step))
      refine codeAny_mono (code_set_new_1 (.ref l) (E := E) (Q₁ := fun obj s1 => ∃ led : Bool, obj = .ref s.heap.objs.size ∧ s1 = { s with heap := s.heap.push (setO led) }) fun led => ⟨led, rfl, rfl⟩) fun r s1 hr => ?_
      cases r with
      | error e => exact hr
      | ok fl =>
        cases fl with
        | ret obj =>
          obtain ⟨led, rfl, rfl⟩ := hr
          have at0 : (s.heap.push (setO led)).get? s.heap.objs.size = some (setO led) := Heap.get?_push_size _ rfl
          have ty0 : Shared.TypeIs { s with heap := s.heap.push (setO led) } (.ref s.heap.objs.size) "set" := ⟨_, at0, rfl⟩
          have g1 := PySem.F.called_set.init.lookup; have g2 := PySem.F.called_set.init.bind (.ref s.heap.objs.size)
          repeat (any_goals (first | assumption | wp_step))
          refine codeAny_mono (codeAny_call_builtin (R := wants (fun r s2 => r = .none ∧ ∃ h' tk, s2 = { s with heap := h', toks := tk } ∧ Held prog w h' s.heap.objs.size (fm xs) ∧ ∀ b o, b < s.heap.objs.size → s.heap.get? b = some o → h'.get? b = some o) E) PySem.F.called_set.init.plain PySem.F.entry_set_init (check_set_init_1 ty0 ?_)) fun r2 s2 hr2 => ?_
          · obtain ⟨⟨lcls, ldict, ldata, lslots⟩, hol, hcl, nl, hdl⟩ := hl
            simp only at hcl hdl
            subst hcl; subst hdl
            have hol1 : (s.heap.push (setO led)).get? l = some { cls := .type "list", dict := ldict, data := .seq items nl, slots := lslots } := Heap.get?_push_of_some _ hol
            have k1 := PySem.F.sub_list_set; have k2 := PySem.F.sub_list_frozenset
            have k3 : (Value.type "list" == Value.type "dict") = false := by decide
            have hl1 : (s.heap.push (setO led)).IsList l items := ⟨_, hol1, rfl, nl, rfl⟩
            unfold Builtin.«set.__init__» noKeywords Builtin.Frozenset.updateFrom
            generalize hPI : pyIter = PI
            wp_walk
            subst hPI
            have lS : l < s.heap.objs.size := Heap.lt_size hol
            have sz : (s.heap.push (setO led)).objs.size = s.heap.objs.size + 1 := Heap.size_push ..
            refine wpAny_pyIter_list hl1 (wpAny_bind (wpAny_runValue ?_))
            have nI : l ≠ (s.heap.push (setO led)).objs.size := by rw [sz]; exact Nat.ne_of_lt (Nat.lt_succ_of_lt lS)
            have nS : s.heap.objs.size ∉ [(s.heap.push (setO led)).objs.size, l] := by
              rw [sz]
              simp only [List.mem_cons, List.not_mem_nil, or_false, not_or]
              refine ⟨Nat.ne_of_lt (Nat.lt_succ_self _), ?_⟩; exact Nat.ne_of_gt lS
            have len : xs.length = items.size := by rw [← StrsAre.len_eq hi, Array.length_toList]
            have full : xs.take items.size = xs := by rw [← len, List.take_length]
            refine loopT ((Walks.list (by simp [hh]) _ l nI items).toS) s.heap.objs.size nS xs len (by omega) (fun i v hv => SS.strs_at hi i v (by rw [Array.getElem?_toList]; exact hv)) (items.size - 0) 0 _ (by omega) (Nat.zero_le _) ⟨⟨_, Heap.get?_push_size _ rfl, rfl, rfl⟩, hl1.push _⟩ ?hStart ?hEnd
            case hStart =>
              have at1 := Heap.get?_push_of_some ({ cls := .type "list_iterator", data := .fields #[.ref l, .int 0 0] } : Obj) at0
              exact PyProof.Rows.SetOf_congr ((PyProof.Rows.setObjOf_fresh (knd := PySem.strKind prog w) led).setOf at1 (by unfold scanBound; omega)) (fun _ => rfl) rfl
            case hEnd =>
              rintro ⟨h', g', d', tk', os'⟩ mv held
              obtain rfl : g' = s.gens := mv.gens
              obtain rfl : d' = s.drawn := mv.drawn
              obtain rfl : os' = s.os := mv.os
              rw [full] at held
              show wpAny _ _ _ _ _ _
              refine wpAny_pure (by
                show wpAny _ _ (ret Value.none) _ _ _
                refine wpAny_pure ⟨rfl, h', tk', rfl, held, fun b o hb e => mv.heap b o ?_ (Heap.get?_push_of_some _ (Heap.get?_push_of_some _ e))⟩
                rw [sz]
                simp only [List.mem_cons, List.not_mem_nil, or_false, not_or]
                refine ⟨Nat.ne_of_lt hb, ?_⟩; exact Nat.ne_of_lt (Nat.lt_succ_of_lt hb))
          · cases r2 with
            | error e => exact hr2
            | ok fl2 =>
              cases fl2 with
              | ret r =>
                obtain ⟨rfl, h', tk, rfl, held, keep⟩ := hr2
                repeat (any_goals (first | assumption | wp_step))
                exact h _ _ held keep
              | _ => exact hr2.elim
        | _ => exact hr.elim)⟩))
end
end Os
set_option Elab.async false
set_option linter.all false
set_option maxRecDepth 100000
set_option maxHeartbeats 4000000
namespace Os
open PySem PySem.Spec PyProof.Rows L2 Oc
theorem strs_of : ∀ {ys : List Str} {us : List Value}, Vals (ys.map V.str) us → StrsAre us ys
  | [], _, .nil => .nil
  | y :: _, _, .cons ⟨k, e⟩ t => by
    cases e
    exact .cons y k (strs_of t)
/-- the number of different texts in a list -/
def tDiff (K : PySem.W.Frag) (ta : TE) : TE := fun σ H Q => ta σ H fun x H1 => ∃ (l : Addr) (xs : List Str), x = .ref l ∧ SqL K H1 l (xs.map V.str) ∧ xs.length ≤ 4000 ∧ Q (.int ((fm xs).length : Nat)) H1
theorem pe_diff {X : Cx} {a : Expr} {ta : TE} {p p2 q pos : Pos} (gl : Gl X "len") (ml : X.mg "len" = none) (gs : Gl X "set") (ms : X.mg "set" = none) (ha : PE X a ta) (hc : X.calm = true := by rfl)
    (na : starEach [a] X.env = (false, eval a X.env) :: starEach [] X.env := by rfl) : PE X (.Call (.Name "len" p) [.Call (.Name "set" p2) [a] [] q] [] pos) (tDiff X.K ta) := by
  refine ⟨fun pins s σ H Q I h => Call_ (ld_blt I gl ml boot_len (callWith_builtin1 (args_cons (Call_ (ld_blt I gs ms boot_set (callWith_type1 (args_cons (thn (ha.run pins s σ H _ I h) fun v s1 ⟨x, H1, I1, r1, z⟩ => args_nil ?_) na) na rfl))) rfl) rfl rfl))⟩
  obtain ⟨l, xs, rfl, hq, few, z⟩ := z
  cases r1
  obtain ⟨its, r, pl, _⟩ := I1.list hq
  refine set_texts (I1.ok.hd hc) pl.isList (by simpa using strs_of r) (by unfold scanBound; omega) fun h2 tk held keep => args_nil ?_
  obtain ⟨o, es, ep, t, ho, hex, hd, _, _, _, hf, hn⟩ := held
  have J : Inv X pins σ H1 { s1 with heap := h2, toks := tk } := I1.kept fun b o e => keep b o (Heap.lt_size e) e
  have le := fm_le xs
  exact call_len_set ho hex hd hf (by rw [hn]; omega) ⟨.int ((fm xs).length : Nat), H1, J.tok _, ⟨_, by rw [hn]⟩, z⟩
theorem fm_mem : ∀ (xs : List Str) (k : Str), (fm xs).any (· == k) = xs.any (· == k) := by
  have h : ∀ (ys σ : List Str) (k : Str), (ys.foldl stepS σ).any (· == k) = (σ.any (· == k) || ys.any (· == k)) := by
    intro ys
    induction ys with
    | nil => intro σ k; simp
    | cons y ys ih =>
      intro σ k
      rw [List.foldl_cons, ih, stepS_any, List.any_cons, Bool.or_assoc]
      congr 2
      by_cases e : k = y
      · rw [e]; simp
      · rw [decide_eq_false e]; exact (beq_eq_false_iff_ne.mpr fun z => e z.symm).symm
  intro xs k
  have := h xs [] k
  simpa [fm] using this
/-- as many different ones as there are: no two are equal -/
theorem fm_all (xs : List Str) : (fm xs).length = xs.length ↔ xs.Nodup := by
  have h : ∀ n (xs : List Str), xs.length = n → ((fm xs).length = xs.length ↔ xs.Nodup) := by
    intro n
    induction n with
    | zero =>
      intro xs e
      rw [List.length_eq_zero_iff.mp e]
      exact ⟨fun _ => List.nodup_nil, fun _ => rfl⟩
    | succ n ih =>
      intro xs e
      obtain ⟨ys, y, rfl⟩ : ∃ ys y, xs = ys ++ [y] := ⟨xs.dropLast, xs.getLast (fun z => by rw [z] at e; cases e), (List.dropLast_concat_getLast _).symm⟩
      have ly : ys.length = n := by
        rw [List.length_append] at e
        exact Nat.succ.inj e
      have := ih ys ly
      rw [fm_snoc, stepS_len, fm_mem, List.length_append, List.length_singleton, List.nodup_append]
      have le := fm_le ys
      by_cases c : ys.any (· == y) = true
      · rw [if_pos c]
        obtain ⟨z, hz, ez⟩ := List.any_eq_true.mp c
        have ez := eq_of_beq ez
        subst ez
        refine ⟨fun z => by omega, fun z => absurd rfl (z.2.2 _ hz _ (List.mem_singleton.mpr rfl))⟩
      · rw [if_neg c]
        refine ⟨fun z => ⟨this.mp (by omega), by simp, fun a ha b hb => ?_⟩, fun z => by rw [this.mpr z.1]⟩
        rw [List.mem_singleton.mp hb]
        intro e
        exact c (List.any_eq_true.mpr ⟨a, ha, by rw [e]; simp⟩)
  exact h _ xs rfl
end Os
set_option Elab.async false
set_option linter.all false
set_option maxRecDepth 100000
set_option maxHeartbeats 4000000
/-! sorted(xs) of plain data that may be compared place by place (tuples of texts and lists, ..) -/
namespace Os
open PySem PySem.Spec PyProof.Rows L2 Oc
section
variable {X : Cx} {pins : List (Addr × Obj)} {σ : L2.St} {H : Hp} {s : Shared}
theorem each_rel : ∀ {xs : List V} {us : List Value} {ds : List PyData}, Vals xs us → DpAll X.K H xs ds → PySem.W.EachIs (fun v (b : V × PyData) => RelV b.1 v) us (xs.zip ds)
  | [], _, _, .nil, .nil => .nil
  | _ :: _, _, _, .cons r t, .cons d e => .cons r (each_rel t e)
theorem each_reads (I : Inv X pins σ H s) : ∀ {xs : List V} {us : List Value} {ds : List PyData}, Vals xs us → DpAll X.K H xs ds → PySem.W.EachIs (fun v (b : V × PyData) => ∃ as, Reads s.heap v b.2 as) us (xs.zip ds)
  | [], _, _, .nil, .nil => .nil
  | _ :: _, _, _, .cons r t, .cons d e => .cons (Dp.reads I _ _ _ d r) (each_reads I t e)
theorem vals_each : ∀ {us : List Value} {bs : List (V × PyData)}, PySem.W.EachIs (fun v (b : V × PyData) => RelV b.1 v) us bs → Vals (bs.map Prod.fst) us
  | _, _, .nil => .nil
  | _, _, .cons r t => .cons r (vals_each t)
theorem zip_snd : ∀ {xs : List V} {ds : List PyData}, DpAll X.K H xs ds → (xs.zip ds).map Prod.snd = ds
  | _, _, .nil => rfl
  | _, _, .cons _ e => by rw [List.zip_cons_cons, List.map_cons, zip_snd e]
end
def rSortD (K : PySem.W.Frag) : List V → Hp → VK → Prop := fun vs H Q => ∃ (a : Addr) (xs : List V) (ds : List PyData), vs = [.ref a] ∧ SqL K H a xs ∧ DpAll K H xs ds ∧ PySem.W.AllAlike ds ∧ PySem.W.Sortable ds ∧ (∀ d ∈ ds, d.depth ≤ 64) ∧
  ∀ p, H p = none → Q (.ref p) (upd H p (.lst (((xs.zip ds).mergeSort (PySem.W.dataLe false Prod.snd)).map Prod.fst)))
theorem call_sortD {X : Cx} (hu : X.A.units + 70 < cLine) : CallR X (.builtin "sorted") (rSortD X.K) := by
  intro pins s σ H vs us Q I r h
  obtain ⟨a, xs, ds, rfl, hs, hd, hal, hk, hdep, q⟩ := h
  obtain ⟨its, rv, hl, hz⟩ := I.list hs
  rw [Vals.ref1 r]
  have e2 := zip_snd hd
  have ln : (xs.zip ds).length = xs.length := by
    rw [List.length_zip, DpAll.len hd, Nat.min_self]
  have lx := rv.length
  refine PySem.W.sorted_data (bs := xs.zip ds) (enc := Prod.snd) (R := fun v b => RelV b.1 v) hl.isList (each_rel rv hd) (each_reads I rv hd) (by rw [e2]; exact hal) (by rw [e2]; exact hk) (by rw [ln]; exact hz) (fun b hb => ?_) fun out lo eo => ?_
  · have := hdep b.2 (e2 ▸ List.mem_map_of_mem hb)
    omega
  · obtain ⟨ep, he⟩ := PyProof.Rows.sortedAll_at s.heap its out.toArray
    refine ⟨.ref _, upd H (s.heap.objs.size + 1) (.lst (((xs.zip ds).mergeSort (PySem.W.dataLe false Prod.snd)).map Prod.fst)), I.laid (t' := s.toks) (fun _ _ => PyProof.Rows.sortedAll_old) (Nat.le_succ _) ⟨?_, out, ep, vals_each eo, he⟩, rfl, q _ (I.hok.fresh (Nat.le_succ _))⟩
    rw [List.length_map, List.length_mergeSort, ln]
    exact hz
end Os
set_option Elab.async false
set_option linter.all false
set_option maxRecDepth 100000
set_option maxHeartbeats 4000000
namespace Oc
open PySem PySem.Spec PyProof.Rows L2
/-! ### types of plain data; words by their datum -/
def tyD : PyData → String
  | .none => "NoneType" | .bool _ => "bool" | .int _ => "int" | .str _ => "str" | .list _ => "list" | .tuple _ => "tuple" | .dict _ => "dict"
theorem Dq.ty {K : PySem.W.Frag} {H : Hp} {v : V} : ∀ {d : PyData}, Dq K H v d → TyX K H v (.type (tyD d))
  | _, .non => .base .non
  | _, .bl b => .base (.bl b)
  | _, .int i => .base (.int i)
  | _, .str x => .base (.str x)
  | _, .lst (.inl (.inl e)) _ => .base (.lst e)
  | _, .lst (.inl (.inr ⟨_, e⟩)) _ => .base (.frz e)
  | _, .lst (.inr ⟨_, _, _, e, c, _⟩) _ => .kList e c
  | _, .tup (.inl (.inl e)) _ => .base (.tup e)
  | _, .tup (.inl (.inr ⟨_, e⟩)) _ => .fTuple e
  | _, .tup (.inr ⟨_, _, _, e, c, _⟩) _ => .kTuple e c
  | _, .dic (.inl e) _ => .base (.dK e)
  | _, .dic (.inr ⟨_, e⟩) _ => .fDict e
def tyNames : List String := ["NoneType", "bool", "int", "str", "list", "tuple", "dict"]
theorem tyD_in (d : PyData) : tyD d ∈ tyNames := by
  cases d <;> simp [tyD, tyNames]
theorem kit_names : ∀ t ∈ tyNames, ∀ c ∈ ["str", "tuple", "list"], kitB t c = some (t == c) := by decide +kernel
theorem kit_str {K : PySem.W.Frag} (d : PyData) : PySem.W.kitOne K (.type (tyD d)) (.type "str") = some (tyD d == "str") := kit_ty (kit_names _ (tyD_in d) _ (by simp))
theorem kit_tuple {K : PySem.W.Frag} (d : PyData) : PySem.W.kitOne K (.type (tyD d)) (.type "tuple") = some (tyD d == "tuple") := kit_ty (kit_names _ (tyD_in d) _ (by simp))
theorem kit_list {K : PySem.W.Frag} (d : PyData) : PySem.W.kitOne K (.type (tyD d)) (.type "list") = some (tyD d == "list") := kit_ty (kit_names _ (tyD_in d) _ (by simp))
theorem iteY {A B : Prop} {c : Bool} (e : c = true) (h : A) : if c = true then A else B := by
  rw [e]
  exact iteT h
theorem iteO {A B : Prop} {c : Bool} (e : c = false) (h : B) : if c = true then A else B := by
  rw [e]
  exact iteF h
def wdB (w : Str) : Bool := decide (1 ≤ w.length) && (decide (w.length ≤ 8) && w.cps.toList.all fun c => decide (c ∈ lets))
theorem wdB_iff {w : Str} : wdB w = true ↔ Wd w := by
  unfold wdB Wd
  rw [Bool.and_eq_true, Bool.and_eq_true, decide_eq_true_iff, decide_eq_true_iff, List.all_eq_true]
  simp only [decide_eq_true_iff]
def isWordD : PyData → Bool
  | .str w => wdB w
  | _ => false
def marksB (w : Str) : List Bool := w.cps.toList.map fun c => decide (c ∈ lets)
theorem marks_all (w : Str) : (marksB w).all id = w.cps.toList.all fun c => decide (c ∈ lets) := by
  unfold marksB
  rw [List.all_map]
  rfl
end Oc
set_option Elab.async false
set_option linter.all false
set_option maxRecDepth 100000
set_option maxHeartbeats 4000000
namespace Oc
open PySem PySem.Spec PyProof.Rows L2
/-- a dict comprehension over any walk -/
theorem dc_walk {J : It} {n : Nat} {G : Hp → Prop} {Y : Nat → Hp → V → Hp → Prop} (wk : Walk J n G Y) {g : TG} {tt : TT} {tk tv : TE} {vs : List Nat} {σ : L2.St} {H1 : Hp} {D : Addr} {Qd : Hp → Prop} (Pv : Nat → Hp → Prop) (first : Pv 0 (upd H1 D (.dK []))) (stay : ∀ i H, i ≤ n → Pv i H → G H)
    (turn : ∀ i x H H', i < n → Pv i H → Y i H x H' → g x (wipe σ vs) H' fun σ2 H2 => wipe σ2 vs = wipe σ vs ∧ tt σ2 H2 fun b H3 => if b = true then tk σ2 H3 fun y H4 => tv σ2 H4 fun z H5 => ∃ kvs k, y = kV k ∧ H5 D = some (.dK kvs) ∧ kvs.length < sizeLine ∧ Pv (i + 1) (upd H5 D (.dK (putK kvs k z))) else Pv (i + 1) H3)
    (last : ∀ H, Pv n H → Qd H) : ∃ W : Nat → Nat → Hp → Prop, (∃ m, W 0 m (upd H1 D (.dK []))) ∧ ∀ i m H, W i m H → (J.stop i H ∧ Qd H) ∨ (J.go i H ∧ ∃ Nx : Hp → Prop, (∀ H', Nx H' → ∃ m', m' < m ∧ W (i + 1) m' H') ∧ ∀ x H', J.yld i H x H' →
      g x (wipe σ vs) H' fun σ2 H2 => wipe σ2 vs = wipe σ vs ∧ tt σ2 H2 fun b H3 => if b = true then tk σ2 H3 fun y H4 => tv σ2 H4 fun z H5 => ∃ kvs k, y = kV k ∧ H5 D = some (.dK kvs) ∧ kvs.length < sizeLine ∧ Nx (upd H5 D (.dK (putK kvs k z))) else Nx H3) := by
  refine ⟨fun i m H => m = n - i ∧ i ≤ n ∧ Pv i H, ⟨n, (Nat.sub_zero n).symm, Nat.zero_le _, first⟩, fun i m H ⟨em, le, p⟩ => ?_⟩
  subst em
  by_cases lt : i < n
  · exact .inr ⟨wk.goes i H lt (stay i H le p), Pv (i + 1), fun H' p' => ⟨n - (i + 1), by omega, rfl, lt, p'⟩, fun x H' y => turn i x H H' lt p (wk.yields i H x H' lt (stay i H le p) y)⟩
  · obtain rfl : i = n := by omega
    exact .inl ⟨wk.stops H (stay i H le p), last H p⟩
theorem callTup {X : Cx} {K : PySem.W.Frag} (h : X.K = K) : CallR X (.type "tuple") (fun xs H Q => ∃ p ys, xs = [.ref p] ∧ ((SqL K H p ys ∧ ∀ l, H l = none → Q (.ref l) (upd H l (.tup ys))) ∨ (SqT K H p ys ∧ Q (.ref p) H))) := by
  subst h
  exact call_tuple_of
theorem callIsi {X : Cx} {K : PySem.W.Frag} (h : X.K = K) : CallR X (.builtin "isinstance") (rIsi K) := by
  subst h
  exact call_isi
/-! ### columns with marks, as data that are sorted -/
def dCol (c : Col) : PyData := .tuple [.str c.1, .list ((c.2.getD []).map PyData.str)]
def unD : PyData → Str | .str s => s | _ => ""
def unCol : PyData → Col
  | .tuple [.str w, .list ds] => (w, some (ds.map unD))
  | _ => ("", none)
theorem unCol_d {c : Col} (h : c.2.isSome = true) : unCol (dCol c) = c := by
  obtain ⟨w, m⟩ := c
  cases m with
  | none => cases h
  | some ms =>
    show (w, some ((ms.map PyData.str).map unD)) = (w, some ms)
    rw [List.map_map]
    have e : (unD ∘ PyData.str) = id := rfl
    rw [e, List.map_id]
theorem alike_strs : ∀ a b : List Str, PySem.W.alikeAll (a.map PyData.str) (b.map PyData.str) = true
  | [], _ => rfl
  | _ :: _, [] => rfl
  | x :: a, y :: b => by
    show (PySem.W.alike (.str x) (.str y) && PySem.W.alikeAll (a.map PyData.str) (b.map PyData.str)) = true
    rw [alike_strs a b]
    rfl
theorem alike_cols (c d : Col) : PySem.W.alike (dCol c) (dCol d) = true := by
  show (PySem.W.alike (.str c.1) (.str d.1) && (PySem.W.alike (.list _) (.list _) && PySem.W.alikeAll [] [])) = true
  have e : PySem.W.alike (.list ((c.2.getD []).map PyData.str)) (.list ((d.2.getD []).map PyData.str)) = true := alike_strs _ _
  rw [e]
  rfl
theorem cols_alike (mc : List Col) : PySem.W.AllAlike (mc.map dCol) := by
  intro d hd e he
  obtain ⟨c, _, rfl⟩ := List.mem_map.mp hd
  obtain ⟨c', _, rfl⟩ := List.mem_map.mp he
  exact alike_cols c c'
theorem cols_sortable (mc : List Col) : PySem.W.Sortable (mc.map dCol) := .inl fun d hd => by
  obtain ⟨c, _, rfl⟩ := List.mem_map.mp hd
  exact ⟨_, _, rfl⟩
theorem depth_strs : ∀ ms : List Str, PyData.depthAll (ms.map PyData.str) ≤ 0
  | [] => Nat.le_refl _
  | m :: ms => by
    have := depth_strs ms
    rw [List.map_cons]
    simp only [PyData.depthAll, PyData.depth]
    omega
theorem depth_cols (mc : List Col) : ∀ d ∈ mc.map dCol, d.depth ≤ 64 := by
  intro d hd
  obtain ⟨c, _, rfl⟩ := List.mem_map.mp hd
  have := depth_strs (c.2.getD [])
  unfold dCol
  simp only [PyData.depth, PyData.depthAll]
  omega
theorem all2_map {γ : Type} {R : V → Col → Prop} {f : γ → V} {g : γ → Col} : ∀ {l : List γ}, (∀ b ∈ l, R (f b) (g b)) → All2 R (l.map f) (l.map g)
  | [], _ => trivial
  | b :: l, h => ⟨h b (List.mem_cons_self ..), all2_map fun x hx => h x (List.mem_cons_of_mem _ hx)⟩
theorem zip_cols {R : V → Col → Prop} : ∀ {acc : List V} {mc : List Col}, All2 R acc mc → (∀ c ∈ mc, c.2.isSome = true) → (∀ b ∈ acc.zip (mc.map dCol), R b.1 (unCol b.2)) ∧ (acc.zip (mc.map dCol)).map (fun b => unCol b.2) = mc
  | [], [], _, _ => ⟨fun _ h => absurd h (List.not_mem_nil), rfl⟩
  | x :: acc, c :: mc, ⟨h, t⟩, s => by
    obtain ⟨h1, h2⟩ := zip_cols t fun c hc => s c (List.mem_cons_of_mem _ hc)
    have e := unCol_d (s c (List.mem_cons_self ..))
    refine ⟨fun b hb => ?_, ?_⟩
    · rcases List.mem_cons.mp hb with z | z
      · rw [z, e]
        exact h
      · exact h1 b z
    · rw [List.map_cons, List.zip_cons_cons, List.map_cons, h2, e]
  | [], _ :: _, z, _ => z.elim
  | _ :: _, [], z, _ => z.elim
/-- the sorted list: the same columns in some order -/
theorem sorted_cols {R : V → Col → Prop} {acc : List V} {mc : List Col} (h : All2 R acc mc) (s : ∀ c ∈ mc, c.2.isSome = true) : ∃ mc2 : List Col, mc2.Perm mc ∧ All2 R (((acc.zip (mc.map dCol)).mergeSort (PySem.W.dataLe false Prod.snd)).map Prod.fst) mc2 := by
  obtain ⟨h1, h2⟩ := zip_cols h s
  have p := List.mergeSort_perm (acc.zip (mc.map dCol)) (PySem.W.dataLe false Prod.snd)
  refine ⟨_, ?_, all2_map (g := fun b => unCol b.2) fun b hb => h1 b (p.mem_iff.mp hb)⟩
  have := p.map fun b => unCol b.2
  rw [h2] at this
  exact this
end Oc
namespace Oc
open L2
theorem hu_sort {k : Nat} {A : PySem.Around} (hr : Room k A) : A.units + 70 < PySem.cLine := by
  have := hr.un
  omega
end Oc
namespace Oc
open PySem L2
theorem nodup_fst : ∀ {cols : List Col} {c d : Col}, (cols.map Prod.fst).Nodup → c ∈ cols → d ∈ cols → c.1 = d.1 → c = d
  | [], _, _, _, h, _, _ => absurd h List.not_mem_nil
  | x :: xs, c, d, n, hc, hd, e => by
    rw [List.map_cons, List.nodup_cons] at n
    rcases List.mem_cons.mp hc with e1 | hc1
    · rcases List.mem_cons.mp hd with e2 | hd1
      · rw [e1, e2]
      · exact absurd (List.mem_map.mpr ⟨d, hd1, by rw [← e, e1]⟩) n.1
    · rcases List.mem_cons.mp hd with e2 | hd1
      · exact absurd (List.mem_map.mpr ⟨c, hc1, by rw [e, e2]⟩) n.1
      · exact nodup_fst n.2 hc1 hd1 e
end Oc
set_option Elab.async false
set_option linter.all false
set_option maxRecDepth 100000
set_option maxHeartbeats 4000000
namespace Oc
open PySem PySem.Spec PyProof.Rows L2
/-- may this datum stand in that column -/
def entryD (c : Col) : PyData → Bool
  | .str w => wdB w && (match c.2 with | none => true | some ms => decide (w ∈ ms))
  | _ => false
theorem entryD_bad {c : Col} {z : Str} (h : wdB z = false) : entryD c (.str z) = false := by
  show (wdB z && _) = false
  rw [h, Bool.false_and]
theorem entryD_none {c : Col} {z : Str} (h : wdB z = true) (e : c.2 = none) : entryD c (.str z) = true := by
  show (wdB z && _) = true
  rw [h, e, Bool.true_and]
theorem entryD_some {c : Col} {z : Str} {ms : List Str} (h : wdB z = true) (e : c.2 = some ms) : entryD c (.str z) = decide (z ∈ ms) := by
  show (wdB z && _) = _
  rw [h, e, Bool.true_and]
theorem in_strs (z : Str) : ∀ ms : List Str, inV (.str z) (ms.map V.str) = decide (z ∈ ms)
  | [] => rfl
  | m :: ms => by
    have ih := in_strs z ms
    unfold inV at ih ⊢
    rw [List.map_cons, List.any_cons, ih]
    show ((m == z) || decide (z ∈ ms)) = _
    by_cases e : m = z
    · rw [e]; simp
    · rw [beq_eq_false_iff_ne.mpr e, Bool.false_or]
      simp [Ne.symm e]
theorem all_flat (ms : List Str) : (ms.map V.str).all flatV = true := by
  rw [List.all_map]
  exact List.all_eq_true.mpr fun _ _ => rfl
/-- so many turns over two tuples -/
theorem walk_zipT {K : PySem.W.Frag} {a b : Addr} {xs ys : List V} {n : Nat} (hn : n = min xs.length ys.length) : Walk (RZ.ItzT K a b) n (fun H => SqT K H a xs ∧ SqT K H b ys) (YPair (fun i => xs[i]?) (fun i => ys[i]?)) := by
  subst hn
  refine ⟨fun i H lt q => ?_, fun H q => ⟨xs, ys, q.1, q.2, by omega⟩, fun i H v H' lt q y => ?_⟩
  · have l1 : i < xs.length := by omega
    have l2 : i < ys.length := by omega
    exact ⟨xs, ys, _, _, q.1, q.2, List.getElem?_eq_getElem l1, List.getElem?_eq_getElem l2⟩
  · obtain ⟨T, x, z, e1, e2, e3, e4, e5⟩ := y
    exact ⟨T, x, z, e1, e2, e3, e4 xs q.1, e5 ys q.2⟩
end Oc
namespace Oc
open L2
theorem hu_get {k : Nat} {A : PySem.Around} (hr : Room k A) : A.units + 1 < PySem.cLine := by
  have := hr.un
  omega
end Oc
namespace Oc
open PySem PySem.Spec PyProof.Rows L2
def entriesD (cols : List Col) (ds : List PyData) : List Bool := (cols.zip ds).map fun p => entryD p.1 p.2
/-- is this datum a row of these columns -/
def rowD (cols : List Col) : PyData → Bool
  | .tuple ds => decide (ds.length = cols.length) && (entriesD cols ds).all id
  | _ => false
theorem rowD_same {cols : List Col} {ds : List PyData} (h : ds.length = cols.length) : rowD cols (.tuple ds) = (entriesD cols ds).all id := by
  show (decide (ds.length = cols.length) && _) = _
  rw [decide_eq_true h, Bool.true_and]
theorem rowD_other {cols : List Col} {ds : List PyData} (h : ¬ ds.length = cols.length) : rowD cols (.tuple ds) = false := by
  show (decide (ds.length = cols.length) && _) = _
  rw [decide_eq_false h, Bool.false_and]
theorem DqAll.len {K : PySem.W.Frag} {H : Hp} : ∀ {xs : List V} {ds : List PyData}, DqAll K H xs ds → xs.length = ds.length
  | _, _, .nil => rfl
  | _, _, .cons _ r => by rw [List.length_cons, List.length_cons, DqAll.len r]
theorem DqAll.get {K : PySem.W.Frag} {H : Hp} : ∀ {xs : List V} {ds : List PyData} {i : Nat} {x : V}, DqAll K H xs ds → xs[i]? = some x → ∃ d, ds[i]? = some d ∧ Dq K H x d
  | _, _, _, _, .nil, e => nomatch e
  | _, _, 0, _, .cons q _, e => by
    cases e
    exact ⟨_, rfl, q⟩
  | _, _, i + 1, _, .cons _ r, e => DqAll.get (i := i) r e
end Oc
namespace Oc
open PySem PySem.Spec PyProof.Rows L2
theorem callList {X : Cx} {K : PySem.W.Frag} (h : X.K = K) : CallR X (.type "list") (fun xs H Q => ∃ p ys, xs = [.ref p] ∧ (SqL K H p ys ∨ SqT K H p ys) ∧ ∀ l, H l = none → Q (.ref l) (upd H l (.lst ys))) := by
  subst h
  intro pins s σ H xs us Q I r z
  obtain ⟨p, ys, e, hs, k⟩ := z
  exact call_list_of pins s σ H xs us Q I r ⟨p, ys, e, hs, k⟩
end Oc
namespace Oc
open PySem L2
section
variable {H H' : Hp} {D : Addr} {o : HO}
theorem del_same (s : Same H H') : Same (delH H D) (delH H' D) := fun b u e => by
  by_cases z : b = D
  · rw [z, delH_same] at e
    cases e
  · rw [delH_ne z] at e ⊢
    exact s b u e
theorem del_upd : Same (delH H D) (delH (upd H D o) D) := fun b u e => by
  by_cases z : b = D
  · rw [z, delH_same] at e
    cases e
  · rw [delH_ne z] at e ⊢
    rw [upd_ne z]
    exact e
theorem del_in : Same (delH H D) H := fun b u e => by
  by_cases z : b = D
  · rw [z, delH_same] at e
    cases e
  · rw [delH_ne z] at e
    exact e
end
end Oc
namespace Oc
open PySem PySem.Spec PyProof.Rows L2
theorem lay_sign {z : Str} (h : PyData.canLay0 (.str z) = true) {c : Nat} (hc : c ∈ z.cps.toList) : Sm (.str (sg c)) := by
  simp only [PyData.canLay0, PyData.strOk] at h
  rw [Array.all_eq_true'] at h
  have := of_decide_eq_true (h c (by simpa using hc))
  refine sm_str _ ?_
  simp only [PyData.canLay0, PyData.strOk]
  simp [sg, this]
theorem none_bad {z : Str} : (z.cps.toList.filter fun c => decide (c ∉ lets)) = [] ↔ (z.cps.toList.all fun c => decide (c ∈ lets)) = true := by
  rw [List.filter_eq_nil_iff, List.all_eq_true]
  simp
end Oc
namespace Oc
open PySem L2
theorem ColAt.same {H H' : Hp} {v : V} {c : Col} (h : ColAt H v c) (s : Same H H') : ColAt H' v c := h.tups (Tups.same s)
end Oc
namespace Oc
open PySem PySem.Spec PyProof.Rows L2
def okS (w : Str) : Bool := decide (w.length ≤ 1000) && PyData.canLay0 (.str w)
/-- the texts in it are small ones -/
def okT : PyData → Bool
  | .str w => okS w
  | .tuple ds => ds.all fun e => match e with | .str w => okS w | _ => true
  | _ => true
/-- such data stands there, whatever becomes of the pen at p -/
def AnyT (K : PySem.W.Frag) (H : Hp) (p : Addr) (v : V) : Prop := ∃ d, Dq K (delH H p) v d ∧ okT d = true
theorem AnyT.dq {K : PySem.W.Frag} {H : Hp} {p : Addr} {v : V} (h : AnyT K H p v) : ∃ d, Dq K H v d ∧ okT d = true := by
  obtain ⟨d, h1, h2⟩ := h
  exact ⟨d, Dq.same del_in d v h1, h2⟩
theorem AnyT.keep {K : PySem.W.Frag} {H H' : Hp} {p : Addr} {v : V} (h : AnyT K H p v) (b : ∀ c o, H c = some o → c ≠ p → H' c = some o) : AnyT K H' p v := by
  obtain ⟨d, h1, h2⟩ := h
  refine ⟨d, Dq.same (fun c o e => ?_) d v h1, h2⟩
  by_cases z : c = p
  · rw [z, delH_same] at e
    cases e
  · rw [delH_ne z] at e ⊢
    exact b c o e z
theorem okS_ok {w : Str} (h : okS w = true) : w.length ≤ sizeLine ∧ PyData.canLay0 (.str w) = true := by
  obtain ⟨h1, h2⟩ := Bool.and_eq_true_iff.mp h
  exact ⟨Nat.le_of_lt (small1000 (of_decide_eq_true h1)), h2⟩
theorem okT_row {d : PyData} (h : okT d = true) : ∀ ds, d = .tuple ds → ∀ e ∈ ds, ∀ w, e = .str w → w.length ≤ sizeLine ∧ PyData.canLay0 (.str w) = true := by
  intro ds e1 e he w e2
  subst e1 e2
  exact okS_ok (List.all_eq_true.mp h _ he)
end Oc
set_option Elab.async false
set_option linter.all false
set_option maxRecDepth 100000
set_option maxHeartbeats 4000000
namespace Oc
open PySem PySem.Spec PyProof.Rows L2
section
variable {K : PySem.W.Frag} {H H' : Hp} {p : Addr}
theorem Same.refl (H : Hp) : Same H H := fun _ _ e => e
theorem catA_of {a b : Addr} {xs ys : List V} {Q : VK} (ha : SqT K H a xs) (hb : SqT K H b ys) (hl : xs.length + ys.length ≤ sizeLine) (k : ∀ r H', SqT K H' r (xs ++ ys) → Same H H' → Q (.ref r) H') : rCatA K (.ref a) (.ref b) H Q := by
  refine ⟨a, b, xs, ys, rfl, rfl, ha, hb, hl, fun e => ?_, fun _ e => ?_, fun _ _ r nr => k r _ (.inl (.inl upd_same)) (Same.alloc nr)⟩
  · subst e
    exact k b H hb (Same.refl H)
  · subst e
    rw [List.append_nil] at k
    exact k a H ha (Same.refl H)
theorem slA_of {a : Addr} {xs : List V} {lo hi : Option Int} {Q : VK} (ha : SqT K H a xs) (k : ∀ r H', SqT K H' r (cutV xs lo hi) → Same H H' → Q (.ref r) H') : rSlA K (.ref a) lo hi H Q := by
  refine ⟨a, xs, rfl, ha, fun ⟨e1, e2⟩ => ?_, fun _ r nr => k r _ (.inl (.inl upd_same)) (Same.alloc nr)⟩
  have e : cutV xs lo hi = xs := by
    unfold cutV
    rw [e1, e2, List.drop_zero, Nat.sub_zero, List.take_length]
  rw [e] at k
  exact k a H ha (Same.refl H)
theorem cut_drop (xs : List V) (i : Nat) : cutV xs (some (i : Int)) none = xs.drop i := by
  unfold cutV
  rw [HT.sIx_none, HT.sIx_nat]
  by_cases h : i ≤ xs.length
  · rw [Nat.min_eq_left h]
    exact List.take_of_length_le (by rw [List.length_drop]; exact Nat.le_refl _)
  · rw [Nat.min_eq_right (by omega), List.drop_length, List.drop_eq_nil_of_le (by omega), List.take_nil]
theorem sqT_del {r : Addr} {xs : List V} {kvs : List (Key × V)} (h : SqT K H r xs) (hp : H p = some (.dK kvs)) : SqT K (delH H p) r xs := by
  rcases h with (h | ⟨o, h⟩) | h
  · exact .inl (.inl (delH_at h (ne_of h hp (by intro z; cases z))))
  · exact .inl (.inr ⟨o, delH_at h (ne_of h hp (by intro z; cases z))⟩)
  · exact .inr h
def okE : PyData → Bool
  | .str w => okS w
  | _ => true
def EltOk (K : PySem.W.Frag) (H : Hp) (p : Addr) (v : V) : Prop := ∃ d, Dq K (delH H p) v d ∧ okE d = true
theorem EltOk.keep {v : V} (h : EltOk K H p v) (b : ∀ c o, H c = some o → c ≠ p → H' c = some o) : EltOk K H' p v := by
  obtain ⟨d, h1, h2⟩ := h
  refine ⟨d, Dq.same (fun c o e => ?_) d v h1, h2⟩
  by_cases z : c = p
  · rw [z, delH_same] at e
    cases e
  · rw [delH_ne z] at e ⊢
    exact b c o e z
theorem EltOk.of_any {v : V} (h : AnyT K H p v) : EltOk K H p v := by
  obtain ⟨d, h1, h2⟩ := h
  refine ⟨d, h1, ?_⟩
  cases d with
  | str w => exact h2
  | _ => rfl
theorem EltOk.str {w : Str} (h : okS w = true) : EltOk K H p (.str w) := ⟨.str w, .str w, h⟩
theorem elts_data : ∀ {xs : List V}, (∀ v ∈ xs, EltOk K H p v) → ∃ ds, DqAll K (delH H p) xs ds ∧ (ds.all fun e => match e with | .str w => okS w | _ => true) = true
  | [], _ => ⟨[], .nil, rfl⟩
  | x :: xs, h => by
    obtain ⟨ds, h1, h2⟩ := elts_data fun v hv => h v (List.mem_cons_of_mem _ hv)
    obtain ⟨d, h3, h4⟩ := h x (List.mem_cons_self ..)
    refine ⟨d :: ds, .cons h3 h1, ?_⟩
    rw [List.all_cons, h2, Bool.and_true]
    exact h4
theorem tuple_any {r : Addr} {xs : List V} {kvs : List (Key × V)} (h : SqT K H r xs) (hp : H p = some (.dK kvs)) (he : ∀ v ∈ xs, EltOk K H p v) : AnyT K H p (.ref r) := by
  obtain ⟨ds, h1, h2⟩ := elts_data he
  exact ⟨.tuple ds, .tup (sqT_del h hp) h1, h2⟩
end
end Oc
set_option Elab.async false
set_option linter.all false
set_option maxRecDepth 100000
set_option maxHeartbeats 4000000
namespace Vl
open PySem PySem.Spec PyProof.Rows L2 Oc
/-! ### values as trees -/
inductive D where
  | non | bl (b : Bool) | int (i : Int) | str (x : Str) | lst (ds : List D) | tup (ds : List D) | dic (kvs : List (Key × D)) | ins (C : Str) (fs : List (Str × D)) | hnd (k : Nat)
mutual
inductive Rep (K : PySem.W.Frag) (I : Hp) (al : List Addr) : V → D → Prop
  | non : Rep K I al .non .non
  | bl (b : Bool) : Rep K I al (.bl b) (.bl b)
  | int (i : Int) : Rep K I al (.int i) (.int i)
  | str (x : Str) : Rep K I al (.str x) (.str x)
  | lst {a : Addr} {xs : List V} {ds : List D} : Rd I a (.lst xs) → Reps K I al xs ds → Rep K I al (.ref a) (.lst ds)
  | tup {a : Addr} {xs : List V} {ds : List D} : SqT K I a xs → Reps K I al xs ds → Rep K I al (.ref a) (.tup ds)
  | dic {a : Addr} {kvs : List (Key × V)} {ds : List (Key × D)} : Rd I a (.dK kvs) → RepKv K I al kvs ds → Rep K I al (.ref a) (.dic ds)
  | ins {a dx : Addr} {C : Str} {fs : List (Str × V)} {ds : List (Str × D)} : I a = some (.ins (He.ga K C) dx fs) → RepFs K I al fs ds → Rep K I al (.ref a) (.ins C ds)
  | hnd {a : Addr} {k : Nat} : al[k + 1]? = some a → Rep K I al (.ref a) (.hnd k)
inductive Reps (K : PySem.W.Frag) (I : Hp) (al : List Addr) : List V → List D → Prop
  | nil : Reps K I al [] []
  | cons {v : V} {vs : List V} {d : D} {ds : List D} : Rep K I al v d → Reps K I al vs ds → Reps K I al (v :: vs) (d :: ds)
inductive RepKv (K : PySem.W.Frag) (I : Hp) (al : List Addr) : List (Key × V) → List (Key × D) → Prop
  | nil : RepKv K I al [] []
  | cons {k : Key} {v : V} {vs : List (Key × V)} {d : D} {ds : List (Key × D)} : Rep K I al v d → RepKv K I al vs ds → RepKv K I al ((k, v) :: vs) ((k, d) :: ds)
inductive RepFs (K : PySem.W.Frag) (I : Hp) (al : List Addr) : List (Str × V) → List (Str × D) → Prop
  | nil : RepFs K I al [] []
  | cons {k : Str} {v : V} {vs : List (Str × V)} {d : D} {ds : List (Str × D)} : Rep K I al v d → RepFs K I al vs ds → RepFs K I al ((k, v) :: vs) ((k, d) :: ds)
end
/-- a slice -/
def cutD {α : Type} (xs : List α) (lo hi : Option Int) : List α := (xs.drop (HT.sIx xs.length 0 lo)).take (HT.sIx xs.length xs.length hi - HT.sIx xs.length 0 lo)
/-- what is read stays (a dict may be locked, unlocked) -/
structure Sm (I I' : Hp) : Prop where
  rd : ∀ a u, Rd I a u → Rd I' a u
  ins : ∀ a C dx fs, I a = some (.ins C dx fs) → I' a = some (.ins C dx fs)
theorem Sm.of {I I' : Hp} (s : Same I I') : Sm I I' := ⟨fun _ _ h => Rd.same h s, fun _ _ _ _ h => s _ _ h⟩
theorem Sm.refl {I : Hp} : Sm I I := ⟨fun _ _ h => h, fun _ _ _ _ h => h⟩
theorem Sm.trans {I I1 I2 : Hp} (a : Sm I I1) (b : Sm I1 I2) : Sm I I2 := ⟨fun _ _ h => b.rd _ _ (a.rd _ _ h), fun _ _ _ _ h => b.ins _ _ _ _ (a.ins _ _ _ _ h)⟩
theorem Sm.sqL {I I' : Hp} {K : PySem.W.Frag} {a : Addr} {xs : List V} (s : Sm I I') (h : SqL K I a xs) : SqL K I' a xs := h.imp (s.rd _ _) id
theorem Sm.sqT {I I' : Hp} {K : PySem.W.Frag} {a : Addr} {xs : List V} (s : Sm I I') (h : SqT K I a xs) : SqT K I' a xs := h.imp (s.rd _ _) id
section
variable {K : PySem.W.Frag} {I I' : Hp} {al al' : List Addr}
theorem pre_get {k : Nat} {a : Addr} (p : al <+: al') (h : al[k]? = some a) : al'[k]? = some a := by
  obtain ⟨r, rfl⟩ := p
  have hk : k < al.length := (List.getElem?_eq_some_iff.mp h).1
  rw [List.getElem?_append_left hk]
  exact h
mutual
theorem Rep.mono (s : Sm I I') (p : al <+: al') : ∀ (d : D) (v : V), Rep K I al v d → Rep K I' al' v d
  | .non, _, h => by cases h; exact .non
  | .bl b, _, h => by cases h; exact .bl b
  | .int i, _, h => by cases h; exact .int i
  | .str x, _, h => by cases h; exact .str x
  | .lst ds, _, h => by cases h with | lst a b => exact .lst (s.rd _ _ a) (Reps.mono s p ds _ b)
  | .tup ds, _, h => by cases h with | tup a b => exact .tup (s.sqT a) (Reps.mono s p ds _ b)
  | .dic ds, _, h => by cases h with | dic a b => exact .dic (s.rd _ _ a) (RepKv.mono s p ds _ b)
  | .ins C ds, _, h => by cases h with | ins a b => exact .ins (s.ins _ _ _ _ a) (RepFs.mono s p ds _ b)
  | .hnd k, _, h => by cases h with | hnd a => exact .hnd (pre_get p a)
theorem Reps.mono (s : Sm I I') (p : al <+: al') : ∀ (ds : List D) (vs : List V), Reps K I al vs ds → Reps K I' al' vs ds
  | [], _, h => by cases h; exact .nil
  | d :: ds, _, h => by cases h with | cons a b => exact .cons (Rep.mono s p d _ a) (Reps.mono s p ds _ b)
theorem RepKv.mono (s : Sm I I') (p : al <+: al') : ∀ (ds : List (Key × D)) (vs : List (Key × V)), RepKv K I al vs ds → RepKv K I' al' vs ds
  | [], _, h => by cases h; exact .nil
  | (_, d) :: ds, _, h => by cases h with | cons a b => exact .cons (Rep.mono s p d _ a) (RepKv.mono s p ds _ b)
theorem RepFs.mono (s : Sm I I') (p : al <+: al') : ∀ (ds : List (Str × D)) (vs : List (Str × V)), RepFs K I al vs ds → RepFs K I' al' vs ds
  | [], _, h => by cases h; exact .nil
  | (_, d) :: ds, _, h => by cases h with | cons a b => exact .cons (Rep.mono s p d _ a) (RepFs.mono s p ds _ b)
end
section
variable {s s' : Addr} {t : List Addr}
mutual
theorem Rep.head : ∀ (d : D) (v : V), Rep K I (s :: t) v d → Rep K I (s' :: t) v d
  | .non, _, h => by cases h; exact .non
  | .bl b, _, h => by cases h; exact .bl b
  | .int i, _, h => by cases h; exact .int i
  | .str x, _, h => by cases h; exact .str x
  | .lst ds, _, h => by cases h with | lst a b => exact .lst a (Reps.head ds _ b)
  | .tup ds, _, h => by cases h with | tup a b => exact .tup a (Reps.head ds _ b)
  | .dic ds, _, h => by cases h with | dic a b => exact .dic a (RepKv.head ds _ b)
  | .ins C ds, _, h => by cases h with | ins a b => exact .ins a (RepFs.head ds _ b)
  | .hnd k, _, h => by cases h with | hnd a => exact .hnd (by simpa using a)
theorem Reps.head : ∀ (ds : List D) (vs : List V), Reps K I (s :: t) vs ds → Reps K I (s' :: t) vs ds
  | [], _, h => by cases h; exact .nil
  | d :: ds, _, h => by cases h with | cons a b => exact .cons (Rep.head d _ a) (Reps.head ds _ b)
theorem RepKv.head : ∀ (ds : List (Key × D)) (vs : List (Key × V)), RepKv K I (s :: t) vs ds → RepKv K I (s' :: t) vs ds
  | [], _, h => by cases h; exact .nil
  | (_, d) :: ds, _, h => by cases h with | cons a b => exact .cons (Rep.head d _ a) (RepKv.head ds _ b)
theorem RepFs.head : ∀ (ds : List (Str × D)) (vs : List (Str × V)), RepFs K I (s :: t) vs ds → RepFs K I (s' :: t) vs ds
  | [], _, h => by cases h; exact .nil
  | (_, d) :: ds, _, h => by cases h with | cons a b => exact .cons (Rep.head d _ a) (RepFs.head ds _ b)
end
end
theorem Reps.len : ∀ {vs : List V} {ds : List D}, Reps K I al vs ds → vs.length = ds.length
  | _, _, .nil => rfl
  | _, _, .cons _ t => by rw [List.length_cons, List.length_cons, Reps.len t]
theorem Reps.get : ∀ {vs : List V} {ds : List D} {i : Nat} {d : D}, Reps K I al vs ds → ds[i]? = some d → ∃ v, vs[i]? = some v ∧ Rep K I al v d
  | _, _, _, _, .nil, e => by simp at e
  | _, _, 0, _, .cons r _, e => by simp at e; subst e; exact ⟨_, rfl, r⟩
  | _, _, i + 1, d, .cons _ t, e => by
    obtain ⟨u, h1, h2⟩ := Reps.get (i := i) (d := d) t (by simpa using e)
    exact ⟨u, by simpa using h1, h2⟩
theorem Reps.get' : ∀ {vs : List V} {ds : List D} {i : Nat} {v : V}, Reps K I al vs ds → vs[i]? = some v → ∃ d, ds[i]? = some d ∧ Rep K I al v d
  | _, _, _, _, .nil, e => by simp at e
  | _, _, 0, _, .cons r _, e => by simp at e; subst e; exact ⟨_, rfl, r⟩
  | _, _, i + 1, d, .cons _ t, e => by
    obtain ⟨u, h1, h2⟩ := Reps.get' (i := i) (v := d) t (by simpa using e)
    exact ⟨u, by simpa using h1, h2⟩
theorem Reps.append : ∀ {xs ys : List V} {ds es : List D}, Reps K I al xs ds → Reps K I al ys es → Reps K I al (xs ++ ys) (ds ++ es)
  | _, _, _, _, .nil, s => s
  | _, _, _, _, .cons r t, s => .cons r (Reps.append t s)
theorem Reps.take : ∀ {vs : List V} {ds : List D} (n : Nat), Reps K I al vs ds → Reps K I al (vs.take n) (ds.take n)
  | _, _, 0, _ => .nil
  | _, _, _ + 1, .nil => .nil
  | _, _, n + 1, .cons r t => .cons r (Reps.take n t)
theorem Reps.drop : ∀ {vs : List V} {ds : List D} (n : Nat), Reps K I al vs ds → Reps K I al (vs.drop n) (ds.drop n)
  | _, _, 0, r => r
  | _, _, _ + 1, .nil => .nil
  | _, _, n + 1, .cons _ t => Reps.drop n t
theorem Reps.one {v : V} {d : D} (h : Rep K I al v d) : Reps K I al [v] [d] := .cons h .nil
theorem Reps.cut {vs : List V} {ds : List D} (lo hi : Option Int) (h : Reps K I al vs ds) : Reps K I al (cutV vs lo hi) (cutD ds lo hi) := by
  unfold cutV cutD
  rw [h.len]
  exact Reps.take _ (Reps.drop _ h)
theorem RepFs.lookup : ∀ {fs : List (Str × V)} {ds : List (Str × D)} {x : Str}, RepFs K I al fs ds → match ds.lookup x with | some d => ∃ v, fs.lookup x = some v ∧ Rep K I al v d | none => fs.lookup x = none
  | _, _, _, .nil => rfl
  | _, _, x, .cons (k := k) r t => by
    rw [List.lookup_cons, List.lookup_cons]
    cases e : x == k with
    | true => exact ⟨_, rfl, r⟩
    | false => exact RepFs.lookup t
theorem RepKv.len : ∀ {vs : List (Key × V)} {ds : List (Key × D)}, RepKv K I al vs ds → vs.length = ds.length
  | _, _, .nil => rfl
  | _, _, .cons _ t => by rw [List.length_cons, List.length_cons, RepKv.len t]
end
end Vl
set_option Elab.async false
set_option linter.all false
set_option maxRecDepth 100000
set_option maxHeartbeats 4000000
namespace Vl
open PySem PySem.Spec PyProof.Rows L2 Oc
/-! ### what a def does to values: an answer or an exception, and the objects that change -/
inductive Out (α : Type) where
  | ok (a : α) | ex (C : Str) (fs : List (Str × D))
/-- the objects that change (the pen, databases): T, and how it lies in the heap: over the written part, the values' region, the objects' region, their addresses -/
class Objs where
  T : Type
  at_ : PySem.W.Frag → Hp → Hp → List Addr → T → Prop
  mono : ∀ {K : PySem.W.Frag} {I I' M : Hp} {al : List Addr} {S : T}, at_ K I M al S → Sm I I' → at_ K I' M al S
  head : ∀ {K : PySem.W.Frag} {I M : Hp} {s s' : Addr} {t : List Addr} {S : T}, at_ K I M (s :: t) S → at_ K I M (s' :: t) S
  ne : ∀ {K : PySem.W.Frag} {I M : Hp} {al : List Addr} {S : T}, at_ K I M al S → ∃ s t, al = s :: t
variable [Ob : Objs]
abbrev Mo (α : Type) := Objs.T → Option (Out α × Objs.T)
def ret {α : Type} (a : α) : Mo α := fun S => some (.ok a, S)
def nop {α : Type} : Mo α := fun _ => none
def thr {α : Type} (C : Str) (fs : List (Str × D)) : Mo α := fun S => some (.ex C fs, S)
def bnd {α β : Type} (m : Mo α) (f : α → Mo β) : Mo β := fun S => match m S with
  | some (.ok a, S1) => f a S1
  | some (.ex C fs, S1) => some (.ex C fs, S1)
  | none => none
/-- of an option -/
def opt {α : Type} : Option α → Mo α
  | some a => ret a
  | none => nop
/-- under a condition -/
def grd {α : Type} (b : Bool) (m : Mo α) : Mo α := if b = true then m else nop
def wp {α : Type} (m : Mo α) (Q : α → Objs.T → Prop) (E : Str → List (Str × D) → Objs.T → Prop) (S : Objs.T) : Prop := match m S with
  | some (.ok a, S1) => Q a S1
  | some (.ex C fs, S1) => E C fs S1
  | none => False
section
variable {α β : Type} {m : Mo α} {f : α → Mo β} {Q Q' : α → Objs.T → Prop} {E E' : Str → List (Str × D) → Objs.T → Prop} {S : Objs.T}
theorem wp_bnd {Q : β → Objs.T → Prop} : wp (bnd m f) Q E S ↔ wp m (fun a S1 => wp (f a) Q E S1) E S := by
  unfold wp bnd
  cases h : m S with
  | none => simp
  | some p => obtain ⟨o, S1⟩ := p; cases o <;> simp
theorem wp_mono (h : wp m Q E S) (q : ∀ a S1, Q a S1 → Q' a S1) (e : ∀ C fs S1, E C fs S1 → E' C fs S1) : wp m Q' E' S := by
  unfold wp at h ⊢
  split
  · next a S1 hm => rw [hm] at h; exact q _ _ h
  · next C fs S1 hm => rw [hm] at h; exact e _ _ _ h
  · next hm => rw [hm] at h; exact h
theorem wp_ret {a : α} : wp (ret a) Q E S ↔ Q a S := Iff.rfl
theorem wp_thr {C : Str} {fs : List (Str × D)} : wp (thr (α := α) C fs) Q E S ↔ E C fs S := Iff.rfl
theorem wp_nop : ¬ wp (nop (α := α)) Q E S := fun h => h
theorem wp_opt {o : Option α} : wp (opt o) Q E S ↔ ∃ a, o = some a ∧ Q a S := by
  cases o with
  | none => exact ⟨fun h => h.elim, fun ⟨a, e, _⟩ => nomatch e⟩
  | some a => exact ⟨fun h => ⟨a, rfl, h⟩, fun ⟨b, e, h⟩ => by cases e; exact h⟩
theorem wp_grd {b : Bool} : wp (grd b m) Q E S ↔ b = true ∧ wp m Q E S := by
  unfold grd
  cases b with
  | false => exact ⟨fun h => h.elim, fun h => nomatch h.1⟩
  | true => exact ⟨fun h => ⟨rfl, h⟩, fun h => h.2⟩
end
/-! ### where values, objects, names' own lists and the callers' things lie: the heap's regions -/
def reg (g : Addr → Nat) (H : Hp) (n : Nat) : Hp := fun a => if g a = n then H a else none
def put (g : Addr → Nat) (p : Addr) (n : Nat) : Addr → Nat := fun a => if a = p then n else g a
section
variable {g : Addr → Nat} {H : Hp} {n m : Nat} {p a : Addr} {o : HO}
theorem reg_le : Same (reg g H n) H := fun b u e => by
  unfold reg at e
  split at e
  · exact e
  · cases e
theorem reg_at (e : H a = some o) (t : g a = n) : reg g H n a = some o := by
  unfold reg
  rw [if_pos t]
  exact e
theorem reg_tag (e : reg g H n a = some o) : g a = n := by
  unfold reg at e
  split at e
  · assumption
  · cases e
theorem reg_put (h : H p = none) : reg (put g p n) (upd H p o) n = upd (reg g H n) p o := by
  funext b
  unfold reg put
  by_cases e : b = p
  · rw [if_pos e, if_pos rfl, e, upd_same, upd_same]
  · rw [if_neg e, upd_ne e, upd_ne e]
theorem reg_put_ne (h : H p = none) (d : m ≠ n) : reg (put g p n) (upd H p o) m = reg g H m := by
  funext b
  unfold reg put
  by_cases e : b = p
  · rw [if_pos e, if_neg (Ne.symm d), e, h]
    split <;> rfl
  · rw [if_neg e, upd_ne e]
theorem reg_upd_ne (h : g p ≠ m) : reg g (upd H p o) m = reg g H m := by
  funext b
  unfold reg
  by_cases e : b = p
  · rw [e, if_neg h, if_neg h]
  · rw [upd_ne e]
theorem reg_upd (h : g p = m) : reg g (upd H p o) m = upd (reg g H m) p o := by
  funext b
  unfold reg
  by_cases e : b = p
  · rw [e, if_pos h, upd_same, upd_same]
  · rw [upd_ne e, upd_ne e]
theorem reg_none (h : H p = none) : reg g H n p = none := by
  unfold reg
  rw [h]
  split <;> rfl
end
abbrev Env := List (Option D)
/-- an own list or dict of a name -/
inductive OwnR (K : PySem.W.Frag) (I : Hp) (al : List Addr) : Addr → HO → D → Prop
  | lst {a : Addr} {vs : List V} {ds : List D} : Reps K I al vs ds → OwnR K I al a (.lst vs) (.lst ds)
  | dic {a : Addr} {vs : List (Key × V)} {ds : List (Key × D)} : RepKv K I al vs ds → OwnR K I al a (.dK vs) (.dic ds)
  | self {a : Addr} {C : Str} {dx : Addr} {fs : List (Str × V)} {ds : List (Str × D)} : al[0]? = some a → RepFs K I al fs ds → OwnR K I al a (.ins (He.ga K C) dx fs) (.ins C ds)
theorem OwnR.mono {K : PySem.W.Frag} {I I' : Hp} {al al' : List Addr} {b : Addr} {o : HO} {d : D} (h : OwnR K I al b o d) (s : Sm I I') (p : al <+: al') : OwnR K I' al' b o d := by
  cases h with
  | lst a => exact .lst (a.mono s p)
  | dic a => exact .dic (a.mono s p)
  | self e a => exact .self (pre_get p e) (a.mono s p)
/-- how far things have come: the values' region and the objects' addresses only grow -/
structure Lw (g : Addr → Nat) (al : List Addr) (H : Hp) (g' : Addr → Nat) (al' : List Addr) (H' : Hp) : Prop where
  s : Sm (reg g H 1) (reg g' H' 1)
  p : al <+: al'
theorem Lw.refl {g : Addr → Nat} {al : List Addr} {H : Hp} : Lw g al H g al H := ⟨.refl, List.prefix_rfl⟩
theorem Lw.trans {g g1 g2 : Addr → Nat} {al al1 al2 : List Addr} {H H1 H2 : Hp} (a : Lw g al H g1 al1 H1) (b : Lw g1 al1 H1 g2 al2 H2) : Lw g al H g2 al2 H2 := ⟨a.s.trans b.s, a.p.trans b.p⟩
/-- .. and the names' own things are as they were -/
structure Le (g : Addr → Nat) (al : List Addr) (H : Hp) (g' : Addr → Nat) (al' : List Addr) (H' : Hp) : Prop extends Lw g al H g' al' H' where
  o : reg g' H' 4 = reg g H 4
theorem Le.w {g g1 : Addr → Nat} {al al1 : List Addr} {H H1 : Hp} (a : Le g al H g1 al1 H1) : Lw g al H g1 al1 H1 := a.toLw
theorem Le.refl {g : Addr → Nat} {al : List Addr} {H : Hp} : Le g al H g al H := ⟨.refl, rfl⟩
theorem Le.trans {g g1 g2 : Addr → Nat} {al al1 al2 : List Addr} {H H1 H2 : Hp} (a : Le g al H g1 al1 H1) (b : Le g1 al1 H1 g2 al2 H2) : Le g al H g2 al2 H2 := ⟨a.w.trans b.w, b.o.trans a.o⟩
/-- a def's body under way: 1 values, 2 objects, 3 what is not ours (T), 4 the names' own -/
structure SR (K : PySem.W.Frag) (O : List Nat) (T : Hp) (ρ : Env) (S : Objs.T) (g : Addr → Nat) (al : List Addr) (σ : L2.St) (H : Hp) : Prop where
  len : σ.length = ρ.length
  fr : reg g H 3 = T
  ob : Objs.at_ K (reg g H 1) (reg g H 2) al S
  sl : ∀ i d, ρ[i]? = some (some d) → i ∉ O → ∃ v, σ[i]? = some (some v) ∧ Rep K (reg g H 1) al v d
  ow : ∀ i d, ρ[i]? = some (some d) → i ∈ O → ∃ a o, σ[i]? = some (some (.ref a)) ∧ reg g H 4 a = some o ∧ OwnR K (reg g H 1) al a o d ∧ ∀ j, j ∈ O → j ≠ i → ∀ e, ρ[j]? = some (some e) → σ[j]? ≠ some (some (.ref a))
section
variable {K : PySem.W.Frag} {O : List Nat} {T : Hp} {ρ : Env} {S S' : Objs.T} {g g' : Addr → Nat} {al al' : List Addr} {σ : L2.St} {H H' : Hp} {p : Addr} {o : HO}
/-- other regions: the values' one grows, the objects' one is described anew, the rest is as it was -/
theorem SR.move (h : SR K O T ρ S g al σ H) (le : Lw g al H g' al' H') (h3 : reg g' H' 3 = reg g H 3) (h4 : reg g' H' 4 = reg g H 4) (ob : Objs.at_ K (reg g' H' 1) (reg g' H' 2) al' S') : SR K O T ρ S' g' al' σ H' where
  len := h.len
  fr := by rw [h3]; exact h.fr
  ob := ob
  sl := fun i d e n => by
    obtain ⟨v, h1, h2⟩ := h.sl i d e n
    exact ⟨v, h1, h2.mono le.s le.p⟩
  ow := fun i d e n => by
    obtain ⟨a, o, h1, h2, h5, h6⟩ := h.ow i d e n
    exact ⟨a, o, h1, by rw [h4]; exact h2, h5.mono le.s le.p, h6⟩
/-- a new thing among the values -/
theorem Le.alloc (n : H p = none) : Le g al H (put g p 1) al (upd H p o) :=
  ⟨⟨.of fun b u e => by rw [reg_put n, upd_ne (ne_of_none e (reg_none n))]; exact e, List.prefix_rfl⟩, reg_put_ne n (by decide)⟩
theorem SR.alloc (h : SR K O T ρ S g al σ H) (n : H p = none) : SR K O T ρ S (put g p 1) al σ (upd H p o) :=
  h.move (Le.alloc n).w (reg_put_ne (m := 3) n (by decide)) (reg_put_ne (m := 4) n (by decide)) (by rw [reg_put_ne (m := 2) n (by decide)]; exact Objs.mono h.ob (Le.alloc (al := al) n).s)
theorem alloc_at (n : H p = none) : reg (put g p 1) (upd H p o) 1 p = some o := by rw [reg_put n, upd_same]
end
end Vl
set_option Elab.async false
set_option linter.all false
set_option maxRecDepth 100000
set_option maxHeartbeats 4000000
namespace Vl
open PySem PySem.Spec PyProof.Rows L2 Oc
variable [Ob : Objs]
/-! ### judgements -/
/-- an exception's fields, by its own dict -/
def ExF (K : PySem.W.Frag) (I : Hp) (al : List Addr) (fs : List (Str × D)) : Option Addr → Prop
  | none => fs = []
  | some d => ∃ vs, I d = some (.xd vs) ∧ RepFs K I al vs fs
abbrev XS := L2.St → XK
def XS0 : XS := fun _ _ _ _ => False
/-- what is wanted behind m -/
def Post {α β : Type} (R : (Addr → Nat) → Hp → List Addr → β → α → Prop) (K : PySem.W.Frag) (O : List Nat) (E : XS) (T : Hp) (ρ : Env) (σ : L2.St) (g : Addr → Nat) (al : List Addr) (H : Hp) (m : Mo α) (S : Objs.T) (Q : β → Hp → Prop) : Prop :=
  wp m (fun d S' => ∀ v g' al' H', SR K O T ρ S' g' al' σ H' → Le g al H g' al' H' → R g' H' al' v d → Q v H')
    (fun C fs S' => ∀ g' al' H' dx, SR K O T ρ S' g' al' σ H' → Le g al H g' al' H' → ExF K (reg g' H' 1) al' fs dx → E σ (.ref (He.ga K C)) dx H') S
def lift {α β : Type} (R : (Addr → Nat) → Hp → List Addr → β → α → Prop) (K : PySem.W.Frag) (O : List Nat) (E : XS) (f : Env → Mo α) : L2.St → Hp → (β → Hp → Prop) → Prop := fun σ H Q =>
  ∃ T ρ S g al, SR K O T ρ S g al σ H ∧ Post R K O E T ρ σ g al H (f ρ) S Q
def RB : (Addr → Nat) → Hp → List Addr → Bool → Bool → Prop := fun _ _ _ b c => b = c
abbrev RR (K : PySem.W.Frag) : (Addr → Nat) → Hp → List Addr → V → D → Prop := fun g H al v d => Rep K (reg g H 1) al v d
abbrev RRs (K : PySem.W.Frag) : (Addr → Nat) → Hp → List Addr → List V → List D → Prop := fun g H al v d => Reps K (reg g H 1) al v d
/-- values that are only looked at: also a name's own list or dict -/
inductive RepQ (K : PySem.W.Frag) (g : Addr → Nat) (H : Hp) (al : List Addr) : V → D → Prop
  | val {v : V} {d : D} : Rep K (reg g H 1) al v d → RepQ K g H al v d
  | own {p : Addr} {vs : List V} {ds : List D} : reg g H 4 p = some (.lst vs) → Reps K (reg g H 1) al vs ds → RepQ K g H al (.ref p) (.lst ds)
  | ownD {p : Addr} {vs : List (Key × V)} {ds : List (Key × D)} : reg g H 4 p = some (.dK vs) → RepKv K (reg g H 1) al vs ds → RepQ K g H al (.ref p) (.dic ds)
  | ownI {p dx : Addr} {C : Str} {vs : List (Str × V)} {ds : List (Str × D)} : reg g H 4 p = some (.ins (He.ga K C) dx vs) → RepFs K (reg g H 1) al vs ds → RepQ K g H al (.ref p) (.ins C ds)
inductive RepsQ (K : PySem.W.Frag) (g : Addr → Nat) (H : Hp) (al : List Addr) : List V → List D → Prop
  | nil : RepsQ K g H al [] []
  | cons {v : V} {vs : List V} {d : D} {ds : List D} : RepQ K g H al v d → RepsQ K g H al vs ds → RepsQ K g H al (v :: vs) (d :: ds)
section
variable {K : PySem.W.Frag} {g g' : Addr → Nat} {H H' : Hp} {al al' : List Addr} {v : V}
theorem RepQ.le {d : D} (h : RepQ K g H al v d) (l : Le g al H g' al' H') : RepQ K g' H' al' v d := by
  cases h with
  | val r => exact .val (r.mono l.s l.p)
  | own e r => exact .own (by rw [l.o]; exact e) (r.mono l.s l.p)
  | ownD e r => exact .ownD (by rw [l.o]; exact e) (r.mono l.s l.p)
  | ownI e r => exact .ownI (by rw [l.o]; exact e) (r.mono l.s l.p)
theorem RepsQ.le {vs : List V} {ds : List D} (h : RepsQ K g H al vs ds) (l : Le g al H g' al' H') : RepsQ K g' H' al' vs ds := by
  induction h with
  | nil => exact .nil
  | cons r _ ih => exact .cons (r.le l) ih
theorem RepQ.lst {ds : List D} (h : RepQ K g H al v (.lst ds)) : ∃ a vs, v = .ref a ∧ Rd H a (.lst vs) ∧ SqL K H a vs ∧ Reps K (reg g H 1) al vs ds := by
  cases h with
  | val r => cases r with | lst a b => exact ⟨_, _, rfl, Rd.same a reg_le, .inl (Rd.same a reg_le), b⟩
  | own e r => exact ⟨_, _, rfl, .inl (reg_le _ _ e), .inl (.inl (reg_le _ _ e)), r⟩
theorem RepQ.dic {ds : List (Key × D)} (h : RepQ K g H al v (.dic ds)) : ∃ a vs, v = .ref a ∧ Rd H a (.dK vs) ∧ RepKv K (reg g H 1) al vs ds := by
  cases h with
  | val r => cases r with | dic a b => exact ⟨_, _, rfl, Rd.same a reg_le, b⟩
  | ownD e r => exact ⟨_, _, rfl, .inl (reg_le _ _ e), r⟩
theorem RepQ.tup {ds : List D} (h : RepQ K g H al v (.tup ds)) : ∃ a vs, v = .ref a ∧ SqT K (reg g H 1) a vs ∧ SqT K H a vs ∧ Reps K (reg g H 1) al vs ds := by
  cases h with
  | val r => cases r with | tup a b => exact ⟨_, _, rfl, a, SqT.same a reg_le, b⟩
theorem RepQ.int {i : Int} (h : RepQ K g H al v (.int i)) : v = .int i := by
  cases h with
  | val r => cases r; rfl
theorem RepQ.bl {i : Bool} (h : RepQ K g H al v (.bl i)) : v = .bl i := by
  cases h with
  | val r => cases r; rfl
theorem RepQ.str {i : Str} (h : RepQ K g H al v (.str i)) : v = .str i := by
  cases h with
  | val r => cases r; rfl
theorem RepQ.non (h : RepQ K g H al v .non) : v = .non := by
  cases h with
  | val r => cases r; rfl
/-- the fields, by their names -/
def Flds (K : PySem.W.Frag) (I : Hp) (al : List Addr) (vs : List (Str × V)) (fs : List (Str × D)) : Prop := ∀ f : Str, match fs.lookup f with
  | some d => ∃ v, vs.lookup f = some v ∧ Rep K I al v d
  | none => vs.lookup f = none
theorem RepQ.ins {C : Str} {fs : List (Str × D)} (h : RepQ K g H al v (.ins C fs)) : ∃ a dx vs, v = .ref a ∧ H a = some (.ins (He.ga K C) dx vs) ∧ Flds K (reg g H 1) al vs fs := by
  cases h with
  | val r => cases r with | ins a b => exact ⟨_, _, _, rfl, reg_le _ _ a, fun f => b.lookup⟩
  | ownI e r => exact ⟨_, _, _, rfl, reg_le _ _ e, fun f => r.lookup⟩
theorem RepQ.hnd {k : Nat} (h : RepQ K g H al v (.hnd k)) : ∃ a, v = .ref a ∧ al[k + 1]? = some a := by
  cases h with
  | val r => cases r with | hnd a => exact ⟨_, rfl, a⟩
theorem RepsQ.one {vs : List V} {d : D} (h : RepsQ K g H al vs [d]) : ∃ v, vs = [v] ∧ RepQ K g H al v d := by
  cases h with
  | cons a b => cases b; exact ⟨_, rfl, a⟩
theorem RepsQ.two {vs : List V} {d e : D} (h : RepsQ K g H al vs [d, e]) : ∃ v u, vs = [v, u] ∧ RepQ K g H al v d ∧ RepQ K g H al u e := by
  cases h with
  | cons a b =>
    obtain ⟨u, rfl, r⟩ := b.one
    exact ⟨_, u, rfl, a, r⟩
end
abbrev RQ (K : PySem.W.Frag) : (Addr → Nat) → Hp → List Addr → V → D → Prop := fun g H al v d => RepQ K g H al v d
abbrev RQs (K : PySem.W.Frag) : (Addr → Nat) → Hp → List Addr → List V → List D → Prop := fun g H al v d => RepsQ K g H al v d
def VQ (X : Cx) (O : List Nat) (E : XS) (e : Expr) (f : Env → Mo D) : Prop := PE X e (lift (RQ X.K) X.K O E f)
def VAQ (X : Cx) (O : List Nat) (E : XS) (es : List Expr) (f : Env → Mo (List D)) : Prop := PA X es (lift (RQs X.K) X.K O E f)
def VE (X : Cx) (O : List Nat) (E : XS) (e : Expr) (f : Env → Mo D) : Prop := PE X e (lift (RR X.K) X.K O E f)
def VT (X : Cx) (O : List Nat) (E : XS) (e : Expr) (f : Env → Mo Bool) : Prop := PT X e (lift RB X.K O E f)
def VA (X : Cx) (O : List Nat) (E : XS) (es : List Expr) (f : Env → Mo (List D)) : Prop := PA X es (lift (RRs X.K) X.K O E f)
section
variable {α β γ δ : Type} {R : (Addr → Nat) → Hp → List Addr → β → α → Prop} {R' : (Addr → Nat) → Hp → List Addr → δ → γ → Prop} {K : PySem.W.Frag} {O : List Nat} {E : XS} {T : Hp} {ρ : Env} {S S' : Objs.T} {g g1 g' : Addr → Nat} {al al1 al' : List Addr} {σ : L2.St} {H H1 H' : Hp}
theorem Post.le {m : Mo α} {Q : β → Hp → Prop} (le : Le g al H g1 al1 H1) (h : Post R K O E T ρ σ g al H m S Q) : Post R K O E T ρ σ g1 al1 H1 m S Q :=
  wp_mono h (fun d S' k v g' al' H' s l r => k v g' al' H' s (le.trans l) r) fun C fs S' k g' al' H' dx s l r => k g' al' H' dx s (le.trans l) r
theorem Post.imp {m : Mo α} {Q Q' : β → Hp → Prop} (h : Post R K O E T ρ σ g al H m S Q) (k : ∀ v H, Q v H → Q' v H) : Post R K O E T ρ σ g al H m S Q' :=
  wp_mono h (fun d S' k' v g' al' H' s l r => k _ _ (k' v g' al' H' s l r)) fun _ _ _ k => k
/-- first m, then what hangs on its answer -/
theorem Post.bn {m : Mo α} {f : α → Mo γ} {Q : δ → Hp → Prop} {P : β → Hp → Prop} (h : Post R' K O E T ρ σ g al H (bnd m f) S Q)
    (k : ∀ v d S' g' al' H', SR K O T ρ S' g' al' σ H' → Le g al H g' al' H' → R g' H' al' v d → Post R' K O E T ρ σ g' al' H' (f d) S' Q → P v H') : Post R K O E T ρ σ g al H m S P := by
  unfold Post at h
  rw [wp_bnd] at h
  refine wp_mono h (fun d S1 w v g1 al1 H1 s l r => k v d S1 g1 al1 H1 s l r ?_) (fun C fs S1 k => k)
  exact wp_mono w (fun d S' k v g' al' H' s l' r => k v g' al' H' s (l.trans l') r) fun C fs S' k g' al' H' dx s l' r => k g' al' H' dx s (l.trans l') r
theorem Post.rt {d : α} {Q : β → Hp → Prop} (h : Post R K O E T ρ σ g al H (ret d) S Q) (s : SR K O T ρ S' g' al' σ H') (e : S' = S) (l : Le g al H g' al' H') {v : β} (r : R g' H' al' v d) : Q v H' := by
  subst e
  exact h v g' al' H' s l r
theorem Post.rt' {d : α} {Q : β → Hp → Prop} (h : Post R K O E T ρ σ g al H (ret d) S Q) (s : SR K O T ρ S g al σ H) {v : β} (r : R g H al v d) : Q v H := h v g al H s .refl r
theorem Post.nop {Q : β → Hp → Prop} (h : Post R K O E T ρ σ g al H nop S Q) : False := h
theorem Post.gd {b : Bool} {m : Mo α} {Q : β → Hp → Prop} (h : Post R K O E T ρ σ g al H (grd b m) S Q) : b = true ∧ Post R K O E T ρ σ g al H m S Q := wp_grd.mp h
theorem Post.op {o : Option α} {Q : β → Hp → Prop} (h : Post R K O E T ρ σ g al H (opt o) S Q) : ∃ a, o = some a ∧ Post R K O E T ρ σ g al H (ret a) S Q := by
  obtain ⟨a, e, q⟩ := wp_opt.mp h
  exact ⟨a, e, q⟩
end
section
variable {X : Cx} {O : List Nat} {E : XS}
theorem PA.weak {es : List Expr} {t t' : TA} (h : PA X es t) (w : ∀ σ H Q, t' σ H Q → t σ H Q) : PA X es t' := ⟨fun pos pins s σ H Q I q => h.run pos pins s σ H Q I (w _ _ _ q)⟩
theorem PT.weak {e : Expr} {t t' : TT} (h : PT X e t) (w : ∀ σ H Q, t' σ H Q → t σ H Q) : PT X e t' := ⟨fun pins s σ H Q I q => h.run pins s σ H Q I (w _ _ _ q)⟩
theorem PS.weak {e : Stmt} {t t' : TS} (h : PS X e t) (w : ∀ D σ H, t' D σ H → t D σ H) : PS X e t' := ⟨fun pins s σ H D I q => h.run pins s σ H D I (w _ _ _ q)⟩
theorem PSs.weak {e : List Stmt} {t t' : TS} (h : PSs X e t) (w : ∀ D σ H, t' D σ H → t D σ H) : PSs X e t' := ⟨fun pins s σ H D I q => h.run pins s σ H D I (w _ _ _ q)⟩
/-! ### names, constants -/
def fVar (i : Nat) : Env → Mo D := fun ρ => opt ((ρ[i]?).join)
def fC (d : D) : Env → Mo D := fun _ => ret d
theorem ve_var {i : Nat} {x : Str} {pos : Pos} (hi : i ∉ O) (h : PE X (.Name x pos) (tVar i)) : VE X O E (.Name x pos) (fVar i) := PE.weak h fun σ H Q ⟨T, ρ, S, g, al, s, w⟩ => by
  obtain ⟨d, e, w⟩ := Post.op w
  have e' : ρ[i]? = some (some d) := by
    cases q : ρ[i]? with
    | none => rw [q] at e; cases e
    | some o => rw [q] at e; cases o with
      | none => cases e
      | some d' => cases e; rfl
  obtain ⟨v, h1, h2⟩ := s.sl i d e' hi
  exact ⟨v, h1, w.rt' s h2⟩
theorem ve_const {e : Expr} {v : V} {d : D} (h : PE X e (tC v)) (r : ∀ I al, Rep X.K I al v d) : VE X O E e (fC d) := PE.weak h fun σ H Q ⟨T, ρ, S, g, al, s, w⟩ => w.rt' s (r _ _)
theorem ve_int {i : Int} {j pos} : VE X O E (.Constant (.int i) j pos) (fC (.int i)) := ve_const pe_int fun _ _ => .int i
theorem ve_bl {b : Bool} {j pos} : VE X O E (.Constant (.bool b) j pos) (fC (.bl b)) := ve_const pe_bl fun _ _ => .bl b
theorem ve_non {j pos} : VE X O E (.Constant .none j pos) (fC .non) := ve_const pe_non fun _ _ => .non
theorem ve_str {x : Str} {j pos} : VE X O E (.Constant (.str x) j pos) (fC (.str x)) := ve_const pe_str fun _ _ => .str x
/-! ### one, two, many values -/
/-- what is asked of a rule on one value -/
def By1 (X : Cx) (O : List Nat) (E : XS) (r : V → Hp → VK → Prop) (k : D → Mo D) : Prop := ∀ u x T ρ S g al σ H Q, SR X.K O T ρ S g al σ H → RepQ X.K g H al u x → Post (RR X.K) X.K O E T ρ σ g al H (k x) S Q → r u H Q
def By2 (X : Cx) (O : List Nat) (E : XS) (r : R2) (k : D → D → Mo D) : Prop := ∀ u v x y T ρ S g al σ H Q, SR X.K O T ρ S g al σ H → RepQ X.K g H al u x → RepQ X.K g H al v y → Post (RR X.K) X.K O E T ρ σ g al H (k x y) S Q → r u v H Q
def ByN (X : Cx) (O : List Nat) (E : XS) (r : List V → Hp → VK → Prop) (k : List D → Mo D) : Prop := ∀ us xs T ρ S g al σ H Q, SR X.K O T ρ S g al σ H → RepsQ X.K g H al us xs → Post (RR X.K) X.K O E T ρ σ g al H (k xs) S Q → r us H Q
def f1 (fa : Env → Mo D) (k : D → Mo D) : Env → Mo D := fun ρ => bnd (fa ρ) k
def f2 (fa fb : Env → Mo D) (k : D → D → Mo D) : Env → Mo D := fun ρ => bnd (fa ρ) fun x => bnd (fb ρ) fun y => k x y
def fN (fa : Env → Mo (List D)) (k : List D → Mo D) : Env → Mo D := fun ρ => bnd (fa ρ) k
variable {a b e : Expr} {es : List Expr} {fa fb : Env → Mo D} {fl : Env → Mo (List D)} {pos : Pos} {k1 : D → Mo D} {k2 : D → D → Mo D} {kN : List D → Mo D}
theorem vq_val (h : VE X O E e fa) : VQ X O E e fa := PE.weak h fun σ H Q ⟨T, ρ, S, g, al, s, w⟩ => ⟨T, ρ, S, g, al, s, wp_mono w (fun d S' k v g' al' H' s l r => k v g' al' H' s l (.val r)) fun _ _ _ k => k⟩
theorem vq_own {i : Nat} {x : Str} (hi : i ∈ O) (h : PE X (.Name x pos) (tVar i)) : VQ X O E (.Name x pos) (fVar i) := PE.weak h fun σ H Q ⟨T, ρ, S, g, al, s, w⟩ => by
  obtain ⟨d, e, w⟩ := Post.op w
  have e' : ρ[i]? = some (some d) := by
    cases q : ρ[i]? with
    | none => rw [q] at e; cases e
    | some o => rw [q] at e; cases o with
      | none => cases e
      | some d' => cases e; rfl
  obtain ⟨a, o, h1, h2, h3, _⟩ := s.ow i d e' hi
  refine ⟨.ref a, h1, ?_⟩
  cases h3 with
  | lst r => exact w _ g al H s .refl (.own h2 r)
  | dic r => exact w _ g al H s .refl (.ownD h2 r)
  | self e r => exact w _ g al H s .refl (.ownI h2 r)
theorem lift1 {r : V → Hp → VK → Prop} (hk : By1 X O E r k1) {σ : L2.St} {H : Hp} {Q : VK} (h : lift (RR X.K) X.K O E (f1 fa k1) σ H Q) : lift (RQ X.K) X.K O E fa σ H fun u H1 => r u H1 Q := by
  obtain ⟨T, ρ, S, g, al, s, w⟩ := h
  exact ⟨T, ρ, S, g, al, s, w.bn fun v d S' g' al' H' s' l r w' => hk v d T ρ S' g' al' σ H' Q s' r w'⟩
theorem lift2 {r : R2} (hk : By2 X O E r k2) {σ : L2.St} {H : Hp} {Q : VK} (h : lift (RR X.K) X.K O E (f2 fa fb k2) σ H Q) : lift (RQ X.K) X.K O E fa σ H fun u H1 => lift (RQ X.K) X.K O E fb σ H1 fun v H2 => r u v H2 Q := by
  obtain ⟨T, ρ, S, g, al, s, w⟩ := h
  exact ⟨T, ρ, S, g, al, s, w.bn fun v d S' g' al' H' s' l r w' => ⟨T, ρ, S', g', al', s', w'.bn fun v2 d2 S2 g2 al2 H2 s2 l2 r2 w2 => hk v v2 d d2 T ρ S2 g2 al2 σ H2 Q s2 (r.le l2) r2 w2⟩⟩
theorem liftN {r : List V → Hp → VK → Prop} (hk : ByN X O E r kN) {σ : L2.St} {H : Hp} {Q : VK} (h : lift (RR X.K) X.K O E (fN fl kN) σ H Q) : lift (RQs X.K) X.K O E fl σ H fun u H1 => r u H1 Q := by
  obtain ⟨T, ρ, S, g, al, s, w⟩ := h
  exact ⟨T, ρ, S, g, al, s, w.bn fun v d S' g' al' H' s' l r w' => hk v d T ρ S' g' al' σ H' Q s' r w'⟩
theorem ve_op {op : Operator} {r : R2} (ho : OpR X (binaryOp op) r) (hk : By2 X O E r k2) (ha : VQ X O E a fa) (hb : VQ X O E b fb) : VE X O E (.BinOp a op b pos) (f2 fa fb k2) := PE.weak (pe_op ho ha hb) fun _ _ _ h => lift2 hk h
theorem ve_cmp {op : CmpOp} {r : R2} (ho : OpR X (compareOp op) r) (hk : By2 X O E r k2) (ha : VQ X O E a fa) (hb : VQ X O E b fb) (hm : behindInMarks op b = false) : VE X O E (.Compare a [op] [b] pos) (f2 fa fb k2) := PE.weak (pe_cmpR ho ha hb hm) fun _ _ _ h => lift2 hk h
theorem ve_ix {r : R2} (ho : IxR X r) (hk : By2 X O E r k2) (ha : VQ X O E a fa) (hb : VQ X O E b fb) (hs : PlainIx b) : VE X O E (.Subscript a b pos) (f2 fa fb k2) := PE.weak (pe_ix ho ha hb hs) fun _ _ _ h => lift2 hk h
theorem ve_un {op : UnaryOp} {r : V → Hp → VK → Prop} (ho : UnR X (unaryOp op) r) (hk : By1 X O E r k1) (ha : VQ X O E a fa) : VE X O E (.UnaryOp op a pos) (f1 fa k1) := PE.weak (pe_un ho ha) fun _ _ _ h => lift1 hk h
/-! ### argument lists -/
def fNil : Env → Mo (List D) := fun _ => ret []
def fCons (fa : Env → Mo D) (fl : Env → Mo (List D)) : Env → Mo (List D) := fun ρ => bnd (fa ρ) fun x => bnd (fl ρ) fun xs => ret (x :: xs)
theorem va_nil : VA X O E [] fNil := PA.weak pa_nil fun σ H Q ⟨T, ρ, S, g, al, s, w⟩ => w.rt' s .nil
theorem va_cons (ha : VE X O E e fa) (hl : VA X O E es fl) (hs : starEach (e :: es) X.env = (false, eval e X.env) :: starEach es X.env := by rfl) : VA X O E (e :: es) (fCons fa fl) := PA.weak (pa_cons ha hl hs) fun σ H Q ⟨T, ρ, S, g, al, s, w⟩ =>
  ⟨T, ρ, S, g, al, s, w.bn fun v d S' g' al' H' s' l r w' => ⟨T, ρ, S', g', al', s', w'.bn fun vs ds S2 g2 al2 H2 s2 l2 r2 w2 => w2.rt' s2 (Reps.cons (Rep.mono l2.s l2.p _ _ r) r2)⟩⟩
theorem vaq_nil : VAQ X O E [] fNil := PA.weak pa_nil fun σ H Q ⟨T, ρ, S, g, al, s, w⟩ => w.rt' s .nil
theorem vaq_cons (ha : VQ X O E e fa) (hl : VAQ X O E es fl) (hs : starEach (e :: es) X.env = (false, eval e X.env) :: starEach es X.env := by rfl) : VAQ X O E (e :: es) (fCons fa fl) := PA.weak (pa_cons ha hl hs) fun σ H Q ⟨T, ρ, S, g, al, s, w⟩ =>
  ⟨T, ρ, S, g, al, s, w.bn fun v d S' g' al' H' s' l r w' => ⟨T, ρ, S', g', al', s', w'.bn fun vs ds S2 g2 al2 H2 s2 l2 r2 w2 => w2.rt' s2 (RepsQ.cons (RepQ.le r l2) r2)⟩⟩
theorem ve_callB {x : Str} {id : String} {p : Pos} {r : List V → Hp → VK → Prop} (hc : CallR X (.builtin id) r) (hk : ByN X O E r kN) (hg : Gl X x) (hm : X.mg x = none) (hv : bootBuiltins x = some (.builtin id)) (ha : VAQ X O E (e :: es) fl) (hn : x ≠ "__name__" := by decide) (hdb : (x == ("__debug__" : Str)) = false := by decide)
    (he : starEach (e :: es) X.env = (false, eval e X.env) :: starEach es X.env := by rfl) (hpl : (backTo pos (starEach es X.env)).any (·.1) = false := by rfl) : VE X O E (.Call (.Name x p) (e :: es) [] pos) (fN fl kN) :=
  PE.weak (pe_callB hc hg hm hv ha hn hdb he hpl) fun _ _ _ h => liftN hk h
theorem ve_callTy {x : Str} {id : String} {p : Pos} {r : List V → Hp → VK → Prop} (hc : CallR X (.type id) r) (hk : ByN X O E r kN) (hg : Gl X x) (hm : X.mg x = none) (hv : bootBuiltins x = some (.type id)) (ha : VAQ X O E (e :: es) fl) (hn : x ≠ "__name__" := by decide) (hdb : (x == ("__debug__" : Str)) = false := by decide)
    (he : starEach (e :: es) X.env = (false, eval e X.env) :: starEach es X.env := by rfl) (hpl : (backTo pos (starEach es X.env)).any (·.1) = false := by rfl) : VE X O E (.Call (.Name x p) (e :: es) [] pos) (fN fl kN) :=
  PE.weak (pe_callTy hc hg hm hv ha hn hdb he hpl) fun _ _ _ h => liftN hk h
/-! ### tuples and lists written -/
def kTup (ds : List D) : Mo D := grd (decide (ds.length ≤ 1000)) (ret (.tup ds))
def kLst (ds : List D) : Mo D := grd (decide (ds.length ≤ 1000)) (ret (.lst ds))
theorem liftA {r : List V → Hp → VK → Prop} (hk : ∀ us xs T ρ S g al σ H Q, SR X.K O T ρ S g al σ H → Reps X.K (reg g H 1) al us xs → Post (RR X.K) X.K O E T ρ σ g al H (kN xs) S Q → r us H Q) {σ : L2.St} {H : Hp} {Q : VK} (h : lift (RR X.K) X.K O E (fN fl kN) σ H Q) : lift (RRs X.K) X.K O E fl σ H fun u H1 => r u H1 Q := by
  obtain ⟨T, ρ, S, g, al, s, w⟩ := h
  exact ⟨T, ρ, S, g, al, s, w.bn fun v d S' g' al' H' s' l r w' => hk v d T ρ S' g' al' σ H' Q s' r w'⟩
theorem sz {n : Nat} (h : decide (n ≤ 1000) = true) : n ≤ sizeLine := Nat.le_of_lt (small1000 (of_decide_eq_true h))
theorem ve_tup {x1} (h : VA X O E es fl) : VE X O E (.Tuple es x1 pos) (fN fl kTup) := PE.weak (pe_tup h) fun σ H Q h => liftA (r := fun us H Q => us.length ≤ sizeLine ∧ ∀ p, H p = none → Q (.ref p) (upd H p (.tup us))) (fun us xs T ρ S g al σ H Q s r w => by
  obtain ⟨hl, w⟩ := w.gd
  exact ⟨by rw [r.len]; exact sz hl, fun p np => w.rt (s.alloc np) rfl (Le.alloc np) (.tup (.inl (.inl (alloc_at np))) (r.mono (Le.alloc (al := al) np).s List.prefix_rfl))⟩) h
theorem ve_lst (h : VA X O E es fl) : VE X O E (.List es pos) (fN fl kLst) := PE.weak (pe_lst h) fun σ H Q h => liftA (r := fun us H Q => us.length ≤ sizeLine ∧ ∀ p, H p = none → Q (.ref p) (upd H p (.lst us))) (fun us xs T ρ S g al σ H Q s r w => by
  obtain ⟨hl, w⟩ := w.gd
  exact ⟨by rw [r.len]; exact sz hl, fun p np => w.rt (s.alloc np) rfl (Le.alloc np) (.lst (.inl (alloc_at np)) (r.mono (Le.alloc (al := al) np).s List.prefix_rfl))⟩) h
end
end Vl
set_option Elab.async false
set_option linter.all false
set_option maxRecDepth 100000
set_option maxHeartbeats 4000000
namespace Vl
open PySem PySem.Spec PyProof.Rows L2 Oc
variable [Ob : Objs]
/-! ### tests -/
/-- the truth of a value -/
def truD : D → Option Bool
  | .non => some false
  | .bl b => some b
  | .int i => some (i != 0)
  | .str x => if x.length ≤ 1000 then some ((x.length : Int) != 0) else none
  | .lst ds => some (!ds.isEmpty)
  | .tup ds => some (!ds.isEmpty)
  | .dic ds => none
  | .ins _ _ => none
  | .hnd _ => none
def kTru (d : D) : Mo Bool := opt (truD d)
section
variable {X : Cx} {O : List Nat} {E : XS} {a b c e : Expr} {rest : List Expr} {fa fb fc : Env → Mo D} {ta tb : Env → Mo Bool} {pos : Pos}
theorem Reps.isEmpty {K : PySem.W.Frag} {I : Hp} {al : List Addr} {vs : List V} {ds : List D} (h : Reps K I al vs ds) : vs.isEmpty = ds.isEmpty := by cases h <;> rfl
theorem rdL {K : PySem.W.Frag} {g : Addr → Nat} {H : Hp} {n : Nat} {a : Addr} {xs : List V} (h : Rd (reg g H n) a (.lst xs)) : SqL K H a xs := .inl (Rd.same h reg_le)
theorem truQ_of {K : PySem.W.Frag} {g : Addr → Nat} {H : Hp} {al : List Addr} {v : V} {d : D} {k : Bool} (r : RepQ K g H al v d) (h : truD d = some k) : TruV K v H k := by
  cases r with
  | own e b =>
    cases h
    exact .inl ⟨_, .inl (.inl (reg_le _ _ e)), by rw [b.isEmpty]⟩
  | ownD e b => cases h
  | ownI e b => cases h
  | val r => cases r with
    | non => cases h; rfl
    | bl b => cases h; rfl
    | int i => cases h; rfl
    | str x =>
      have h' : (if x.length ≤ 1000 then some ((x.length : Int) != 0) else none) = some k := h
      by_cases hx : x.length ≤ 1000
      · rw [if_pos hx] at h'
        cases h'
        exact ⟨Nat.le_of_lt (small1000 hx), rfl⟩
      · rw [if_neg hx] at h'
        cases h'
    | lst a b => cases h; exact .inl ⟨_, rdL a, by rw [b.isEmpty]⟩
    | tup a b => cases h; exact .inr (.inl ⟨_, SqT.same a reg_le, by rw [b.isEmpty]⟩)
    | dic a b => cases h
    | ins a b => cases h
    | hnd a => cases h
theorem tru_of {K : PySem.W.Frag} {g : Addr → Nat} {H : Hp} {al : List Addr} {v : V} {d : D} {k : Bool} (r : Rep K (reg g H 1) al v d) (h : truD d = some k) : TruV K v H k := truQ_of (.val r) h
def ft (fa : Env → Mo D) : Env → Mo Bool := fun ρ => bnd (fa ρ) kTru
/-- any expression but a comparison, and, or, not -/
theorem vt_tru (h : VQ X O E a fa) (he : ∀ whole, isTrue a X.env whole = (do let v ← whole; standAt a.pos; holding [v] (truthy v)) := by intro _; rfl) : VT X O E a (ft fa) :=
  PT.weak (pt_truth h he) fun σ H Q ⟨T, ρ, S, g, al, s, w⟩ => ⟨T, ρ, S, g, al, s, w.bn fun v d S' g' al' H' s' l r w' => by
    obtain ⟨k, e, w'⟩ := Post.op w'
    exact ⟨k, truQ_of r e, w'.rt' s' rfl⟩⟩
def kBl : D → Mo Bool
  | .bl b => ret b
  | _ => nop
theorem vt_cmp {op : CmpOp} {r : R2} {k2 : D → D → Mo D} (ho : OpR X (compareOp op) r) (hk : By2 X O E r k2) (ha : VQ X O E a fa) (hb : VQ X O E b fb) (hm : behindInMarks op b = false) : VT X O E (.Compare a [op] [b] pos) (fun ρ => bnd (f2 fa fb k2 ρ) kBl) :=
  PT.weak (pt_cmpR ho ha hb hm) fun σ H Q ⟨T, ρ, S, g, al, s, w⟩ => lift2 hk ⟨T, ρ, S, g, al, s, w.bn (R := RR X.K) fun v d S' g' al' H' s' l r w' => by
    cases d with
    | bl b => cases r; exact ⟨b, rfl, w'.rt' s' rfl⟩
    | _ => exact w'.elim⟩
def tNt (ta : Env → Mo Bool) : Env → Mo Bool := fun ρ => bnd (ta ρ) fun k => ret (!k)
theorem vt_not (ha : VT X O E a ta) : VT X O E (.UnaryOp .Not a pos) (tNt ta) := PT.weak (pt_not ha) fun σ H Q ⟨T, ρ, S, g, al, s, w⟩ => ⟨T, ρ, S, g, al, s, w.bn fun v d S' g' al' H' s' l r w' => by
    cases r
    exact w'.rt' s' rfl⟩
def VW (X : Cx) (O : List Nat) (E : XS) (e : Expr) (f : Env → Mo Bool) : Prop := PW X e (lift RB X.K O E f)
theorem PW.weak {e : Expr} {t t' : TT} (h : PW X e t) (w : ∀ σ H Q, t' σ H Q → t σ H Q) : PW X e t' := ⟨fun wh pins s σ H Q I q => h.run wh pins s σ H Q I (w _ _ _ q)⟩
theorem VW.vt (h : VW X O E e ta) : VT X O E e ta := PW.pt h
def tAn (ta tb : Env → Mo Bool) : Env → Mo Bool := fun ρ => bnd (ta ρ) fun k => if k = true then tb ρ else ret false
def tO (ta tb : Env → Mo Bool) : Env → Mo Bool := fun ρ => bnd (ta ρ) fun k => if k = true then ret true else tb ρ
theorem vw_and1 (ha : VT X O E a ta) : VW X O E (.BoolOp .And [a] pos) ta := pw_and1 ha
theorem vw_or1 (ha : VT X O E a ta) : VW X O E (.BoolOp .Or [a] pos) ta := pw_or1 ha
theorem vw_and (ha : VT X O E a ta) (hb : VW X O E (.BoolOp .And (b :: rest) pos) tb) : VW X O E (.BoolOp .And (a :: b :: rest) pos) (tAn ta tb) := PW.weak (pw_and ha hb) fun σ H Q ⟨T, ρ, S, g, al, s, w⟩ => ⟨T, ρ, S, g, al, s, w.bn fun v d S' g' al' H' s' l r w' => by
  cases r
  cases v with
  | true => exact ⟨T, ρ, S', g', al', s', w'⟩
  | false => exact w'.rt' s' rfl⟩
theorem vw_or (ha : VT X O E a ta) (hb : VW X O E (.BoolOp .Or (b :: rest) pos) tb) : VW X O E (.BoolOp .Or (a :: b :: rest) pos) (tO ta tb) := PW.weak (pw_or ha hb) fun σ H Q ⟨T, ρ, S, g, al, s, w⟩ => ⟨T, ρ, S, g, al, s, w.bn fun v d S' g' al' H' s' l r w' => by
  cases r
  cases v with
  | false => exact ⟨T, ρ, S', g', al', s', w'⟩
  | true => exact w'.rt' s' rfl⟩
/-! ### and, or, not as values -/
def fAn (fa fb : Env → Mo D) : Env → Mo D := fun ρ => bnd (fa ρ) fun x => bnd (kTru x) fun k => if k = true then fb ρ else ret x
def fO (fa fb : Env → Mo D) : Env → Mo D := fun ρ => bnd (fa ρ) fun x => bnd (kTru x) fun k => if k = true then ret x else fb ρ
theorem bnd_opt {α β : Type} {o : Option α} {f : α → Mo β} : bnd (opt o) f = match o with | some a => f a | none => nop := by
  cases o <;> rfl
theorem Post.tru {β δ α : Type} {R : (Addr → Nat) → Hp → List Addr → β → α → Prop} {K : PySem.W.Frag} {T : Hp} {ρ : Env} {S : Objs.T} {g : Addr → Nat} {al : List Addr} {σ : L2.St} {H : Hp} {d : D} {f : Bool → Mo α} {Q : β → Hp → Prop}
    (h : Post R K O E T ρ σ g al H (bnd (kTru d) f) S Q) : ∃ k, truD d = some k ∧ Post R K O E T ρ σ g al H (f k) S Q := by
  unfold kTru at h
  rw [bnd_opt] at h
  split at h
  · next a e => exact ⟨a, e, h⟩
  · exact h.elim
theorem ve_one {op} (h : VE X O E a fa) : VE X O E (.BoolOp op [a] pos) fa := pe_one h
theorem ve_and (ha : VE X O E a fa) (hb : VE X O E (.BoolOp .And (b :: rest) pos) fb) : VE X O E (.BoolOp .And (a :: b :: rest) pos) (fAn fa fb) := PE.weak (pe_andT ha hb) fun σ H Q ⟨T, ρ, S, g, al, s, w⟩ => ⟨T, ρ, S, g, al, s, w.bn fun v d S' g' al' H' s' l r w' => by
  obtain ⟨k, e, w'⟩ := Post.tru (δ := D) w'
  refine ⟨k, tru_of r e, ?_⟩
  cases k with
  | true => exact ⟨T, ρ, S', g', al', s', w'⟩
  | false => exact w'.rt' s' r⟩
theorem ve_or (ha : VE X O E a fa) (hb : VE X O E (.BoolOp .Or (b :: rest) pos) fb) : VE X O E (.BoolOp .Or (a :: b :: rest) pos) (fO fa fb) := PE.weak (pe_orT ha hb) fun σ H Q ⟨T, ρ, S, g, al, s, w⟩ => ⟨T, ρ, S, g, al, s, w.bn fun v d S' g' al' H' s' l r w' => by
  obtain ⟨k, e, w'⟩ := Post.tru (δ := D) w'
  refine ⟨k, tru_of r e, ?_⟩
  cases k with
  | false => exact ⟨T, ρ, S', g', al', s', w'⟩
  | true => exact w'.rt' s' r⟩
def fNt (fa : Env → Mo D) : Env → Mo D := fun ρ => bnd (fa ρ) fun x => bnd (kTru x) fun k => ret (.bl (!k))
theorem ve_not (ha : VQ X O E a fa) : VE X O E (.UnaryOp .Not a pos) (fNt fa) := PE.weak (pe_notT ha) fun σ H Q ⟨T, ρ, S, g, al, s, w⟩ => ⟨T, ρ, S, g, al, s, w.bn fun v d S' g' al' H' s' l r w' => by
  obtain ⟨k, e, w'⟩ := Post.tru (δ := D) w'
  exact ⟨k, truQ_of r e, w'.rt' s' (.bl _)⟩⟩
def fIf (tc : Env → Mo Bool) (fa fb : Env → Mo D) : Env → Mo D := fun ρ => bnd (tc ρ) fun k => if k = true then fa ρ else fb ρ
theorem ve_if (hc : VT X O E c ta) (ha : VE X O E a fa) (hb : VE X O E b fb) : VE X O E (.IfExp c a b pos) (fIf ta fa fb) := PE.weak (pe_ifExp hc ha hb) fun σ H Q ⟨T, ρ, S, g, al, s, w⟩ => ⟨T, ρ, S, g, al, s, w.bn fun v d S' g' al' H' s' l r w' => by
  cases r
  cases v with
  | true => exact ⟨T, ρ, S', g', al', s', w'⟩
  | false => exact ⟨T, ρ, S', g', al', s', w'⟩⟩
/-! ### numbers -/
def kInt2 (f : Int → Int → Option D) : D → D → Mo D
  | .int i, .int j => opt (f i j)
  | _, _ => nop
theorem by_int {C : Int → Int → Prop} {gv : Int → Int → V} {f : Int → Int → Option D} (h : ∀ i j d, f i j = some d → C i j ∧ ∀ K I al, Rep K I al (gv i j) d) : By2 X O E (rI C gv) (kInt2 f) := fun u v x y T ρ S g al σ H Q s r1 r2 w => by
  unfold kInt2 at w
  split at w
  · next i j =>
    obtain ⟨d, e, w⟩ := Post.op w
    obtain ⟨c, r⟩ := h i j d e
    exact ⟨i, j, r1.int, r2.int, c, w.rt' s (r _ _ _)⟩
  · exact w.elim
theorem by_int0 {gv : Int → Int → V} {f : Int → Int → Option D} (h : ∀ i j d, f i j = some d → ∀ K I al, Rep K I al (gv i j) d) : By2 X O E (rI0 gv) (kInt2 f) := fun u v x y T ρ S g al σ H Q s r1 r2 w => by
  unfold kInt2 at w
  split at w
  · next i j =>
    obtain ⟨d, e, w⟩ := Post.op w
    exact ⟨i, j, r1.int, r2.int, w.rt' s (h i j d e _ _ _)⟩
  · exact w.elim
def kSub := kInt2 fun i j => some (.int (i - j))
def kMul := kInt2 fun i j => if (-(2 ^ 64) < i ∧ i < 2 ^ 64) then some (.int (i * j)) else none
def kMod := kInt2 fun i j => if 0 < j then some (.int (i % j)) else none
def kDiv := kInt2 fun i j => if 0 < j ∧ j < 1073741824 then some (.int (i / j)) else none
def kLt := kInt2 fun i j => some (.bl (decide (i < j)))
def kLe := kInt2 fun i j => some (.bl (decide (i ≤ j)))
def kGt := kInt2 fun i j => some (.bl (decide (j < i)))
def kGe := kInt2 fun i j => some (.bl (decide (j ≤ i)))
theorem ve_sub (ha : VQ X O E a fa) (hb : VQ X O E b fb) : VE X O E (.BinOp a .Sub b pos) (f2 fa fb kSub) := ve_op op_sub (by_int0 fun i j d e K I al => by cases e; exact .int _) ha hb
theorem ve_mul (ha : VQ X O E a fa) (hb : VQ X O E b fb) : VE X O E (.BinOp a .Mult b pos) (f2 fa fb kMul) := ve_op op_mul (by_int fun i j d e => by
  split at e
  · next h => cases e; exact ⟨.inl h, fun K I al => .int _⟩
  · cases e) ha hb
theorem ve_mod (ha : VQ X O E a fa) (hb : VQ X O E b fb) : VE X O E (.BinOp a .Mod b pos) (f2 fa fb kMod) := ve_op op_mod (by_int fun i j d e => by
  split at e
  · next h => cases e; exact ⟨h, fun K I al => .int _⟩
  · cases e) ha hb
theorem ve_div (ha : VQ X O E a fa) (hb : VQ X O E b fb) : VE X O E (.BinOp a .FloorDiv b pos) (f2 fa fb kDiv) := ve_op op_fdiv (by_int fun i j d e => by
  split at e
  · next h => cases e; exact ⟨h, fun K I al => .int _⟩
  · cases e) ha hb
theorem by_lt : By2 X O E (rI0 fun i j => .bl (decide (i < j))) kLt := by_int0 fun i j d e K I al => by cases e; exact .bl _
theorem by_le : By2 X O E (rI0 fun i j => .bl (decide (i ≤ j))) kLe := by_int0 fun i j d e K I al => by cases e; exact .bl _
theorem by_gt : By2 X O E (rI0 fun i j => .bl (decide (j < i))) kGt := by_int0 fun i j d e K I al => by cases e; exact .bl _
theorem by_ge : By2 X O E (rI0 fun i j => .bl (decide (j ≤ i))) kGe := by_int0 fun i j d e K I al => by cases e; exact .bl _
/-! ### + -/
theorem OpR.or {f : Value → Value → Sem Value} {r r' : R2} (h : OpR X f r) (h' : OpR X f r') : OpR X f (fun x y H Q => r x y H Q ∨ r' x y H Q) := fun pins s σ H x y v u Q I rx ry q => by
  rcases q with q | q
  · exact h pins s σ H x y v u Q I rx ry q
  · exact h' pins s σ H x y v u Q I rx ry q
theorem By2.mapL {r r' : R2} {k : D → D → Mo D} (h : By2 X O E r k) : By2 X O E (fun x y H Q => r x y H Q ∨ r' x y H Q) k := fun u v x y T ρ S g al σ H Q s r1 r2 w => .inl (h u v x y T ρ S g al σ H Q s r1 r2 w)
/-- lists that may be locked -/
def rCatR : R2 := fun x y H Q => ∃ l b xs zs, x = .ref l ∧ y = .ref b ∧ Rd H l (.lst xs) ∧ Rd H b (.lst zs) ∧ xs.length + zs.length ≤ sizeLine ∧ ∀ p, H p = none → Q (.ref p) (upd H p (.lst (xs ++ zs)))
theorem op_catR : OpR X (binaryOp .Add) rCatR := by
  intro pins s σ H x y v u Q I rx ry h
  obtain ⟨l, b, xs, zs, rfl, rfl, hH, hB, hz, q⟩ := h
  cases rx
  cases ry
  obtain ⟨z, its, n, r, e⟩ := hH.ok I.hok
  obtain ⟨z2, its2, n2, r2, e2⟩ := hB.ok I.hok
  refine PySem.P.add_list e e2 ?_ (by rw [List.size_toArray, List.size_toArray, ← r.length, ← r2.length]; exact hz)
  have ea : its.toArray ++ its2.toArray = (its ++ its2).toArray := by simp
  rw [ea]
  exact ⟨.ref _, _, I.lnew (t' := s.toks) (r.append r2) (by rw [List.length_append]; exact hz), rfl, q _ I.fresh⟩
def LIM : Nat := 100000
theorem lim {n : Nat} (h : n ≤ LIM) : n ≤ sizeLine := by
  rw [sizeLine_eq]
  exact Nat.le_trans h (by decide)
/-- + of ints, texts, lists, tuples -/
def kAdd : D → D → Mo D
  | .int i, .int j => ret (.int (i + j))
  | .str x, .str y => grd (decide (x.length + y.length ≤ LIM)) (ret (.str (x ++ y)))
  | .lst xs, .lst ys => grd (decide (xs.length + ys.length ≤ LIM)) (ret (.lst (xs ++ ys)))
  | .tup xs, .tup ys => grd (decide (xs.length + ys.length ≤ LIM)) (ret (.tup (xs ++ ys)))
  | _, _ => nop
theorem ve_add (ha : VQ X O E a fa) (hb : VQ X O E b fb) : VE X O E (.BinOp a .Add b pos) (f2 fa fb kAdd) :=
  ve_op (OpR.or (OpR.or op_add op_add_str) (OpR.or op_catR op_catA)) (fun u v x y T ρ S g al σ H Q s r1 r2 w => by
    unfold kAdd at w
    split at w
    · next i j => exact .inl (.inl ⟨i, j, r1.int, r2.int, w.rt' s (.int _)⟩)
    · next i j =>
      obtain ⟨c, w⟩ := w.gd
      exact .inl (.inr ⟨i, j, r1.str, r2.str, lim (of_decide_eq_true c), w.rt' s (.str _)⟩)
    · next ds es =>
      obtain ⟨c, w⟩ := w.gd
      obtain ⟨a1, v1, e1, h1, _, b1⟩ := r1.lst
      obtain ⟨a2, v2, e2, h2, _, b2⟩ := r2.lst
      refine .inr (.inl ⟨_, _, _, _, e1, e2, h1, h2, by rw [b1.len, b2.len]; exact lim (of_decide_eq_true c), fun p np => ?_⟩)
      exact w.rt (s.alloc np) rfl (Le.alloc np) (.lst (.inl (alloc_at np)) ((b1.append b2).mono (Le.alloc (al := al) np).s List.prefix_rfl))
    · next ds es =>
      obtain ⟨c, w⟩ := w.gd
      obtain ⟨a1, v1, e1, h1, q1, b1⟩ := r1.tup
      obtain ⟨a2, v2, e2, h2, q2, b2⟩ := r2.tup
      refine .inr (.inr ⟨_, _, _, _, e1, e2, q1, q2, by rw [b1.len, b2.len]; exact lim (of_decide_eq_true c), ?_, ?_, ?_⟩)
      · rintro rfl
        cases b1
        exact w.rt' s (.tup h2 b2)
      · rintro _ rfl
        cases b2
        rw [List.append_nil] at w
        exact w.rt' s (.tup h1 b1)
      · exact fun _ _ p np => w.rt (s.alloc np) rfl (Le.alloc np) (.tup (.inl (.inl (alloc_at np))) ((b1.append b2).mono (Le.alloc (al := al) np).s List.prefix_rfl))
    · exact w.elim) ha hb
/-! ### subscripts, slices -/
/-- of lists, tuples, texts -/
def kAt : D → D → Mo D
  | .lst xs, .int i => opt (atI xs i)
  | .tup xs, .int i => opt (atI xs i)
  | .str z, .int i => grd (decide (z.length ≤ LIM)) (opt ((atI z.cps.toList i).map fun c => .str ⟨#[c]⟩))
  | _, _ => nop
theorem Reps.atI {K : PySem.W.Frag} {I : Hp} {al : List Addr} {vs : List V} {ds : List D} {i : Int} {d : D} (h : Reps K I al vs ds) (e : atI ds i = some d) : ∃ v, L2.atI vs i = some v ∧ Rep K I al v d := by
  unfold L2.atI at e ⊢
  rw [h.len]
  cases q : ixN ds.length i with
  | none => rw [q] at e; cases e
  | some j => rw [q] at e; exact h.get e
theorem by_at : By2 X O E (rIx X.K) kAt := fun u v x y T ρ S g al σ H Q s r1 r2 w => by
  unfold kAt at w
  split at w
  · next ds i =>
    obtain ⟨d, e, w⟩ := Post.op w
    obtain ⟨a1, v1, e1, _, h1, b1⟩ := r1.lst
    obtain ⟨v, e2, r⟩ := b1.atI e
    exact .inl ⟨_, _, i, v, e1, r2.int, h1, e2, w.rt' s r⟩
  · next ds i =>
    obtain ⟨d, e, w⟩ := Post.op w
    obtain ⟨a1, v1, e1, _, h1, b1⟩ := r1.tup
    obtain ⟨v, e2, r⟩ := b1.atI e
    exact .inr (.inl ⟨_, _, i, v, e1, r2.int, h1, e2, w.rt' s r⟩)
  · next z i =>
    obtain ⟨c, w⟩ := w.gd
    obtain ⟨d, e, w⟩ := Post.op w
    obtain ⟨c', e', e2⟩ := Option.map_eq_some_iff.mp e
    subst e2
    exact .inr (.inr ⟨z, i, c', r1.str, r2.int, lim (of_decide_eq_true c), e', w.rt' s (.str _)⟩)
  · exact w.elim
theorem ve_at (ha : VQ X O E a fa) (hb : VQ X O E b fb) (hs : PlainIx b := by exact fun _ _ => rfl) : VE X O E (.Subscript a b pos) (f2 fa fb kAt) := ve_ix ix_seq by_at ha hb hs
end
end Vl
set_option Elab.async false
set_option linter.all false
set_option maxRecDepth 100000
set_option maxHeartbeats 4000000
namespace Vl
open PySem PySem.Spec PyProof.Rows L2 Oc
variable [Ob : Objs]
section
variable {K : PySem.W.Frag} {O : List Nat} {T : Hp} {ρ : Env} {S S' : Objs.T} {g g' : Addr → Nat} {al al' : List Addr} {σ : L2.St} {H H' : Hp} {p : Addr} {o : HO}
theorem SR.base (h : SR K O T ρ S g al σ H) : SR K [] T [] S g al [] H := ⟨rfl, h.fr, h.ob, fun i d e _ => by simp at e, fun i d e _ => by simp at e⟩
theorem get_set {α : Type} {l : List α} {i j : Nat} {a : α} (h : i ≠ j) : (l.set i a)[j]? = l[j]? := List.getElem?_set_ne h
/-- a name gets a value -/
theorem SR.set (h : SR K O T ρ S g al σ H) {i : Nat} {v : V} {d : D} (hi : i ∉ O) (r : Rep K (reg g H 1) al v d) : SR K O T (ρ.set i (some d)) S g al (σ.set i (some v)) H where
  len := by rw [List.length_set, List.length_set, h.len]
  fr := h.fr
  ob := h.ob
  sl := fun j e q n => by
    by_cases hj : i = j
    · subst hj
      have hl : i < ρ.length := by
        have := (List.getElem?_eq_some_iff.mp q).1
        simpa using this
      rw [List.getElem?_set_self hl] at q
      cases q
      exact ⟨v, List.getElem?_set_self (by rw [h.len]; exact hl), r⟩
    · rw [get_set hj] at q ⊢
      exact h.sl j e q n
  ow := fun j e q n => by
    have hj : i ≠ j := fun z => hi (by rw [z]; exact n)
    rw [get_set hj] at q ⊢
    obtain ⟨a, o, h1, h2, h3, h4⟩ := h.ow j e q n
    refine ⟨a, o, h1, h2, h3, fun k hk ne f hf => ?_⟩
    have hik : i ≠ k := fun z => hi (by rw [z]; exact hk)
    rw [get_set hik] at hf ⊢
    exact h4 k hk ne f hf
/-- forgetting names -/
theorem SR.names (h : SR K O T ρ S g al σ H) {ρ' : Env} {σ' : L2.St} (hl : σ'.length = ρ'.length) (k : ∀ (j : Nat) (e : D), ρ'[j]? = some (some e) → ρ[j]? = some (some e) ∧ σ'[j]? = σ[j]?) : SR K O T ρ' S g al σ' H where
  len := hl
  fr := h.fr
  ob := h.ob
  sl := fun j e q n => by
    obtain ⟨q1, q2⟩ := k j e q
    rw [q2]
    exact h.sl j e q1 n
  ow := fun j e q n => by
    obtain ⟨q1, q2⟩ := k j e q
    rw [q2]
    obtain ⟨a, o, h1, h2, h3, h4⟩ := h.ow j e q1 n
    refine ⟨a, o, h1, h2, h3, fun i hi ne f hf => ?_⟩
    obtain ⟨q3, q4⟩ := k i f hf
    rw [q4]
    exact h4 i hi ne f q3
/-- an own list or dict is one's own no longer -/
theorem SR.freeze (h : SR K O T ρ S g al σ H) {i : Nat} (hi : i ∈ O) {d : D} (e : ρ[i]? = some (some d)) (hd : (∃ ds, d = .lst ds) ∨ ∃ ks, d = .dic ks) :
    ∃ g', SR K (O.filter fun j => decide (j ≠ i)) T ρ S g' al σ H ∧ Lw g al H g' al H := by
  obtain ⟨a, o, h1, h2, h3, h4⟩ := h.ow i d e hi
  have ta : g a = 4 := reg_tag h2
  have ha : H a = some o := reg_le _ _ h2
  have e1 : reg (put g a 1) H 1 = upd (reg g H 1) a o := by
    funext b
    unfold reg put
    by_cases hb : b = a
    · rw [if_pos hb, if_pos rfl, hb, upd_same, ha]
    · rw [if_neg hb, upd_ne hb]
  have en : ∀ m, m ≠ 1 → m ≠ 4 → reg (put g a 1) H m = reg g H m := fun m m1 m4 => by
    funext b
    unfold reg put
    by_cases hb : b = a
    · rw [if_pos hb, if_neg (Ne.symm m1), hb, if_neg (by rw [ta]; exact Ne.symm m4)]
    · rw [if_neg hb]
  have e4 : ∀ b, b ≠ a → reg (put g a 1) H 4 b = reg g H 4 b := fun b hb => by
    unfold reg put
    rw [if_neg hb]
  have n1 : reg g H 1 a = none := by
    unfold reg
    rw [if_neg (by rw [ta]; decide)]
  have le : Lw g al H (put g a 1) al H := ⟨.of (by rw [e1]; exact Same.alloc n1), List.prefix_rfl⟩
  have at1 : reg (put g a 1) H 1 a = some o := by rw [e1, upd_same]
  refine ⟨put g a 1, ⟨h.len, by rw [en 3 (by decide) (by decide)]; exact h.fr, by rw [en 2 (by decide) (by decide)]; exact Objs.mono h.ob le.s, fun j f q n => ?_, fun j f q n => ?_⟩, le⟩
  · by_cases hj : j = i
    · subst hj
      rw [e] at q
      cases q
      refine ⟨.ref a, h1, ?_⟩
      rcases hd with ⟨ds, rfl⟩ | ⟨ks, rfl⟩
      · cases h3 with | lst r => exact .lst (.inl at1) (r.mono le.s le.p)
      · cases h3 with | dic r => exact .dic (.inl at1) (r.mono le.s le.p)
    · have nj : j ∉ O := fun z => n (List.mem_filter.mpr ⟨z, decide_eq_true hj⟩)
      obtain ⟨v, q1, q2⟩ := h.sl j f q nj
      exact ⟨v, q1, q2.mono le.s le.p⟩
  · obtain ⟨hj, ne⟩ := List.mem_filter.mp n
    have ne : j ≠ i := of_decide_eq_true ne
    obtain ⟨b, u, q1, q2, q3, q4⟩ := h.ow j f q hj
    have hb : b ≠ a := fun z => q4 i hi (Ne.symm ne) d e (by rw [z]; exact h1)
    refine ⟨b, u, q1, by rw [e4 b hb]; exact q2, q3.mono le.s le.p, fun k hk => q4 k (List.mem_filter.mp hk).1⟩
/-- a name gets a new list or dict of its own -/
theorem SR.own (h : SR K O T ρ S g al σ H) {i : Nat} {d : D} (hi : i ∉ O) (n : H p = none) (r : OwnR K (reg g H 1) al p o d) : SR K (i :: O) T (ρ.set i (some d)) S (put g p 4) al (σ.set i (some (.ref p))) (upd H p o) := by
  have e1 : reg (put g p 4) (upd H p o) 1 = reg g H 1 := reg_put_ne n (by decide)
  have e2 : reg (put g p 4) (upd H p o) 2 = reg g H 2 := reg_put_ne n (by decide)
  have e3 : reg (put g p 4) (upd H p o) 3 = reg g H 3 := reg_put_ne n (by decide)
  have e4 : reg (put g p 4) (upd H p o) 4 = upd (reg g H 4) p o := reg_put n
  have n4 : reg g H 4 p = none := reg_none n
  refine ⟨by rw [List.length_set, List.length_set, h.len], by rw [e3]; exact h.fr, by rw [e1, e2]; exact h.ob, fun j e q nj => ?_, fun j e q nj => ?_⟩
  · have hj : i ≠ j := fun z => nj (by rw [z]; exact List.mem_cons_self)
    rw [get_set hj] at q ⊢
    rw [e1]
    exact h.sl j e q fun z => nj (List.mem_cons_of_mem _ z)
  · rw [e1, e4]
    by_cases hj : i = j
    · subst hj
      have hl : i < ρ.length := by
        have := (List.getElem?_eq_some_iff.mp q).1
        simpa using this
      rw [List.getElem?_set_self hl] at q
      cases q
      refine ⟨p, o, List.getElem?_set_self (by rw [h.len]; exact hl), upd_same, r, fun k hk ne f hf => ?_⟩
      have hik : i ≠ k := Ne.symm ne
      rw [get_set hik] at hf ⊢
      rcases List.mem_cons.mp hk with z | z
      · exact absurd z ne
      · obtain ⟨b, u, q1, q2, _⟩ := h.ow k f hf z
        rw [q1]
        intro z2
        cases z2
        rw [n4] at q2
        cases q2
    · have hjO : j ∈ O := (List.mem_cons.mp nj).elim (fun z => absurd z.symm hj) id
      rw [get_set hj] at q ⊢
      obtain ⟨b, u, q1, q2, q3, q4⟩ := h.ow j e q hjO
      have hb : b ≠ p := ne_of_none q2 n4
      refine ⟨b, u, q1, by rw [upd_ne hb]; exact q2, q3, fun k hk ne f hf => ?_⟩
      by_cases hik : i = k
      · subst hik
        have hl : i < σ.length := by
          have := (List.getElem?_eq_some_iff.mp hf).1
          rw [h.len]
          simpa using this
        rw [List.getElem?_set_self hl]
        intro z
        cases z
        exact hb rfl
      · rw [get_set hik] at hf ⊢
        exact q4 k ((List.mem_cons.mp hk).elim (fun z => absurd z.symm hik) id) ne f hf
/-- an own list or dict is changed -/
theorem SR.change (h : SR K O T ρ S g al σ H) {i : Nat} {d : D} {a : Addr} {u : HO} (hi : i ∈ O) (e : ∃ c, ρ[i]? = some (some c)) (hs : σ[i]? = some (some (.ref a))) (ha : reg g H 4 a = some u) (r : OwnR K (reg g H 1) al a o d) :
    SR K O T (ρ.set i (some d)) S g al σ (upd H a o) := by
  have ta : g a = 4 := reg_tag ha
  have en : ∀ m, m ≠ 4 → reg g (upd H a o) m = reg g H m := fun m m4 => reg_upd_ne (by rw [ta]; exact Ne.symm m4)
  have e4 : reg g (upd H a o) 4 = upd (reg g H 4) a o := reg_upd ta
  obtain ⟨c, e⟩ := e
  have hl : i < ρ.length := (List.getElem?_eq_some_iff.mp e).1
  have hown : ∀ j f, ρ[j]? = some (some f) → j ∈ O → j ≠ i → σ[j]? ≠ some (some (.ref a)) := fun j f q hj ne => by
    obtain ⟨b, w, q1, q2, q3, q4⟩ := h.ow i c e hi
    rw [hs] at q1
    cases q1
    exact q4 j hj ne f q
  refine ⟨by rw [List.length_set, h.len], by rw [en 3 (by decide)]; exact h.fr, by rw [en 1 (by decide), en 2 (by decide)]; exact h.ob, fun j f q nj => ?_, fun j f q nj => ?_⟩
  · have hj : i ≠ j := fun z => nj (by rw [← z]; exact hi)
    rw [get_set hj] at q
    rw [en 1 (by decide)]
    exact h.sl j f q nj
  · rw [en 1 (by decide), e4]
    by_cases hj : i = j
    · subst hj
      rw [List.getElem?_set_self hl] at q
      cases q
      exact ⟨a, o, hs, upd_same, r, fun k hk ne f hf => by
        rw [get_set (Ne.symm ne)] at hf
        exact hown k f hf hk ne⟩
    · rw [get_set hj] at q
      obtain ⟨b, w, q1, q2, q3, q4⟩ := h.ow j f q nj
      have hb : b ≠ a := fun z => hown j f q nj (Ne.symm hj) (by rw [q1, z])
      refine ⟨b, w, q1, by rw [upd_ne hb]; exact q2, q3, fun k hk ne f hf => ?_⟩
      by_cases hik : i = k
      · subst hik
        rw [hs]
        intro z
        cases z
        exact hb rfl
      · rw [get_set hik] at hf
        exact q4 k hk ne f hf
end
/-! ### statements -/
inductive Fl where
  | nx | rt (d : D) | bk | ct
abbrev MoS := Env → Mo (Fl × Env)
/-- what is wanted behind a statement -/
def Aft (K : PySem.W.Frag) (O' OL : List Nat) (T : Hp) (Dn : Ends) (g : Addr → Nat) (al : List Addr) (H : Hp) (r : Fl × Env) (S' : Objs.T) : Prop := match r.1 with
  | .nx => ∀ σ' g' al' H', SR K O' T r.2 S' g' al' σ' H' → Lw g al H g' al' H' → Dn.nx σ' H'
  | .bk => ∀ σ' g' al' H', SR K OL T r.2 S' g' al' σ' H' → Lw g al H g' al' H' → Dn.bk σ' H'
  | .ct => ∀ σ' g' al' H', SR K OL T r.2 S' g' al' σ' H' → Lw g al H g' al' H' → Dn.ct σ' H'
  | .rt d => ∀ v g' al' H', SR K [] T [] S' g' al' [] H' → Lw g al H g' al' H' → Rep K (reg g' H' 1) al' v d → Dn.rt v H'
def Exs (K : PySem.W.Frag) (E : XS) (T : Hp) (g : Addr → Nat) (al : List Addr) (H : Hp) (C : Str) (fs : List (Str × D)) (S' : Objs.T) : Prop :=
  ∀ σ' g' al' H' dx, SR K [] T [] S' g' al' [] H' → Lw g al H g' al' H' → ExF K (reg g' H' 1) al' fs dx → E σ' (.ref (He.ga K C)) dx H'
def PostS (K : PySem.W.Frag) (O' OL : List Nat) (E : XS) (T : Hp) (Dn : Ends) (g : Addr → Nat) (al : List Addr) (H : Hp) (m : Mo (Fl × Env)) (S : Objs.T) : Prop := wp m (Aft K O' OL T Dn g al H) (Exs K E T g al H) S
def liftS (K : PySem.W.Frag) (O O' OL : List Nat) (E : XS) (f : MoS) : TS := fun Dn σ H => ∃ T ρ S g al, SR K O T ρ S g al σ H ∧ PostS K O' OL E T Dn g al H (f ρ) S
def VS (X : Cx) (O O' OL : List Nat) (E : XS) (st : Stmt) (f : MoS) : Prop := PS X st (liftS X.K O O' OL E f)
def VB (X : Cx) (O O' OL : List Nat) (E : XS) (st : List Stmt) (f : MoS) : Prop := PSs X st (liftS X.K O O' OL E f)
/-- the exceptions' wish does not look at the names -/
def Flat (E : XS) : Prop := ∀ σ σ' c d H, E σ c d H → E σ' c d H
section
variable {K : PySem.W.Frag} {O O1 O2 O' OL : List Nat} {E : XS} {T : Hp} {ρ : Env} {S S' : Objs.T} {g g1 g' : Addr → Nat} {al al1 al' : List Addr} {σ : L2.St} {H H1 H' : Hp} {Dn : Ends}
theorem Aft.le {r : Fl × Env} (l : Lw g al H g1 al1 H1) (h : Aft K O' OL T Dn g al H r S) : Aft K O' OL T Dn g1 al1 H1 r S := by
  obtain ⟨fl, ρ'⟩ := r
  unfold Aft at h ⊢
  cases fl with
  | nx => exact fun σ' g' al' H' s l' => h σ' g' al' H' s (l.trans l')
  | bk => exact fun σ' g' al' H' s l' => h σ' g' al' H' s (l.trans l')
  | ct => exact fun σ' g' al' H' s l' => h σ' g' al' H' s (l.trans l')
  | rt d => exact fun v g' al' H' s l' => h v g' al' H' s (l.trans l')
theorem Exs.le {C : Str} {fs : List (Str × D)} (l : Lw g al H g1 al1 H1) (h : Exs K E T g al H C fs S) : Exs K E T g1 al1 H1 C fs S := fun σ' g' al' H' dx s l' => h σ' g' al' H' dx s (l.trans l')
theorem PostS.le {m : Mo (Fl × Env)} (l : Lw g al H g1 al1 H1) (h : PostS K O' OL E T Dn g al H m S) : PostS K O' OL E T Dn g1 al1 H1 m S := wp_mono h (fun _ _ q => q.le l) fun _ _ _ q => q.le l
/-- an expression, a test first -/
theorem PostS.bn {α β : Type} {R : (Addr → Nat) → Hp → List Addr → β → α → Prop} {m : Mo α} {f : α → Mo (Fl × Env)} {P : β → Hp → Prop} (fE : Flat E) (h : PostS K O' OL E T Dn g al H (bnd m f) S)
    (k : ∀ v d S' g' al' H', SR K O T ρ S' g' al' σ H' → Le g al H g' al' H' → R g' H' al' v d → PostS K O' OL E T Dn g' al' H' (f d) S' → P v H') : Post R K O E T ρ σ g al H m S P := by
  unfold PostS at h
  rw [wp_bnd] at h
  refine wp_mono h (fun d S1 w v g1 al1 H1 s l r => k v d S1 g1 al1 H1 s l r (PostS.le l.w w)) fun C fs S1 k g' al' H' dx s l x => fE σ _ _ _ _ (k σ g' al' H' dx s.base l.w x)
end
section
variable {X : Cx} {O O1 O2 O' OL : List Nat} {E : XS} {st : Stmt} {sts : List Stmt} {e : Expr} {fe : Env → Mo D} {f1s f2s : MoS} {pos : Pos}
def sNx : MoS := fun ρ => ret (.nx, ρ)
def sThen (a b : MoS) : MoS := fun ρ => bnd (a ρ) fun r => match r.1 with
  | .nx => b r.2
  | _ => ret r
theorem vb_nil : VB X O O OL E [] sNx := PSs.weak pss_nil fun Dn σ H ⟨T, ρ, S, g, al, s, w⟩ => w σ g al H s .refl
theorem vb_cons (h1 : VS X O O1 OL E st f1s) (h2 : VB X O1 O2 OL E sts f2s) : VB X O O2 OL E (st :: sts) (sThen f1s f2s) := PSs.weak (pss_cons h1 h2) fun Dn σ H ⟨T, ρ, S, g, al, s, w⟩ => by
  refine ⟨T, ρ, S, g, al, s, ?_⟩
  unfold PostS sThen at w
  rw [wp_bnd] at w
  refine wp_mono w (fun r S1 w1 => ?_) fun _ _ _ h => h
  obtain ⟨fl, ρ'⟩ := r
  cases fl with
  | nx => exact fun σ' g' al' H' s' l => ⟨T, ρ', S1, g', al', s', PostS.le l w1⟩
  | bk => exact w1
  | ct => exact w1
  | rt d => exact w1
theorem vb_one (h1 : VS X O O1 OL E st f1s) : VB X O O1 OL E [st] f1s := pss_one h1
def sSet (i : Nat) (fe : Env → Mo D) : MoS := fun ρ => bnd (fe ρ) fun d => ret (.nx, ρ.set i (some d))
theorem vs_set {i : Nat} {y : Str} {py : Pos} (fE : Flat E) (hi : i ∉ O) (he : VE X O E e fe) (h : ∀ t, PE X e t → PS X (.Assign [.Name y py] e pos) (tAsg t (gName i))) : VS X O O OL E (.Assign [.Name y py] e pos) (sSet i fe) :=
  PS.weak (h _ he) fun Dn σ H ⟨T, ρ, S, g, al, s, w⟩ => ⟨T, ρ, S, g, al, s, PostS.bn fE w fun v d S' g' al' H' s' l r w' => w' _ g' al' H' (s'.set hi r) .refl⟩
def sRet (fe : Env → Mo D) : MoS := fun ρ => bnd (fe ρ) fun d => ret (.rt d, ρ)
theorem vs_ret (fE : Flat E) (he : VE X O E e fe) : VS X O O' OL E (.Return (some e) pos) (sRet fe) := PS.weak (ps_ret he) fun Dn σ H ⟨T, ρ, S, g, al, s, w⟩ => ⟨T, ρ, S, g, al, s, PostS.bn fE w fun v d S' g' al' H' s' l r w' => w' v g' al' H' s'.base .refl r⟩
theorem vs_retN : VS X O O' OL E (.Return none pos) (fun ρ => ret (.rt .non, ρ)) := PS.weak ps_retN fun Dn σ H ⟨T, ρ, S, g, al, s, w⟩ => w .non g al H s.base .refl .non
theorem vs_pass : VS X O O OL E (.Pass pos) sNx := PS.weak ps_pass fun Dn σ H ⟨T, ρ, S, g, al, s, w⟩ => w σ g al H s .refl
theorem vs_brk : VS X O O' O E (.Break pos) (fun ρ => ret (.bk, ρ)) := PS.weak ps_break fun Dn σ H ⟨T, ρ, S, g, al, s, w⟩ => w σ g al H s .refl
theorem vs_cont : VS X O O' O E (.Continue pos) (fun ρ => ret (.ct, ρ)) := PS.weak ps_continue fun Dn σ H ⟨T, ρ, S, g, al, s, w⟩ => w σ g al H s .refl
def sDrop (fe : Env → Mo D) : MoS := fun ρ => bnd (fe ρ) fun _ => ret (.nx, ρ)
theorem vs_expr (fE : Flat E) (he : VE X O E e fe) (hs : swapsWith e none pos.line X.env = pure false := by rfl) : VS X O O OL E (.Expr e pos) (sDrop fe) := PS.weak (ps_expr he hs) fun Dn σ H ⟨T, ρ, S, g, al, s, w⟩ => ⟨T, ρ, S, g, al, s, PostS.bn fE w fun v d S' g' al' H' s' l r w' => w' σ g' al' H' s' .refl⟩
def sIf (tc : Env → Mo Bool) (a b : MoS) : MoS := fun ρ => bnd (tc ρ) fun k => if k = true then a ρ else b ρ
theorem vs_if {c : Expr} {a b : List Stmt} {tc : Env → Mo Bool} {fa fb : MoS} (fE : Flat E) (hc : VT X O E c tc) (ha : VB X O O' OL E a fa) (hb : VB X O O' OL E b fb) : VS X O O' OL E (.If c a b pos) (sIf tc fa fb) := PS.weak (ps_if hc ha hb) fun Dn σ H ⟨T, ρ, S, g, al, s, w⟩ => ⟨T, ρ, S, g, al, s, PostS.bn fE w fun v d S' g' al' H' s' l r w' => by
  cases r
  cases v with
  | true => exact ⟨T, ρ, S', g', al', s', w'⟩
  | false => exact ⟨T, ρ, S', g', al', s', w'⟩⟩
theorem vs_never : VS X O O' OL E st (fun _ => nop) := PS.weak ps_never fun Dn σ H ⟨T, ρ, S, g, al, s, w⟩ => w.elim
theorem vb_never : VB X O O' OL E sts (fun _ => nop) := PSs.weak pss_never fun Dn σ H ⟨T, ρ, S, g, al, s, w⟩ => w.elim
/-- from here on the list, the dict at i is one's own no longer -/
def sFrz (i : Nat) (f : MoS) : MoS := fun ρ => match (ρ[i]?).join with
  | some (.lst _) => f ρ
  | some (.dic _) => f ρ
  | _ => nop
theorem join_get {ρ : Env} {i : Nat} {d : D} (e : (ρ[i]?).join = some d) : ρ[i]? = some (some d) := by
  cases q : ρ[i]? with
  | none => rw [q] at e; cases e
  | some o => rw [q] at e; cases o with
    | none => cases e
    | some d' => cases e; rfl
theorem frz_lift {i : Nat} {f : MoS} {K : PySem.W.Frag} (hi : i ∈ O) {Dn : Ends} {σ : L2.St} {H : Hp} (h : liftS K O O' OL E (sFrz i f) Dn σ H) : liftS K (O.filter fun j => decide (j ≠ i)) O' OL E f Dn σ H := by
  obtain ⟨T, ρ, S, g, al, s, w⟩ := h
  unfold sFrz at w
  split at w
  · next ds e =>
    obtain ⟨g', s', l⟩ := s.freeze hi (join_get e) (.inl ⟨_, rfl⟩)
    exact ⟨T, ρ, S, g', al, s', PostS.le l w⟩
  · next ds e =>
    obtain ⟨g', s', l⟩ := s.freeze hi (join_get e) (.inr ⟨_, rfl⟩)
    exact ⟨T, ρ, S, g', al, s', PostS.le l w⟩
  · exact w.elim
theorem vb_frz (i : Nat) {f : MoS} (hi : i ∈ O) (h : VB X (O.filter fun j => decide (j ≠ i)) O' OL E sts f) : VB X O O' OL E sts (sFrz i f) := PSs.weak h fun _ _ _ q => frz_lift hi q
theorem vs_frz (i : Nat) {f : MoS} (hi : i ∈ O) (h : VS X (O.filter fun j => decide (j ≠ i)) O' OL E st f) : VS X O O' OL E st (sFrz i f) := PS.weak h fun _ _ _ q => frz_lift hi q
/-! ### targets -/
def liftG (K : PySem.W.Frag) (O ts : List Nat) (t : D → Env → Option Env) : TG := fun v σ H Q => ∃ T ρ S g al d ρ', SR K O T ρ S g al σ H ∧ Rep K (reg g H 1) al v d ∧ t d ρ = some ρ' ∧ ∀ σ', SR K O T ρ' S g al σ' H → σ'.length = σ.length → (∀ j, j ∉ ts → σ'[j]? = σ[j]?) → Q σ' H
def liftGs (K : PySem.W.Frag) (O ts : List Nat) (t : List D → Env → Option Env) : TGs := fun vs σ H Q => ∃ T ρ S g al ds ρ', SR K O T ρ S g al σ H ∧ Reps K (reg g H 1) al vs ds ∧ t ds ρ = some ρ' ∧ ∀ σ', SR K O T ρ' S g al σ' H → σ'.length = σ.length → (∀ j, j ∉ ts → σ'[j]? = σ[j]?) → Q σ' H
def VG (X : Cx) (O ts : List Nat) (tg : Expr) (t : D → Env → Option Env) : Prop := PG X tg (liftG X.K O ts t)
def VGs (X : Cx) (O ts : List Nat) (tg : List Expr) (t : List D → Env → Option Env) : Prop := PGs X tg (liftGs X.K O ts t)
theorem PG.weak {e : Expr} {t t' : TG} (h : PG X e t) (w : ∀ v σ H Q, t' v σ H Q → t v σ H Q) : PG X e t' := ⟨fun pins s σ H v u Q I r q => h.run pins s σ H v u Q I r (w _ _ _ _ q)⟩
theorem PGs.weak {e : List Expr} {t t' : TGs} (h : PGs X e t) (w : ∀ v σ H Q, t' v σ H Q → t v σ H Q) : PGs X e t' := ⟨fun pins s σ H v u Q I r q => h.run pins s σ H v u Q I r (w _ _ _ _ q)⟩
def gN (i : Nat) : D → Env → Option Env := fun d ρ => some (ρ.set i (some d))
theorem vg_name {i : Nat} {y : Str} {py : Pos} (hi : i ∉ O) (h : PG X (.Name y py) (gName i)) : VG X O [i] (.Name y py) (gN i) := PG.weak h fun v σ H Q ⟨T, ρ, S, g, al, d, ρ', s, r, e, k⟩ => by
  cases e
  exact k _ (s.set hi r) (by rw [List.length_set]) fun j hj => get_set fun z => hj (by rw [z]; exact List.mem_singleton.mpr rfl)
def gNl : List D → Env → Option Env := fun ds ρ => match ds with
  | [] => some ρ
  | _ => none
def gCn (t : D → Env → Option Env) (u : List D → Env → Option Env) : List D → Env → Option Env := fun ds ρ => match ds with
  | d :: ds => (t d ρ).bind (u ds)
  | [] => none
theorem vgs_nil : VGs X O [] [] gNl := PGs.weak pgs_nil fun vs σ H Q ⟨T, ρ, S, g, al, ds, ρ', s, r, e, k⟩ => by
  cases r with
  | nil => cases e; exact ⟨rfl, k σ s rfl fun _ _ => rfl⟩
  | cons a b => cases e
theorem vgs_cons {ts us : List Nat} {tg : Expr} {tgs : List Expr} {t : D → Env → Option Env} {u : List D → Env → Option Env} (h1 : VG X O ts tg t) (h2 : VGs X O us tgs u)
    (hs : (assignEach (tg :: tgs) X.env).map (·.2) = assign tg X.env :: (assignEach tgs X.env).map (·.2) := by rfl) : VGs X O (ts ++ us) (tg :: tgs) (gCn t u) := PGs.weak (pgs_cons h1 h2 hs) fun vs σ H Q ⟨T, ρ, S, g, al, ds, ρ', s, r, e, k⟩ => by
  cases r with
  | nil => cases e
  | cons a b =>
    obtain ⟨ρ1, e1, e2⟩ := Option.bind_eq_some_iff.mp e
    exact ⟨_, _, rfl, T, ρ, S, g, al, _, ρ1, s, a, e1, fun σ1 s1 l1 q1 => ⟨T, ρ1, S, g, al, _, ρ', s1, b, e2, fun σ2 s2 l2 q2 => k σ2 s2 (l2.trans l1) fun j hj =>
      (q2 j fun z => hj (List.mem_append_right _ z)).trans (q1 j fun z => hj (List.mem_append_left _ z))⟩⟩
def gTp (n : Nat) (t : List D → Env → Option Env) : D → Env → Option Env := fun d ρ => match d with
  | .tup ds => if ds.length = n then t ds ρ else none
  | _ => none
theorem vg_tup {ts : List Nat} {es : List Expr} {k : Nat} {t : List D → Env → Option Env} {n : Nat} (hc : X.calm = true) (h : VGs X O ts es t) (hn : (assignEach es X.env).length = n := by rfl) (hst : (assignEach es X.env).findIdx? (·.1) = none := by rfl) :
    VG X O ts (.Tuple es k pos) (gTp n t) := PG.weak (pg_tup hc h hn hst) fun v σ H Q ⟨T, ρ, S, g, al, d, ρ', s, r, e, k⟩ => by
  unfold gTp at e
  split at e
  · next ds =>
    cases r with
    | tup a b =>
      split at e
      · next hl => exact ⟨_, _, rfl, SqT.same a reg_le, by rw [b.len]; exact hl, T, ρ, S, g, al, ds, ρ', s, b, e, k⟩
      · cases e
  · cases e
def sAsg (fe : Env → Mo D) (t : D → Env → Option Env) : MoS := fun ρ => bnd (fe ρ) fun d => bnd (opt (t d ρ)) fun ρ' => ret (.nx, ρ')
theorem vs_asg {tg : Expr} {ts : List Nat} {t : D → Env → Option Env} (fE : Flat E) (he : VE X O E e fe) (hg : VG X O ts tg t) (hs : swapsWithSole [tg] e pos.line X.env = pure false := by rfl) (hw : swappedStores [tg] e X.env = pure none := by rfl)
    (h1 : (assignEach [tg] X.env).map (·.2) = [assign tg X.env] := by rfl) : VS X O O OL E (.Assign [tg] e pos) (sAsg fe t) := PS.weak (ps_asg he hg hs hw h1) fun Dn σ H ⟨T, ρ, S, g, al, s, w⟩ => ⟨T, ρ, S, g, al, s, PostS.bn fE w fun v d S' g' al' H' s' l r w' => by
  rw [bnd_opt] at w'
  split at w'
  · next ρ' e => exact ⟨T, ρ, S', g', al', d, ρ', s', r, e, fun σ' s'' _ _ => w' σ' g' al' H' s'' .refl⟩
  · exact w'.elim⟩
end
end Vl
set_option Elab.async false
set_option linter.all false
set_option maxRecDepth 100000
set_option maxHeartbeats 4000000
namespace Vl
open PySem PySem.Spec PyProof.Rows L2 Oc
variable [Ob : Objs]
/-! ### what is walked: values one after another -/
/-- an iterator that gives these values, whatever grows meanwhile -/
structure Wk (K : PySem.W.Frag) (J : It) (ds : List D) (g : Addr → Nat) (al : List Addr) (H : Hp) : Prop where
  go : ∀ g' al' H' i, Lw g al H g' al' H' → i < ds.length → J.go i H'
  stop : ∀ g' al' H', Lw g al H g' al' H' → J.stop ds.length H'
  yld : ∀ g' al' H' i x H2, Lw g al H g' al' H' → i < ds.length → J.yld i H' x H2 → (H2 = H' ∧ ∃ d, ds[i]? = some d ∧ Rep K (reg g' H' 1) al' x d) ∨
    ∃ p o d, H' p = none ∧ H2 = upd H' p o ∧ ds[i]? = some d ∧ Rep K (reg (put g' p 1) (upd H' p o) 1) al' x d
def liftI (K : PySem.W.Frag) (O : List Nat) (E : XS) (f : Env → Mo (List D)) : TI := fun σ H R => ∃ T ρ S g al, SR K O T ρ S g al σ H ∧
  wp (f ρ) (fun ds S' => ∀ g' al' H' J, SR K O T ρ S' g' al' σ H' → Le g al H g' al' H' → Wk K J ds g' al' H' → R J H')
    (fun C fs S' => ∀ g' al' H' dx, SR K O T ρ S' g' al' σ H' → Le g al H g' al' H' → ExF K (reg g' H' 1) al' fs dx → E σ (.ref (He.ga K C)) dx H') S
def VI (X : Cx) (O : List Nat) (E : XS) (tg e : Expr) (f : Env → Mo (List D)) : Prop := PI X tg e (liftI X.K O E f)
theorem PI.weak {X : Cx} {tg e : Expr} {t t' : TI} (h : PI X tg e t) (w : ∀ σ H Q, t' σ H Q → t σ H Q) : PI X tg e t' := ⟨fun pins s σ H R I q => h.run pins s σ H R I (w _ _ _ q)⟩
section
variable {K : PySem.W.Frag} {O : List Nat} {E : XS} {T : Hp} {ρ : Env} {S S' : Objs.T} {g g' : Addr → Nat} {al al' : List Addr} {σ : L2.St} {H H' : Hp}
theorem Le.same (h : Le g al H g' al' H') : Sm (reg g H 1) (reg g' H' 1) := h.s
theorem rd_reg {u : HO} {a : Addr} {n : Nat} (h : Rd (reg g H n) a u) : Rd H a u := Rd.same h reg_le
theorem wk_list {a : Addr} {vs : List V} {ds : List D} (h : Rd (reg g H 1) a (.lst vs)) (r : Reps K (reg g H 1) al vs ds) : Wk K (Itl K a) ds g al H where
  go := fun g' al' H' i l hi => ⟨vs, vs[i]'(by rw [r.len]; exact hi), .inl (rd_reg (l.s.rd _ _ h)), by simp⟩
  stop := fun g' al' H' l => ⟨vs, .inl (rd_reg (l.s.rd _ _ h)), Nat.le_of_eq r.len⟩
  yld := fun g' al' H' i x H2 l hi y => by
    obtain ⟨d, e, q⟩ := (r.mono l.s l.p).get' (y.2 vs (.inl (rd_reg (l.s.rd _ _ h))))
    exact .inl ⟨y.1, d, e, q⟩
theorem wk_tup {a : Addr} {vs : List V} {ds : List D} (h : SqT K (reg g H 1) a vs) (r : Reps K (reg g H 1) al vs ds) : Wk K (Itt K a) ds g al H where
  go := fun g' al' H' i l hi => ⟨vs, vs[i]'(by rw [r.len]; exact hi), SqT.same (l.s.sqT h) reg_le, by simp⟩
  stop := fun g' al' H' l => ⟨vs, SqT.same (l.s.sqT h) reg_le, Nat.le_of_eq r.len⟩
  yld := fun g' al' H' i x H2 l hi y => by
    obtain ⟨d, e, q⟩ := (r.mono l.s l.p).get' (y.2 vs (SqT.same (l.s.sqT h) reg_le))
    exact .inl ⟨y.1, d, e, q⟩
def rangeD (lo : Int) (n : Nat) : List D := (List.range n).map fun i => .int (lo + (i : Nat))
theorem wk_range {lo : Int} {n : Nat} : Wk K (Itr lo n) (rangeD lo n) g al H where
  go := fun g' al' H' i l hi => by
    unfold rangeD at hi
    rw [List.length_map, List.length_range] at hi
    exact hi
  stop := fun g' al' H' l => by
    unfold rangeD
    rw [List.length_map, List.length_range]
    exact Nat.le_refl n
  yld := fun g' al' H' i x H2 l hi y => by
    unfold rangeD at hi ⊢
    rw [List.length_map, List.length_range] at hi
    obtain ⟨e1, e2⟩ := y
    subst e1 e2
    exact .inl ⟨rfl, .int (lo + i), by rw [List.getElem?_map, List.getElem?_range hi]; rfl, .int _⟩
end
section
variable {X : Cx} {O : List Nat} {E : XS} {tg e : Expr} {fe : Env → Mo D} {pos : Pos}
def seqD : D → Option (List D)
  | .lst ds => some ds
  | .tup ds => some ds
  | .str z => some (z.cps.toList.map fun c => .str ⟨#[c]⟩)
  | _ => none
def iSeq (fe : Env → Mo D) : Env → Mo (List D) := fun ρ => bnd (fe ρ) fun d => opt (seqD d)
def lstD : D → Option (List D)
  | .lst ds => some ds
  | _ => none
def tupD : D → Option (List D)
  | .tup ds => some ds
  | _ => none
theorem liftI_bn {α β : Type} {R : (Addr → Nat) → Hp → List Addr → β → α → Prop} {fa : Env → Mo α} {k : α → Mo (List D)} {P : β → Hp → Prop} {σ : L2.St} {H : Hp} {Rr : It → Hp → Prop} {K : PySem.W.Frag} (h : liftI K O E (fun ρ => bnd (fa ρ) k) σ H Rr)
    (hk : ∀ v d T ρ S g al H, SR K O T ρ S g al σ H → R g H al v d → wp (k d) (fun ds S' => ∀ g' al' H' J, SR K O T ρ S' g' al' σ H' → Le g al H g' al' H' → Wk K J ds g' al' H' → Rr J H') (fun C fs S' => True) S → P v H) : lift R K O E fa σ H P := by
  obtain ⟨T, ρ, S, g, al, s, w⟩ := h
  rw [wp_bnd] at w
  refine ⟨T, ρ, S, g, al, s, wp_mono w (fun d S1 w1 v g1 al1 H1 s1 l1 r1 => hk v d T ρ S1 g1 al1 H1 s1 r1 (wp_mono w1 (fun ds S2 q g' al' H' J s' l => q g' al' H' J s' (l1.trans l)) fun _ _ _ _ => trivial)) fun C fs S1 q => q⟩
theorem vi_list (he : VE X O E e fe) : VI X O E tg e (fun ρ => bnd (fe ρ) fun d => opt (lstD d)) := PI.weak (pi_list he) fun σ H R h => liftI_bn h fun v d T ρ S g al H s r w => by
  obtain ⟨ds, e, w⟩ := wp_opt.mp w
  cases r with
  | lst a b => cases e; exact ⟨_, rfl, ⟨_, .inl (rd_reg a)⟩, w g al H _ s .refl (wk_list a b)⟩
  | _ => cases e
theorem vi_tup (he : VE X O E e fe) : VI X O E tg e (fun ρ => bnd (fe ρ) fun d => opt (tupD d)) := PI.weak (pi_tup he) fun σ H R h => liftI_bn h fun v d T ρ S g al H s r w => by
  obtain ⟨ds, e, w⟩ := wp_opt.mp w
  cases r with
  | tup a b => cases e; exact ⟨_, rfl, ⟨_, SqT.same a reg_le⟩, w g al H _ s .refl (wk_tup a b)⟩
  | _ => cases e
def rg1 : List D → Option (List D)
  | [.int j] => if -(2 ^ 62) ≤ j ∧ j < 2 ^ 62 then some (rangeD 0 j.toNat) else none
  | _ => none
def rg2 : List D → Option (List D)
  | [.int i, .int j] => if -(2 ^ 62) ≤ i ∧ i < 2 ^ 62 ∧ -(2 ^ 62) ≤ j ∧ j < 2 ^ 62 then some (rangeD i (j - i).toNat) else none
  | _ => none
theorem vi_range1 {a : Expr} {fl : Env → Mo (List D)} {p : Pos} (hg : Gl X "range") (hm : X.mg "range" = none) (ha : VA X O E [a] fl) (hs : starEach [a] X.env = [(false, eval a X.env)] := by rfl) : VI X O E tg (.Call (.Name "range" p) [a] [] pos) (fun ρ => bnd (fl ρ) fun xs => opt (rg1 xs)) :=
  PI.weak (pi_range1 hg hm ha hs) fun σ H R h => liftI_bn h fun v d T ρ S g al H s r w => by
    obtain ⟨ds, e, w⟩ := wp_opt.mp w
    unfold rg1 at e
    split at e
    · next j =>
      cases r with
      | cons r1 r2 =>
        cases r1
        cases r2
        split at e
        · next hj => cases e; exact ⟨j, rfl, hj.1, hj.2, w g al H _ s .refl wk_range⟩
        · cases e
    · cases e
theorem vi_range2 {a b : Expr} {fl : Env → Mo (List D)} {p : Pos} (hg : Gl X "range") (hm : X.mg "range" = none) (ha : VA X O E [a, b] fl) (hs : starEach [a, b] X.env = [(false, eval a X.env), (false, eval b X.env)] := by rfl) (hs2 : starEach [b] X.env = [(false, eval b X.env)] := by rfl) : VI X O E tg (.Call (.Name "range" p) [a, b] [] pos) (fun ρ => bnd (fl ρ) fun xs => opt (rg2 xs)) :=
  PI.weak (pi_range2 hg hm ha hs hs2) fun σ H R h => liftI_bn h fun v d T ρ S g al H s r w => by
    obtain ⟨ds, e, w⟩ := wp_opt.mp w
    unfold rg2 at e
    split at e
    · next i j =>
      cases r with
      | cons r1 r2 =>
        cases r1
        cases r2 with
        | cons r3 r4 =>
          cases r3
          cases r4
          split at e
          · next hj => cases e; exact ⟨i, j, rfl, hj, w g al H _ s .refl wk_range⟩
          · cases e
    · cases e
/-! ### for -/
def forL (t : D → Env → Option Env) (body : MoS) : List D → MoS
  | [], ρ => ret (.nx, ρ)
  | d :: ds, ρ => bnd (opt (t d ρ)) fun ρ1 => bnd (body ρ1) fun r => match r.1 with
    | .nx => forL t body ds r.2
    | .ct => forL t body ds r.2
    | .bk => ret (.nx, r.2)
    | .rt v => ret (.rt v, r.2)
def sFor (fi : Env → Mo (List D)) (t : D → Env → Option Env) (body : MoS) : MoS := fun ρ => bnd (fi ρ) fun ds => forL t body ds ρ
theorem vs_for {iter : Expr} {body : List Stmt} {ts : List Nat} {fi : Env → Mo (List D)} {t : D → Env → Option Env} {fb : MoS} (fE : Flat E) (hp : PassesOwn (model X.prog X.w) X.A X.env X.xe) (hc : X.calm = true) (hi : VI X O E tg iter fi) (hg : VG X O ts tg t) (hb : VB X O O O E body fb)
    (hs : ∀ x, foldedSetIterable iter X.env x = pure x := by intro _; rfl) {OL : List Nat} : VS X O O OL E (.For tg iter body [] pos) (sFor fi t fb) := PS.weak (ps_for hp hc hi hg hb hs) fun Dn σ H ⟨T, ρ, S, g, al, s, w⟩ => by
  unfold PostS sFor at w
  rw [wp_bnd] at w
  refine ⟨T, ρ, S, g, al, s, wp_mono w (fun ds S1 w1 g1 al1 H1 J s1 l1 wk => ?_) fun C fs S1 q g' al' H' dx s' l x => fE σ _ _ _ _ (q σ g' al' H' dx s'.base l.w x)⟩
  refine ⟨fun i m σ2 H2 => m = ds.length - i ∧ i ≤ ds.length ∧ ∃ ρ2 S2 g2 al2, SR X.K O T ρ2 S2 g2 al2 σ2 H2 ∧ Lw g1 al1 H1 g2 al2 H2 ∧ PostS X.K O OL E T Dn g2 al2 H2 (forL t fb (ds.drop i) ρ2) S2, ⟨_, rfl, Nat.zero_le _, ρ, S1, g1, al1, s1, .refl, by rw [List.drop_zero]; exact PostS.le l1.w w1⟩, ?_⟩
  rintro i m σ2 H2 ⟨rfl, hi, ρ2, S2, g2, al2, s2, l2, w2⟩
  by_cases hlt : i < ds.length
  · rw [List.drop_eq_getElem_cons hlt] at w2
    unfold forL at w2
    rw [bnd_opt] at w2
    cases ht : t ds[i] ρ2 with
    | none => rw [ht] at w2; exact w2.elim
    | some ρ3 =>
      rw [ht] at w2
      dsimp only at w2
      refine .inr ⟨wk.go g2 al2 H2 i l2 hlt, fun σ' H' => ∃ ρ2 S2 g2 al2, SR X.K O T ρ2 S2 g2 al2 σ' H' ∧ Lw g1 al1 H1 g2 al2 H' ∧ PostS X.K O OL E T Dn g2 al2 H' (forL t fb (ds.drop (i + 1)) ρ2) S2, fun σ' H' q => ⟨_, by omega, rfl, hlt, q⟩, fun x H3 hy => ?_⟩
      have hd : ds[i]? = some ds[i] := List.getElem?_eq_getElem hlt
      have key : ∀ g3 H4, SR X.K O T ρ2 S2 g3 al2 σ2 H4 → Lw g2 al2 H2 g3 al2 H4 → Rep X.K (reg g3 H4 1) al2 x ds[i] → liftG X.K O ts t x σ2 H4 fun σ2 H2 => liftS X.K O O O E fb { Dn with nx := fun σ' H' => ∃ ρ2 S2 g2 al2, SR X.K O T ρ2 S2 g2 al2 σ' H' ∧ Lw g1 al1 H1 g2 al2 H' ∧ PostS X.K O OL E T Dn g2 al2 H' (forL t fb (ds.drop (i + 1)) ρ2) S2, ct := fun σ' H' => ∃ ρ2 S2 g2 al2, SR X.K O T ρ2 S2 g2 al2 σ' H' ∧ Lw g1 al1 H1 g2 al2 H' ∧ PostS X.K O OL E T Dn g2 al2 H' (forL t fb (ds.drop (i + 1)) ρ2) S2, bk := Dn.nx } σ2 H2 := fun g3 H4 s3 l3 r3 => by
        refine ⟨T, ρ2, S2, g3, al2, ds[i], ρ3, s3, r3, ht, fun σ' s' _ _ => ⟨T, ρ3, S2, g3, al2, s', ?_⟩⟩
        have w3 := PostS.le l3 w2
        unfold PostS at w3
        rw [wp_bnd] at w3
        refine wp_mono w3 (fun r S4 w4 => ?_) fun _ _ _ q => q
        obtain ⟨fl, ρ4⟩ := r
        cases fl with
        | nx => exact fun σ5 g5 al5 H5 s5 l5 => ⟨ρ4, S4, g5, al5, s5, (l2.trans l3).trans l5, PostS.le l5 w4⟩
        | ct => exact fun σ5 g5 al5 H5 s5 l5 => ⟨ρ4, S4, g5, al5, s5, (l2.trans l3).trans l5, PostS.le l5 w4⟩
        | bk => exact w4
        | rt d => exact w4
      rcases wk.yld g2 al2 H2 i x H3 l2 hlt hy with ⟨e, d, e2, r⟩ | ⟨p, o, d, np, e, e2, r⟩
      · rw [hd] at e2
        cases e2
        subst e
        exact key g2 _ s2 .refl r
      · rw [hd] at e2
        cases e2
        subst e
        exact key _ _ (s2.alloc np) (Le.alloc np).w r
  · have e : i = ds.length := by omega
    subst e
    rw [List.drop_length] at w2
    exact .inl ⟨wk.stop g2 al2 H2 l2, w2 σ2 g2 al2 H2 s2 .refl⟩
/-! ### while, so many turns at most -/
def whl (tc : Env → Mo Bool) (body : MoS) : Nat → MoS
  | 0, _ => nop
  | n + 1, ρ => bnd (tc ρ) fun k => if k = true then bnd (body ρ) fun r => match r.1 with
    | .nx => whl tc body n r.2
    | .ct => whl tc body n r.2
    | .bk => ret (.nx, r.2)
    | .rt v => ret (.rt v, r.2) else ret (.nx, ρ)
theorem vs_while {c : Expr} {body : List Stmt} {tc : Env → Mo Bool} {fb : MoS} (fE : Flat E) (hp : PassesOwn (model X.prog X.w) X.A X.env X.xe) (hc : VT X O E c tc) (hb : VB X O O O E body fb) (n : Nat) {OL : List Nat} : VS X O O OL E (.While c body [] pos) (whl tc fb n) := PS.weak (ps_while hp hc hb) fun Dn σ H ⟨T, ρ, S, g, al, s, w⟩ => by
  refine ⟨fun m σ2 H2 => ∃ ρ2 S2 g2 al2, SR X.K O T ρ2 S2 g2 al2 σ2 H2 ∧ PostS X.K O OL E T Dn g2 al2 H2 (whl tc fb m ρ2) S2, ⟨n, ρ, S, g, al, s, w⟩, ?_⟩
  rintro m σ2 H2 ⟨ρ2, S2, g2, al2, s2, w2⟩
  cases m with
  | zero => exact w2.elim
  | succ m =>
    refine ⟨T, ρ2, S2, g2, al2, s2, PostS.bn fE w2 fun v d S3 g3 al3 H3 s3 l3 r3 w3 => ?_⟩
    cases r3
    cases v with
    | false => exact w3 _ g3 al3 H3 s3 .refl
    | true =>
      refine ⟨fun σ' H' => ∃ ρ2 S2 g2 al2, SR X.K O T ρ2 S2 g2 al2 σ' H' ∧ PostS X.K O OL E T Dn g2 al2 H' (whl tc fb m ρ2) S2, fun σ' H' q => ⟨m, Nat.lt_succ_self _, q⟩, T, ρ2, S3, g3, al3, s3, ?_⟩
      rw [if_pos rfl] at w3
      unfold PostS at w3
      rw [wp_bnd] at w3
      refine wp_mono w3 (fun r S4 w4 => ?_) fun _ _ _ q => q
      obtain ⟨fl, ρ4⟩ := r
      cases fl with
      | nx => exact fun σ5 g5 al5 H5 s5 l5 => ⟨ρ4, S4, g5, al5, s5, PostS.le l5 w4⟩
      | ct => exact fun σ5 g5 al5 H5 s5 l5 => ⟨ρ4, S4, g5, al5, s5, PostS.le l5 w4⟩
      | bk => exact w4
      | rt d => exact w4
end
end Vl
set_option Elab.async false
set_option linter.all false
set_option maxRecDepth 100000
set_option maxHeartbeats 4000000
namespace Vl
open PySem PySem.Spec PyProof.Rows L2 Oc
variable [Ob : Objs]
/-! ### list comprehensions -/
/-- nothing is raised -/
def nox {α : Type} (m : Mo α) : Mo α := fun S => match m S with
  | some (.ok a, S1) => some (.ok a, S1)
  | _ => none
theorem wp_nox {α : Type} {m : Mo α} {Q : α → Objs.T → Prop} {E E' : Str → List (Str × D) → Objs.T → Prop} {S : Objs.T} (h : wp (nox m) Q E S) : wp m Q E' S := by
  unfold wp nox at h
  unfold wp
  cases q : m S with
  | none => rw [q] at h; exact h
  | some p =>
    obtain ⟨o, S1⟩ := p
    rw [q] at h
    cases o with
    | ok a => exact h
    | ex C fs => exact h.elim
def wipeD (ρ : Env) : List Nat → Env
  | [] => ρ
  | v :: vs => (wipeD ρ vs).set v none
/-- the items made -/
def mapC (t : D → Env → Option Env) (tt : Env → Mo Bool) (fe : Env → Mo D) (ρ : Env) : List D → Mo (List D)
  | [] => ret []
  | d :: ds => bnd (opt (t d ρ)) fun ρ1 => bnd (tt ρ1) fun b => if b = true then bnd (fe ρ1) fun y => bnd (mapC t tt fe ρ ds) fun ys => ret (y :: ys) else mapC t tt fe ρ ds
def fLc (fi : Env → Mo (List D)) (t : D → Env → Option Env) (tt : Env → Mo Bool) (fe : Env → Mo D) (vs : List Nat) : Env → Mo D := fun ρ => bnd (fi ρ) fun ds => grd (decide (ds.length ≤ LIM)) (bnd (nox (mapC t tt fe (wipeD ρ vs) ds)) fun ys => ret (.lst ys))
section
variable {K : PySem.W.Frag} {O : List Nat} {T : Hp} {ρ : Env} {S S' : Objs.T} {g g' : Addr → Nat} {al al' : List Addr} {σ : L2.St} {H H' : Hp} {p : Addr} {o : HO}
theorem wipeD_length (ρ : Env) : ∀ vs : List Nat, (wipeD ρ vs).length = ρ.length
  | [] => rfl
  | v :: vs => by unfold wipeD; rw [List.length_set, wipeD_length ρ vs]
theorem wipeD_some {ρ : Env} {i : Nat} {x : D} : ∀ {vs : List Nat}, (wipeD ρ vs)[i]? = some (some x) → ρ[i]? = some (some x) ∧ i ∉ vs
  | [], h => ⟨h, by simp⟩
  | v :: vs, h => by
    unfold wipeD at h
    by_cases hi : v = i
    · subst hi
      by_cases hv : v < (wipeD ρ vs).length
      · rw [List.getElem?_set_self hv] at h; cases h
      · rw [List.getElem?_eq_none (by simpa using hv)] at h; cases h
    · rw [List.getElem?_set_ne hi] at h
      obtain ⟨h1, h2⟩ := wipeD_some h
      exact ⟨h1, fun z => (List.mem_cons.mp z).elim (fun z => hi z.symm) h2⟩
theorem SR.wipe (h : SR K O T ρ S g al σ H) (vs : List Nat) : SR K O T (wipeD ρ vs) S g al (wipe σ vs) H := h.names (by rw [wipe_length, wipeD_length, h.len]) fun j e q => by
  obtain ⟨q1, q2⟩ := wipeD_some q
  exact ⟨q1, wipe_out q2⟩
theorem SR.back {σ2 : L2.St} {ρ2 : Env} (s : SR K O T ρ S g al σ H) (h : SR K O T ρ2 S' g' al' σ2 H') (l : Le g al H g' al' H') : SR K O T ρ S' g' al' σ H' := s.move l.w (by rw [h.fr, s.fr]) l.o h.ob
theorem wipe_eq {σ2 : L2.St} {vs : List Nat} (hl : σ2.length = σ.length) (k : ∀ j, j ∉ vs → σ2[j]? = σ[j]?) : wipe σ2 vs = wipe σ vs := by
  apply List.ext_getElem?
  intro j
  have self : ∀ (τ : L2.St) (ws : List Nat), j ∈ ws → (wipe τ ws)[j]? = if j < τ.length then some none else none := by
    intro τ ws
    induction ws with
    | nil => intro h; cases h
    | cons w ws ih =>
      intro h
      unfold L2.wipe
      by_cases e : w = j
      · subst e
        split
        · next hw => exact List.getElem?_set_self (by rw [wipe_length]; exact hw)
        · next hw => exact List.getElem?_eq_none (by rw [List.length_set, wipe_length]; omega)
      · rw [List.getElem?_set_ne e]
        exact ih ((List.mem_cons.mp h).elim (fun z => absurd z.symm e) id)
  by_cases hj : j ∈ vs
  · rw [self σ2 vs hj, self σ vs hj, hl]
  · rw [wipe_out hj, wipe_out hj, k j hj]
/-- the list in the making, put aside; taken in at last -/
theorem SR.aside (h : SR K O T ρ S g al σ H) (n : H p = none) : SR K O (upd T p o) ρ S (put g p 3) al σ (upd H p o) :=
  ⟨h.len, by rw [reg_put n, h.fr], by rw [reg_put_ne (m := 1) n (by decide), reg_put_ne (m := 2) n (by decide)]; exact h.ob, fun i d e q => by rw [reg_put_ne (m := 1) n (by decide)]; exact h.sl i d e q,
    fun i d e q => by rw [reg_put_ne (m := 1) n (by decide), reg_put_ne (m := 4) n (by decide)]; exact h.ow i d e q⟩
theorem upd_get {H : Hp} {p : Addr} {o : HO} : upd H p o p = some o := upd_same
theorem SR.asideAt {u : HO} (h : SR K O (upd T p u) ρ S g al σ H) : reg g H 3 p = some u := by rw [h.fr, upd_same]
theorem SR.asideNew {u : HO} (h : SR K O (upd T p u) ρ S g al σ H) : SR K O (upd T p o) ρ S g al σ (upd H p o) := by
  have t : g p = 3 := reg_tag h.asideAt
  have en : ∀ m, m ≠ 3 → reg g (upd H p o) m = reg g H m := fun m m3 => reg_upd_ne (by rw [t]; exact Ne.symm m3)
  exact ⟨h.len, by rw [reg_upd t, h.fr, upd_upd], by rw [en 1 (by decide), en 2 (by decide)]; exact h.ob, fun i d e q => by rw [en 1 (by decide)]; exact h.sl i d e q, fun i d e q => by rw [en 1 (by decide), en 4 (by decide)]; exact h.ow i d e q⟩
theorem Le.aside (t : g p = 3) : Le g al H g al (upd H p o) := ⟨⟨by rw [reg_upd_ne (by rw [t]; decide)]; exact .refl, List.prefix_rfl⟩, reg_upd_ne (by rw [t]; decide)⟩
theorem Le.asideNew (n : H p = none) : Le g al H (put g p 3) al (upd H p o) := ⟨⟨by rw [reg_put_ne (m := 1) n (by decide)]; exact .refl, List.prefix_rfl⟩, reg_put_ne (m := 4) n (by decide)⟩
theorem SR.takeIn {u : HO} (h : SR K O (upd T p u) ρ S g al σ H) (hT : T p = none) : SR K O T ρ S (put g p 1) al σ H ∧ Le g al H (put g p 1) al H ∧ reg (put g p 1) H 1 p = some u := by
  have t3 := h.asideAt
  have t : g p = 3 := reg_tag t3
  have hp : H p = some u := reg_le _ _ t3
  have e1 : reg (put g p 1) H 1 = upd (reg g H 1) p u := by
    funext b
    unfold reg put
    by_cases hb : b = p
    · rw [if_pos hb, if_pos rfl, hb, upd_same, hp]
    · rw [if_neg hb, upd_ne hb]
  have en : ∀ m, m ≠ 1 → m ≠ 3 → reg (put g p 1) H m = reg g H m := fun m m1 m3 => by
    funext b
    unfold reg put
    by_cases hb : b = p
    · rw [if_pos hb, if_neg (Ne.symm m1), hb, if_neg (by rw [t]; exact Ne.symm m3)]
    · rw [if_neg hb]
  have e3 : reg (put g p 1) H 3 = T := by
    funext b
    have q : reg g H 3 b = upd T p u b := by rw [h.fr]
    unfold reg at q
    unfold reg put
    by_cases hb : b = p
    · rw [if_pos hb, if_neg (by decide), hb, hT]
    · rw [if_neg hb, q, upd_ne hb]
  have n1 : reg g H 1 p = none := by
    unfold reg
    rw [if_neg (by rw [t]; decide)]
  have le : Le g al H (put g p 1) al H := ⟨⟨.of (by rw [e1]; exact Same.alloc n1), List.prefix_rfl⟩, en 4 (by decide) (by decide)⟩
  refine ⟨⟨h.len, e3, by rw [en 2 (by decide) (by decide)]; exact Objs.mono h.ob le.s, fun i d e q => ?_, fun i d e q => ?_⟩, le, by rw [e1, upd_same]⟩
  · obtain ⟨v, q1, q2⟩ := h.sl i d e q
    exact ⟨v, q1, q2.mono le.s le.p⟩
  · rw [en 4 (by decide) (by decide)]
    obtain ⟨a, w, q1, q2, q3, q4⟩ := h.ow i d e q
    exact ⟨a, w, q1, q2, q3.mono le.s le.p, q4⟩
end
section
variable {X : Cx} {O : List Nat} {E : XS}
/-- tests of a comprehension -/
def VTs (X : Cx) (O : List Nat) (ifs : List Expr) (f : Env → Mo Bool) : Prop := PTs X ifs (lift RB X.K O XS0 f)
theorem PTs.weak {X : Cx} {e : List Expr} {t t' : TT} (h : PTs X e t) (w : ∀ σ H Q, t' σ H Q → t σ H Q) : PTs X e t' := ⟨fun pins s σ H Q I q => h.run pins s σ H Q I (w _ _ _ q)⟩
theorem vts_nil : VTs X O [] (fun _ => ret true) := PTs.weak pts_nil fun σ H Q ⟨T, ρ, S, g, al, s, w⟩ => w.rt' s rfl
theorem vts_one {c : Expr} {f : Env → Mo Bool} (h : VT X O XS0 c f) : VTs X O [c] f := pts_one h
/-- the reading of a comprehension -/
theorem lc_lift {tg elt iter : Expr} {ts vs : List Nat} {fi : Env → Mo (List D)} {t : D → Env → Option Env} {tt : Env → Mo Bool} {fe : Env → Mo D} {σ : L2.St} {H : Hp} {Q : VK} {K : PySem.W.Frag} (hts : ∀ i ∈ ts, i ∈ vs)
    (h : lift (RR K) K O E (fLc fi t tt fe vs) σ H Q) : tLc (liftI K O E fi) (liftG K O ts t) (lift RB K O XS0 tt) (lift (RR K) K O XS0 fe) vs σ H Q := by
  obtain ⟨T, ρ, S, g, al, s, w⟩ := h
  unfold Post fLc at w
  rw [wp_bnd] at w
  refine ⟨T, ρ, S, g, al, s, wp_mono w (fun ds S1 w1 g1 al1 H1 J s1 l1 wk => ?_) fun _ _ _ q => q⟩
  obtain ⟨hl, w1⟩ := wp_grd.mp w1
  have hl : ds.length ≤ LIM := of_decide_eq_true hl
  rw [wp_bnd] at w1
  have w1 := wp_nox (E' := fun _ _ _ => False) w1
  intro D nD
  have hTD : T D = none := by
    rw [← s1.fr]
    exact reg_none nD
  -- behind i turns: what is made so far, what is still to come
  refine ⟨fun i m H2 => m = ds.length - i ∧ i ≤ ds.length ∧ ∃ S2 g2 al2 vs2 acc, SR K O (upd T D (.lst vs2)) ρ S2 g2 al2 σ H2 ∧ Le g1 al1 H1 g2 al2 H2 ∧ Reps K (reg g2 H2 1) al2 vs2 acc ∧ vs2.length ≤ i ∧
    wp (mapC t tt fe (wipeD ρ vs) (ds.drop i)) (fun ys S3 => ∀ v g' al' H', SR K O T ρ S3 g' al' σ H' → Le g1 al1 H1 g' al' H' → Rep K (reg g' H' 1) al' v (.lst (acc ++ ys)) → Q v H') (fun _ _ _ => False) S2,
    ⟨_, rfl, Nat.zero_le _, S1, put g1 D 3, al1, [], [], s1.aside nD, Le.asideNew nD, .nil, Nat.le_refl _, ?_⟩, ?_⟩
  · rw [List.drop_zero]
    exact wp_mono w1 (fun ys S3 q v g' al' H' s' l r => q v g' al' H' s' (l1.trans l) r) fun _ _ _ q => q
  rintro i m H2 ⟨rfl, hi, S2, g2, al2, vs2, acc, s2, l2, r2, hz, w2⟩
  by_cases hlt : i < ds.length
  · rw [List.drop_eq_getElem_cons hlt] at w2
    unfold mapC at w2
    rw [bnd_opt] at w2
    cases ht : t ds[i] (wipeD ρ vs) with
    | none => rw [ht] at w2; exact w2.elim
    | some ρ3 =>
      rw [ht] at w2
      dsimp only at w2
      rw [wp_bnd] at w2
      refine .inr ⟨wk.go g2 al2 H2 i l2.w hlt, fun H' => i + 1 ≤ ds.length ∧ ∃ S2 g2 al2 vs2 acc, SR K O (upd T D (.lst vs2)) ρ S2 g2 al2 σ H' ∧ Le g1 al1 H1 g2 al2 H' ∧ Reps K (reg g2 H' 1) al2 vs2 acc ∧ vs2.length ≤ i + 1 ∧
        wp (mapC t tt fe (wipeD ρ vs) (ds.drop (i + 1))) (fun ys S3 => ∀ v g' al' H', SR K O T ρ S3 g' al' σ H' → Le g1 al1 H1 g' al' H' → Rep K (reg g' H' 1) al' v (.lst (acc ++ ys)) → Q v H') (fun _ _ _ => False) S2,
        fun H' q => ⟨_, by omega, rfl, q.1, q.2⟩, fun x H3 hy => ?_⟩
      have hd : ds[i]? = some ds[i] := List.getElem?_eq_getElem hlt
      have key : ∀ g3 H4, SR K O (upd T D (.lst vs2)) ρ S2 g3 al2 σ H4 → Le g2 al2 H2 g3 al2 H4 → reg g3 H4 4 = reg g2 H2 4 → Rep K (reg g3 H4 1) al2 x ds[i] → liftG K O ts t x (wipe σ vs) H4 fun σ2 H2 => wipe σ2 vs = wipe σ vs ∧ lift RB K O XS0 tt σ2 H2 fun b H3 =>
          if b = true then lift (RR K) K O XS0 fe σ2 H3 fun y H4 => ∃ acc, H4 D = some (.lst acc) ∧ acc.length < sizeLine ∧ (i + 1 ≤ ds.length ∧ ∃ S2 g2 al2 vs2 acc', SR K O (upd T D (.lst vs2)) ρ S2 g2 al2 σ (upd H4 D (.lst (acc ++ [y]))) ∧ Le g1 al1 H1 g2 al2 (upd H4 D (.lst (acc ++ [y]))) ∧ Reps K (reg g2 (upd H4 D (.lst (acc ++ [y]))) 1) al2 vs2 acc' ∧ vs2.length ≤ i + 1 ∧
            wp (mapC t tt fe (wipeD ρ vs) (ds.drop (i + 1))) (fun ys S3 => ∀ v g' al' H', SR K O T ρ S3 g' al' σ H' → Le g1 al1 H1 g' al' H' → Rep K (reg g' H' 1) al' v (.lst (acc' ++ ys)) → Q v H') (fun _ _ _ => False) S2)
          else (i + 1 ≤ ds.length ∧ ∃ S2 g2 al2 vs2 acc, SR K O (upd T D (.lst vs2)) ρ S2 g2 al2 σ H3 ∧ Le g1 al1 H1 g2 al2 H3 ∧ Reps K (reg g2 H3 1) al2 vs2 acc ∧ vs2.length ≤ i + 1 ∧
            wp (mapC t tt fe (wipeD ρ vs) (ds.drop (i + 1))) (fun ys S3 => ∀ v g' al' H', SR K O T ρ S3 g' al' σ H' → Le g1 al1 H1 g' al' H' → Rep K (reg g' H' 1) al' v (.lst (acc ++ ys)) → Q v H') (fun _ _ _ => False) S2) := fun g3 H4 s3 l3 h43 r3 => by
        refine ⟨_, wipeD ρ vs, S2, g3, al2, ds[i], ρ3, s3.wipe vs, r3, ht, fun σ5 s5 hl5 k5 => ⟨?_, ?_⟩⟩
        · have e := wipe_eq (vs := vs) hl5 fun j hj => k5 j fun z => hj (hts j z)
          rw [e]
          exact wipe_eq (wipe_length _ _) fun j hj => wipe_out hj
        · refine ⟨_, ρ3, S2, g3, al2, s5, wp_mono w2 (fun b S6 w6 v g6 al6 H6 s6 l6 r6 => ?_) fun _ _ _ q => q.elim⟩
          cases r6
          have sr6 : SR K O (upd T D (.lst vs2)) ρ S6 g6 al6 σ H6 := s3.back s6 l6
          have l16 := (l2.trans l3).trans l6
          cases b with
          | false => exact ⟨hlt, S6, g6, al6, vs2, acc, sr6, l16, r2.mono (l3.trans l6).s (l3.trans l6).p, by omega, w6⟩
          | true =>
            rw [if_pos rfl] at w6 ⊢
            rw [wp_bnd] at w6
            refine ⟨_, ρ3, S6, g6, al6, s6, wp_mono w6 (fun y S7 w7 u g7 al7 H7 s7 l7 r7 => ?_) fun _ _ _ q => q.elim⟩
            have sr7 := sr6.back s7 l7
            have hD7 : H7 D = some (.lst vs2) := reg_le _ _ sr7.asideAt
            have t7 : g7 D = 3 := reg_tag sr7.asideAt
            have l37 := (l3.trans l6).trans l7
            refine ⟨vs2, hD7, Nat.lt_of_le_of_lt hz (Nat.lt_of_lt_of_le hlt (lim hl)), hlt, S7, g7, al7, vs2 ++ [u], acc ++ [y], sr7.asideNew, (l2.trans l37).trans (Le.aside t7), ?_, by rw [List.length_append, List.length_singleton]; omega, ?_⟩
            · have q := (Reps.mono l37.s l37.p _ _ r2).append (Reps.one r7)
              exact q.mono (Le.aside (al := al7) (o := .lst (vs2 ++ [u])) t7).s List.prefix_rfl
            · rw [wp_bnd] at w7
              refine wp_mono w7 (fun ys S8 q v g' al' H' s' l' r' => q v g' al' H' s' l' ?_) fun _ _ _ q => q
              rw [List.append_assoc] at r'
              exact r'
      rcases wk.yld g2 al2 H2 i x H3 l2.w hlt hy with ⟨e, d, e2, r⟩ | ⟨p, o, d, np, e, e2, r⟩
      · rw [hd] at e2
        cases e2
        subst e
        exact key g2 _ s2 .refl rfl r
      · rw [hd] at e2
        cases e2
        subst e
        exact key _ _ (s2.alloc np) (Le.alloc np) (Le.alloc (al := al2) np).o r
  · have e : i = ds.length := by omega
    subst e
    rw [List.drop_length] at w2
    obtain ⟨sT, lT, aT⟩ := s2.takeIn hTD
    refine .inl ⟨wk.stop g2 al2 H2 l2.w, w2 (.ref D) (put g2 D 1) al2 H2 sT (l2.trans lT) ?_⟩
    rw [List.append_nil]
    exact .lst (.inl aT) (r2.mono lT.s lT.p)
end
end Vl
set_option Elab.async false
set_option linter.all false
set_option maxRecDepth 100000
set_option maxHeartbeats 4000000
namespace Vl
open PySem PySem.Spec PyProof.Rows L2 Oc
variable [Ob : Objs]
section
variable {X : Cx} {O : List Nat} {E : XS}
theorem ve_lc {elt tg iter : Expr} {ifs : List Expr} {scope : Scope} {own : List (Str × Nat)} {pos : Pos} {ts : List Nat} {fi : Env → Mo (List D)} {t : D → Env → Option Env} {tt : Env → Mo Bool} {fe : Env → Mo D} (hc : X.calm = true) (hN : X.N.Nodup) (hi : VI X O E tg iter fi) (ok : BlkOk X.N X.env.scope scope own)
    (hg : ∀ (s : Shared) (H : Hp) (C : Addr) (cl : List (Str × Addr)) (fp : List Addr), VG (X.blk s H scope (compEnvC scope cl C X.env) fp) O ts tg t)
    (ht : ∀ (s : Shared) (H : Hp) (C : Addr) (cl : List (Str × Addr)) (fp : List Addr), VTs (X.blk s H scope (compEnvC scope cl C X.env) fp) O ifs tt)
    (he : ∀ (s : Shared) (H : Hp) (C : Addr) (cl : List (Str × Addr)) (fp : List Addr), VE (X.blk s H scope (compEnvC scope cl C X.env) fp) O XS0 elt fe)
    (hts : ∀ i ∈ ts, i ∈ own.map (·.2) := by decide) (hs : ∀ x, foldedSetIterable iter X.env x = pure x := by intro _; rfl) : VE X O E (.ListComp elt [⟨tg, iter, ifs, 0⟩] scope pos) (fLc fi t tt fe (own.map (·.2))) :=
  PE.weak (pe_lc (g := liftG X.K O ts t) (tt := lift RB X.K O XS0 tt) (te := lift (RR X.K) X.K O XS0 fe) hc hN hi ok hg ht he hs) fun σ H Q h => lc_lift (elt := elt) (tg := tg) (iter := iter) hts h
/-- name = expression, by the statement's own rule -/
theorem vs_asN {i : Nat} {st : Stmt} {fe : Env → Mo D} {OL : List Nat} (fE : Flat E) (hi : i ∉ O) (h : PS X st (tAsg (lift (RR X.K) X.K O E fe) (gName i))) : VS X O O OL E st (sSet i fe) := PS.weak h fun Dn σ H ⟨T, ρ, S, g, al, s, w⟩ => ⟨T, ρ, S, g, al, s, PostS.bn fE w fun v d S' g' al' H' s' l r w' => w' _ g' al' H' (s'.set hi r) .refl⟩
theorem vs_lc {i : Nat} {y : Str} {py : Pos} {elt tg iter : Expr} {ifs : List Expr} {scope : Scope} {own : List (Str × Nat)} {pos spos : Pos} {ts OL : List Nat} {fi : Env → Mo (List D)} {t : D → Env → Option Env} {tt : Env → Mo Bool} {fe : Env → Mo D} (fE : Flat E) (hiO : i ∉ O)
    (hc : X.calm = true) (hN : X.N.Nodup) (hy : X.N[i]? = some y) (hyl : X.env.scope.names.lookup y = some .local) (hsw : swapsWith (.ListComp elt [⟨tg, iter, ifs, 0⟩] scope pos) (some (.Name y py)) spos.line X.env = pure true) (hi : VI X O E tg iter fi) (ok : BlkOk X.N X.env.scope scope own)
    (hg : ∀ (s : Shared) (H : Hp) (C : Addr) (cl : List (Str × Addr)) (fp : List Addr), VG (X.blk s H scope (compEnvC scope cl C X.env) fp) O ts tg t)
    (ht : ∀ (s : Shared) (H : Hp) (C : Addr) (cl : List (Str × Addr)) (fp : List Addr), VTs (X.blk s H scope (compEnvC scope cl C X.env) fp) O ifs tt)
    (he : ∀ (s : Shared) (H : Hp) (C : Addr) (cl : List (Str × Addr)) (fp : List Addr), VE (X.blk s H scope (compEnvC scope cl C X.env) fp) O XS0 elt fe)
    (hts : ∀ i ∈ ts, i ∈ own.map (·.2) := by decide) (hs : ∀ x, foldedSetIterable iter X.env x = pure x := by intro _; rfl) : VS X O O OL E (.Assign [.Name y py] (.ListComp elt [⟨tg, iter, ifs, 0⟩] scope pos) spos) (sSet i (fLc fi t tt fe (own.map (·.2)))) :=
  vs_asN fE hiO (PS.weak (ps_setLc (g := liftG X.K O ts t) (tt := lift RB X.K O XS0 tt) (te := lift (RR X.K) X.K O XS0 fe) hc hN hy hyl hsw hi ok hg ht he hs) fun Dn σ H h => lc_lift (elt := elt) (tg := tg) (iter := iter) hts h)
/-! ### lists and dicts of one's own -/
/-- an expression that makes a new list or dict, nobody else's yet -/
def liftW (K : PySem.W.Frag) (O : List Nat) (E : XS) (f : Env → Mo D) : TE := fun σ H Q => ∃ T ρ S g al, SR K O T ρ S g al σ H ∧
  wp (f ρ) (fun d S' => ∀ p o g' al' H', SR K O (upd T p o) ρ S' g' al' σ H' → T p = none → Le g al H g' al' H' → OwnR K (reg g' H' 1) al' p o d → Q (.ref p) H')
    (fun C fs S' => ∀ g' al' H' dx, SR K O T ρ S' g' al' σ H' → Le g al H g' al' H' → ExF K (reg g' H' 1) al' fs dx → E σ (.ref (He.ga K C)) dx H') S
def VN (X : Cx) (O : List Nat) (E : XS) (e : Expr) (f : Env → Mo D) : Prop := PE X e (liftW X.K O E f)
theorem SR.takeOwn {K : PySem.W.Frag} {T : Hp} {ρ : Env} {S : Objs.T} {g : Addr → Nat} {al : List Addr} {σ : L2.St} {H : Hp} {p : Addr} {u : HO} {i : Nat} {d : D} (h : SR K O (upd T p u) ρ S g al σ H) (hT : T p = none) (hi : i ∉ O) (r : OwnR K (reg g H 1) al p u d) :
    SR K (i :: O) T (ρ.set i (some d)) S (put g p 4) al (σ.set i (some (.ref p))) H ∧ Lw g al H (put g p 4) al H := by
  have t3 := h.asideAt
  have t : g p = 3 := reg_tag t3
  have hp : H p = some u := reg_le _ _ t3
  have en : ∀ m, m ≠ 4 → m ≠ 3 → reg (put g p 4) H m = reg g H m := fun m m1 m3 => by
    funext b
    unfold reg put
    by_cases hb : b = p
    · rw [if_pos hb, if_neg (Ne.symm m1), hb, if_neg (by rw [t]; exact Ne.symm m3)]
    · rw [if_neg hb]
  have e3 : reg (put g p 4) H 3 = T := by
    funext b
    have q : reg g H 3 b = upd T p u b := by rw [h.fr]
    unfold reg at q
    unfold reg put
    by_cases hb : b = p
    · rw [if_pos hb, if_neg (by decide), hb, hT]
    · rw [if_neg hb, q, upd_ne hb]
  have e4 : reg (put g p 4) H 4 = upd (reg g H 4) p u := by
    funext b
    unfold reg put
    by_cases hb : b = p
    · rw [if_pos hb, if_pos rfl, hb, upd_same, hp]
    · rw [if_neg hb, upd_ne hb]
  have n4 : reg g H 4 p = none := by
    unfold reg
    rw [if_neg (by rw [t]; decide)]
  have e1 := en 1 (by decide) (by decide)
  refine ⟨⟨by rw [List.length_set, List.length_set, h.len], e3, by rw [e1, en 2 (by decide) (by decide)]; exact h.ob, fun j e q nj => ?_, fun j e q nj => ?_⟩, ⟨by rw [e1]; exact .refl, List.prefix_rfl⟩⟩
  · have hj : i ≠ j := fun z => nj (by rw [z]; exact List.mem_cons_self)
    rw [get_set hj] at q ⊢
    rw [e1]
    exact h.sl j e q fun z => nj (List.mem_cons_of_mem _ z)
  · rw [e1, e4]
    by_cases hj : i = j
    · subst hj
      have hl : i < ρ.length := by
        have := (List.getElem?_eq_some_iff.mp q).1
        simpa using this
      rw [List.getElem?_set_self hl] at q
      cases q
      refine ⟨p, u, List.getElem?_set_self (by rw [h.len]; exact hl), upd_same, r, fun k hk ne f hf => ?_⟩
      have hik : i ≠ k := Ne.symm ne
      rw [get_set hik] at hf ⊢
      rcases List.mem_cons.mp hk with z | z
      · exact absurd z ne
      · obtain ⟨b, w, q1, q2, _⟩ := h.ow k f hf z
        rw [q1]
        intro z2
        cases z2
        rw [n4] at q2
        cases q2
    · have hjO : j ∈ O := (List.mem_cons.mp nj).elim (fun z => absurd z.symm hj) id
      rw [get_set hj] at q ⊢
      obtain ⟨b, w, q1, q2, q3, q4⟩ := h.ow j e q hjO
      have hb : b ≠ p := ne_of_none q2 n4
      refine ⟨b, w, q1, by rw [upd_ne hb]; exact q2, q3, fun k hk ne f hf => ?_⟩
      by_cases hik : i = k
      · subst hik
        have hl : i < σ.length := by
          have := (List.getElem?_eq_some_iff.mp hf).1
          rw [h.len]
          simpa using this
        rw [List.getElem?_set_self hl]
        intro z
        cases z
        exact hb rfl
      · rw [get_set hik] at hf ⊢
        exact q4 k ((List.mem_cons.mp hk).elim (fun z => absurd z.symm hik) id) ne f hf
theorem vs_own {i : Nat} {st : Stmt} {fe : Env → Mo D} {OL : List Nat} (fE : Flat E) (hi : i ∉ O) (h : PS X st (tAsg (liftW X.K O E fe) (gName i))) : VS X O (i :: O) OL E st (sSet i fe) := PS.weak h fun Dn σ H ⟨T, ρ, S, g, al, s, w⟩ => by
  unfold PostS sSet at w
  rw [wp_bnd] at w
  refine ⟨T, ρ, S, g, al, s, wp_mono w (fun d S1 w1 p o g' al' H' s' hT l r => ?_) fun C fs S1 k g' al' H' dx s l x => fE σ _ _ _ _ (k σ g' al' H' dx s.base l.w x)⟩
  obtain ⟨s2, l2⟩ := s'.takeOwn hT hi r
  exact w1 _ _ al' H' s2 (l.w.trans l2)
theorem vn_lst {es : List Expr} {fl : Env → Mo (List D)} {pos : Pos} (h : VA X O E es fl) : VN X O E (.List es pos) (fN fl kLst) := PE.weak (pe_lst h) fun σ H Q ⟨T, ρ, S, g, al, s, w⟩ => by
  unfold fN at w
  rw [wp_bnd] at w
  refine ⟨T, ρ, S, g, al, s, wp_mono w (fun ds S1 w1 us g1 al1 H1 s1 l1 r1 => ?_) fun C fs S1 k => k⟩
  obtain ⟨hl, w1⟩ := wp_grd.mp w1
  refine ⟨by rw [r1.len]; exact sz hl, fun p np => w1 p _ _ al1 _ (s1.aside np) (by rw [← s1.fr]; exact reg_none np) (l1.trans (Le.asideNew np)) ?_⟩
  rw [reg_put_ne (m := 1) np (by decide)]
  exact .lst r1
theorem vn_dic {pos : Pos} : VN X O E (.Dict [] [] pos) (fC (.dic [])) := PE.weak pe_dnewK fun σ H Q ⟨T, ρ, S, g, al, s, w⟩ => fun p np => w p _ _ al _ (s.aside np) (by rw [← s.fr]; exact reg_none np) (Le.asideNew np) (.dic .nil)
/-- x.append(e), x's list one's own -/
def sApp (i : Nat) (fe : Env → Mo D) : MoS := fun ρ => bnd (fe ρ) fun d => match (ρ[i]?).join with
  | some (.lst ds) => grd (decide (ds.length < LIM)) (ret (.nx, ρ.set i (some (.lst (ds ++ [d])))))
  | _ => nop
/-- the list, the dict at i is there -/
def hasOwn (i : Nat) (ρ : Env) : Bool := match (ρ[i]?).join with
  | some (.lst _) => true
  | _ => false
theorem vs_app {i : Nat} {y : Str} {py apos cpos pos : Pos} {e : Expr} {fe : Env → Mo D} {OL : List Nat} (fE : Flat E) (hi : i ∈ O) (hv : PE X (.Name y py) (tVar i)) (he : VE X O E e fe)
    (h : ∀ {to : TE} {ta : TA}, PE X (.Name y py) to → PA X [e] ta → PS X (.Expr (.Call (.Attribute (.Name y py) "append" apos) [e] [] cpos) pos) (tDrop (tBM X.K "list" rAppend to ta))) (hs : starEach [e] X.env = (false, eval e X.env) :: starEach [] X.env := by rfl) :
    VS X O O OL E (.Expr (.Call (.Attribute (.Name y py) "append" apos) [e] [] cpos) pos) (fun ρ => grd (hasOwn i ρ) (sApp i fe ρ)) := PS.weak (h hv (pa_cons he pa_nil hs)) fun Dn σ H ⟨T, ρ, S, g, al, s, w⟩ => by
  obtain ⟨ho, w⟩ := wp_grd.mp w
  unfold hasOwn at ho
  split at ho
  · next ds e1 =>
    obtain ⟨a, o, h1, h2, h3, h4⟩ := s.ow i _ (join_get e1) hi
    cases h3 with
    | lst r =>
      rename_i vs
      refine ⟨.ref a, h1, .inl ⟨rfl, vs, .inl (.inl (reg_le _ _ h2))⟩, ?_⟩
      refine ⟨T, ρ, S, g, al, s, PostS.bn fE w fun v d S' g' al' H' s' l r' w' => ?_⟩
      obtain ⟨a', o', q1, q2, q3, q4⟩ := s'.ow i _ (join_get e1) hi
      rw [h1] at q1
      cases q1
      rw [e1] at w'
      dsimp only at w'
      obtain ⟨hl, w'⟩ := wp_grd.mp w'
      cases q3 with
      | lst r3 =>
        rename_i vs3
        refine ⟨a, vs3, v, rfl, rfl, reg_le _ _ q2, by rw [r3.len]; exact Nat.lt_of_lt_of_le (of_decide_eq_true hl) (lim (Nat.le_refl _)), ?_⟩
        have s4 := s'.change (d := .lst (ds ++ [d])) (o := .lst (vs3 ++ [v])) hi ⟨_, join_get e1⟩ h1 q2 (.lst (r3.append (Reps.one r')))
        have ta : g' a = 4 := reg_tag q2
        exact w' σ g' al' _ s4 ⟨by rw [reg_upd_ne (by rw [ta]; decide)]; exact .refl, List.prefix_rfl⟩
  · cases ho
end
/-! ### defs -/
/-- a def's promise: it does F -/
def spF (K : PySem.W.Frag) (F : List D → Mo D) : Sp := fun vs H Q E => ∃ T ds S g al, SR K [] T [] S g al [] H ∧ (∀ a, g a ≠ 4) ∧ Reps K (reg g H 1) al vs ds ∧
  wp (F ds) (fun d S' => ∀ v g' al' H', SR K [] T [] S' g' al' [] H' → Lw g al H g' al' H' → Rep K (reg g' H' 1) al' v d → Q v H')
    (fun C fs S' => ∀ g' al' H' dx, SR K [] T [] S' g' al' [] H' → Lw g al H g' al' H' → ExF K (reg g' H' 1) al' fs dx → E (.ref (He.ga K C)) dx H') S
/-- the names' values at the entry -/
def startD (n : Nat) (ds : List D) : Env := ds.map some ++ List.replicate (n - ds.length) none
def fnM (k n : Nat) (m : MoS) : List D → Mo D := fun ds => if ds.length = k then bnd (m (startD n ds)) fun r => match r.1 with
  | .nx => ret .non
  | .rt d => ret d
  | _ => nop else nop
section
variable {P : Program} {w : World} {K : PySem.W.Frag} {mg : Str → Option Value} {base : Heap}
theorem SR.start {T : Hp} {S : Objs.T} {g : Addr → Nat} {al : List Addr} {H : Hp} {vs : List V} {ds : List D} {N : List Str} (h : SR K [] T [] S g al [] H) (r : Reps K (reg g H 1) al vs ds) : SR K [] T (startD N.length ds) S g al (start N vs) H where
  len := by
    unfold L2.start startD
    rw [List.length_append, List.length_append, List.length_map, List.length_map, List.length_replicate, List.length_replicate, r.len]
  fr := h.fr
  ob := h.ob
  sl := fun i d e _ => by
    unfold startD at e
    unfold L2.start
    by_cases hi : i < ds.length
    · rw [List.getElem?_append_left (by simpa using hi), List.getElem?_map] at e
      cases q : ds[i]? with
      | none => rw [q] at e; cases e
      | some d' =>
        rw [q] at e
        cases e
        obtain ⟨v, hv, rv⟩ := r.get q
        exact ⟨v, by rw [List.getElem?_append_left (by rw [List.length_map, r.len]; exact hi), List.getElem?_map, hv]; rfl, rv⟩
    · rw [List.getElem?_append_right (by simpa using hi), List.getElem?_replicate] at e
      split at e <;> cases e
  ow := fun i d e n => nomatch n
def XSof (E : XK) : XS := fun _ c d H => E c d H
theorem flat_of (E : XK) : Flat (XSof E) := fun _ _ _ _ _ h => h
/-- THE RULE for a def: what its body does -/
theorem fn_v {x qual : Str} {params : Arguments} {body : List Stmt} {scope : Scope} {f : Addr} {fd : FuncData} {N ps : List Str} {k : Nat} {O' : List Nat} {m : MoS} {kws : List (Str × V)} (F : FunD K x qual params body scope [] kws f fd) (S : FnScope N ps scope)
    (hbody : ∀ (cdv : Value) (A : Around) (outer : List PySem.Env) (s : Shared) (H : Hp) (E : XK), Room k (A.deeper (envOfC qual scope s.heap.objs.size f cdv)) →
      VB (cxOf (L2.CX P w) P w K mg base N qual scope f cdv A outer s H E) [] O' [] (XSof E) body m) : FnOk P w K mg base (L2.CX P w) (k + 1) f fd ps (spF K (fnM ps.length N.length m)) := by
  refine FunD.ok F S (fun vs H Q E h => ?_) (fun cdv A outer s H vs Q E hr h => ?_)
  · obtain ⟨T, ds, S, g, al, s, n4, r, w⟩ := h
    unfold fnM at w
    split at w
    · next e => rw [r.len]; exact e
    · exact w.elim
  · obtain ⟨T, ds, S0, g, al, sr, n4, r, w⟩ := h
    refine ⟨_, hbody cdv A outer s H E hr, T, startD N.length ds, S0, g, al, sr.start r, ?_⟩
    unfold fnM at w
    split at w
    · rw [wp_bnd] at w
      refine wp_mono w (fun rr S1 w1 => ?_) fun C fs S1 q σ' g' al' H' dx s l x => q g' al' H' dx s l x
      obtain ⟨fl, ρ1⟩ := rr
      cases fl with
      | nx => exact fun σ' g' al' H' s' l => w1 .non g' al' H' s'.base l .non
      | rt d => exact fun v g' al' H' s' l r' => w1 v g' al' H' s' l r'
      | bk => exact w1.elim
      | ct => exact w1.elim
    · exact w.elim
/-- a plainer word for what it does -/
def Does (F G : List D → Mo D) : Prop := ∀ ds S r, G ds S = some r → F ds S = some r
theorem spF.imp {F G : List D → Mo D} (h : Does F G) : ∀ vs H Q E, spF K G vs H Q E → spF K F vs H Q E := fun vs H Q E ⟨T, ds, S, g, al, s, n4, r, w⟩ => by
  refine ⟨T, ds, S, g, al, s, n4, r, ?_⟩
  unfold wp at w ⊢
  cases q : G ds S with
  | none => rw [q] at w; exact w.elim
  | some rr => rw [h ds S rr q]; rw [q] at w; exact w
structure VCal (P : Program) (w : World) (K : PySem.W.Frag) (mg : Str → Option Value) (base : Heap) (k : Nat) (x : Str) (ps : List Str) (F : List D → Mo D) : Prop where
  ex : ∃ (f : Addr) (fd : FuncData), FnOk P w K mg base (L2.CX P w) k f fd ps (spF K F) ∧ Binds K fd ps [] ∧ PySem.W.keepIn K (.ref f) = true ∧ mg x = some (.ref f)
theorem VCal.imp {k : Nat} {x : Str} {ps : List Str} {F G : List D → Mo D} (C : VCal P w K mg base k x ps F) (h : Does F G) : VCal P w K mg base k x ps G := by
  obtain ⟨f, fd, a, b⟩ := C.ex
  exact ⟨f, fd, a.imp (spF.imp h), b⟩
end
/-- the context takes such exceptions -/
def Tk (X : Cx) (E : XS) : Prop := Takes X fun c d σ H => E σ c d H
theorem tk0 {X : Cx} : Tk X XS0 := takes0
section
variable {X : Cx} {O : List Nat} {E : XS} {K : PySem.W.Frag} {T : Hp} {ρ : Env} {S S' : Objs.T} {g g' : Addr → Nat} {al al' : List Addr} {σ : L2.St} {H H' : Hp}
/-- ahead of a call: what is a name's own is put aside -/
def dn (g : Addr → Nat) : Addr → Nat := fun a => if g a = 4 then 3 else g a
def up (g : Addr → Nat) (H : Hp) (g' : Addr → Nat) : Addr → Nat := fun a => if g a = 4 ∧ (H a).isSome = true then 4 else if g' a = 4 then 5 else g' a
theorem reg_dn {n : Nat} (h3 : n ≠ 3) (h4 : n ≠ 4) : reg (dn g) H n = reg g H n := by
  funext a
  unfold reg dn
  by_cases e : g a = 4
  · rw [if_pos e, if_neg (Ne.symm h3), if_neg (by rw [e]; exact Ne.symm h4)]
  · rw [if_neg e]
theorem SR.call (h : SR K O T ρ S g al σ H) : SR K [] (reg (dn g) H 3) [] S (dn g) al [] H ∧ ∀ a, dn g a ≠ 4 :=
  ⟨⟨rfl, rfl, by rw [reg_dn (by decide) (by decide), reg_dn (by decide) (by decide)]; exact h.ob, fun i d e _ => by simp at e, fun i d e _ => by simp at e⟩, fun a => by
    unfold dn
    split
    · decide
    · assumption⟩
theorem SR.ret (h : SR K O T ρ S g al σ H) (r : SR K [] (reg (dn g) H 3) [] S' g' al' [] H') (l : Lw (dn g) al H g' al' H') : SR K O T ρ S' (up g H g') al' σ H' ∧ Le g al H (up g H g') al' H' ∧ reg (up g H g') H' 1 = reg g' H' 1 := by
  have key : ∀ a o, g a = 4 → H a = some o → g' a = 3 ∧ H' a = some o := fun a o e ha => by
    have q : reg g' H' 3 a = some o := by
      rw [r.fr]
      unfold reg dn
      rw [if_pos e, if_pos rfl]
      exact ha
    exact ⟨reg_tag q, reg_le _ _ q⟩
  have en : ∀ n, n ≠ 3 → n ≠ 4 → n ≠ 5 → reg (up g H g') H' n = reg g' H' n := fun n h3 h4 h5 => by
    funext a
    unfold reg up
    by_cases e : g a = 4 ∧ (H a).isSome = true
    · obtain ⟨o, ho⟩ := Option.isSome_iff_exists.mp e.2
      rw [if_pos e, if_neg (Ne.symm h4), if_neg (by rw [(key a o e.1 ho).1]; exact Ne.symm h3)]
    · rw [if_neg e]
      by_cases e2 : g' a = 4
      · rw [if_pos e2, if_neg (Ne.symm h5), if_neg (by rw [e2]; exact Ne.symm h4)]
      · rw [if_neg e2]
  have e3 : reg (up g H g') H' 3 = T := by
    funext a
    have qT : reg g H 3 a = T a := by rw [h.fr]
    have qr : reg g' H' 3 a = reg (dn g) H 3 a := by rw [r.fr]
    unfold reg dn at qr
    unfold reg at qT
    unfold reg up
    by_cases e : g a = 4 ∧ (H a).isSome = true
    · rw [if_pos e, if_neg (by decide), ← qT, if_neg (by rw [e.1]; decide)]
    · rw [if_neg e]
      by_cases e4 : g a = 4
      · have hn : H a = none := by
          cases q : H a with
          | none => rfl
          | some o => exact absurd ⟨e4, by rw [q]; rfl⟩ e
        rw [if_pos e4, if_pos rfl, hn] at qr
        have hTa : T a = none := by rw [← qT, if_neg (by rw [e4]; decide)]
        rw [hTa]
        by_cases e5 : g' a = 4
        · rw [if_pos e5, if_neg (by decide)]
        · rw [if_neg e5]
          exact qr
      · rw [if_neg e4] at qr
        rw [qT] at qr
        by_cases e5 : g' a = 4
        · rw [if_pos e5, if_neg (by decide)]
          rw [if_neg (by rw [e5]; decide)] at qr
          exact qr
        · rw [if_neg e5]
          exact qr
  have e4 : reg (up g H g') H' 4 = reg g H 4 := by
    funext a
    unfold reg up
    by_cases e : g a = 4 ∧ (H a).isSome = true
    · obtain ⟨o, ho⟩ := Option.isSome_iff_exists.mp e.2
      rw [if_pos e, if_pos rfl, if_pos e.1, ho, (key a o e.1 ho).2]
    · rw [if_neg e]
      have ne : ¬ (if g' a = 4 then 5 else g' a) = 4 := by
        split
        · decide
        · assumption
      rw [if_neg ne]
      by_cases e5 : g a = 4
      · rw [if_pos e5]
        cases q : H a with
        | none => rfl
        | some o => exact absurd ⟨e5, by rw [q]; rfl⟩ e
      · rw [if_neg e5]
  have e1 := en 1 (by decide) (by decide) (by decide)
  have le : Le g al H (up g H g') al' H' := ⟨⟨by rw [e1, ← reg_dn (g := g) (H := H) (n := 1) (by decide) (by decide)]; exact l.s, l.p⟩, e4⟩
  exact ⟨h.move le.w (by rw [e3, h.fr]) e4 (by rw [e1, en 2 (by decide) (by decide) (by decide)]; exact r.ob), le, e1⟩
/-- the callee's promise, from where the caller stands -/
theorem call_spF {F : List D → Mo D} {us : List V} {xs : List D} {Q : VK} (s : SR K O T ρ S g al σ H) (r : Reps K (reg g H 1) al us xs) (w : Post (RR K) K O E T ρ σ g al H (F xs) S Q) : spF K F us H Q (E σ) := by
  obtain ⟨s1, n4⟩ := s.call
  refine ⟨_, xs, S, dn g, al, s1, n4, by rw [reg_dn (by decide) (by decide)]; exact r, wp_mono w (fun d S' k v g' al' H' s' l r' => ?_) fun C fs S' k g' al' H' dx s' l x => ?_⟩
  · obtain ⟨s2, l2, e1⟩ := s.ret s' l
    exact k v _ al' H' s2 l2 (by show Rep _ _ _ _ _; rw [e1]; exact r')
  · obtain ⟨s2, l2, e1⟩ := s.ret s' l
    exact k _ al' H' dx s2 l2 (by rw [e1]; exact x)
theorem ve_call {k : Nat} {x : Str} {ps : List Str} {F : List D → Mo D} {e : Expr} {es : List Expr} {fl : Env → Mo (List D)} {p pos : Pos} (C : VCal X.prog X.w X.K X.mg X.base k x ps F) (hr : Room k X.A) (tk : Tk X E) (ha : VA X O E (e :: es) fl) (hg : Gl X x := by rfl)
    (hdb : (x == ("__debug__" : Str)) = false := by decide) (he : starEach (e :: es) X.env = (false, eval e X.env) :: starEach es X.env := by rfl) (hpl : (backTo pos (starEach es X.env)).any (·.1) = false := by rfl) : VE X O E (.Call (.Name x p) (e :: es) [] pos) (fN fl F) := by
  obtain ⟨f, fd, Fn, b, kp, hm⟩ := C.ex
  refine PE.weak (pe_callS (E := E) Fn hr hg hm kp b (fun σ => passAt tk σ) ha hdb he hpl) fun σ H Q ⟨T, ρ, S, g, al, s, w⟩ => ⟨T, ρ, S, g, al, s, w.bn fun v d S' g' al' H' s' l r w' => call_spF s' r w'⟩
end
end Vl
set_option Elab.async false
set_option linter.all false
set_option maxRecDepth 100000
set_option maxHeartbeats 4000000
namespace Vl
open PySem PySem.Spec PyProof.Rows L2 Oc
variable [Ob : Objs]
/-! ### trees as plain data -/
mutual
def toE : D → Option PyData
  | .non => some .none
  | .bl b => some (.bool b)
  | .int i => some (.int i)
  | .str x => some (.str x)
  | .lst ds => (toQ ds).map .list
  | .tup ds => (toQ ds).map .tuple
  | .dic _ => none
  | .ins _ _ => none
  | .hnd _ => none
def toQ : List D → Option (List PyData)
  | [] => some []
  | d :: ds => match toE d, toQ ds with
    | some e, some es => some (e :: es)
    | _, _ => none
end
section
variable {K : PySem.W.Frag} {g : Addr → Nat} {H : Hp} {al : List Addr}
mutual
theorem Rep.dp : ∀ (d : D) (v : V) (e : PyData), Rep K (reg g H 1) al v d → toE d = some e → Dp K H v e
  | .non, _, _, h, q => by cases h; cases q; exact .non
  | .bl b, _, _, h, q => by cases h; cases q; exact .bl b
  | .int i, _, _, h, q => by cases h; cases q; exact .int i
  | .str x, _, _, h, q => by cases h; cases q; exact .str x
  | .lst ds, _, _, h, q => by
    cases h with
    | lst a b =>
      unfold toE at q
      obtain ⟨es, q1, rfl⟩ := Option.map_eq_some_iff.mp q
      exact .lst (rdL a) (Reps.dq ds _ es b q1)
  | .tup ds, _, _, h, q => by
    cases h with
    | tup a b =>
      unfold toE at q
      obtain ⟨es, q1, rfl⟩ := Option.map_eq_some_iff.mp q
      exact .tup (SqT.same a reg_le) (Reps.dq ds _ es b q1)
  | .dic _, _, _, _, q => by cases q
  | .ins _ _, _, _, _, q => by cases q
  | .hnd _, _, _, _, q => by cases q
theorem Reps.dq : ∀ (ds : List D) (vs : List V) (es : List PyData), Reps K (reg g H 1) al vs ds → toQ ds = some es → DpAll K H vs es
  | [], _, _, h, q => by cases h; cases q; exact .nil
  | d :: ds, _, _, h, q => by
    cases h with
    | cons a b =>
      unfold toQ at q
      split at q
      · next e es q1 q2 => cases q; exact .cons (Rep.dp d _ e a q1) (Reps.dq ds _ es b q2)
      · cases q
end
end
theorem RepQ.dp {K : PySem.W.Frag} {g : Addr → Nat} {H : Hp} {al : List Addr} {v : V} {d : D} {e : PyData} (h : RepQ K g H al v d) (q : toE d = some e) : Dp K H v e := by
  cases h with
  | val r => exact Rep.dp _ _ _ r q
  | own e r =>
    unfold toE at q
    obtain ⟨es, q1, rfl⟩ := Option.map_eq_some_iff.mp q
    exact .lst (.inl (.inl (reg_le _ _ e))) (Reps.dq _ _ es r q1)
  | ownD e r => cases q
  | ownI e r => cases q
def kEq : D → D → Mo D := fun x y => match toE x, toE y with
  | some d, some e => grd (SeqAt.shaped d && SeqAt.shaped e) (ret (.bl (PyData.eqv d e)))
  | _, _ => nop
def kNe : D → D → Mo D := fun x y => match toE x, toE y with
  | some d, some e => grd (SeqAt.shaped d && SeqAt.shaped e) (ret (.bl (!PyData.eqv d e)))
  | _, _ => nop
section
variable {X : Cx} {O : List Nat} {E : XS} {a b c e : Expr} {es : List Expr} {fa fb fc : Env → Mo D} {fl : Env → Mo (List D)} {pos : Pos}
theorem by_eq : By2 X O E (rEqD X.K) kEq := fun u v x y T ρ S g al σ H Q s r1 r2 w => by
  unfold kEq at w
  split at w
  · next d e q1 q2 =>
    obtain ⟨c, w⟩ := w.gd
    rw [Bool.and_eq_true] at c
    exact ⟨d, e, r1.dp q1, r2.dp q2, c.1, c.2, w.rt' s (.bl _)⟩
  · exact w.elim
theorem by_ne : By2 X O E (rNeD X.K) kNe := fun u v x y T ρ S g al σ H Q s r1 r2 w => by
  unfold kNe at w
  split at w
  · next d e q1 q2 =>
    obtain ⟨c, w⟩ := w.gd
    rw [Bool.and_eq_true] at c
    exact ⟨d, e, r1.dp q1, r2.dp q2, c.1, c.2, w.rt' s (.bl _)⟩
  · exact w.elim
/-! ### is None -/
def isN : D → Bool
  | .non => true
  | _ => false
theorem isN_v {K : PySem.W.Frag} {g : Addr → Nat} {H : Hp} {al : List Addr} {v : V} {d : D} (r : RepQ K g H al v d) : decide (v = .non) = isN d := by
  cases r with
  | val r => cases r <;> first | rfl | exact decide_eq_false (by intro z; cases z)
  | own _ _ => exact decide_eq_false (by intro z; cases z)
  | ownD _ _ => exact decide_eq_false (by intro z; cases z)
  | ownI _ _ => exact decide_eq_false (by intro z; cases z)
def kIsN : D → D → Mo D := fun x y => grd (isN y) (ret (.bl (isN x)))
def kNotN : D → D → Mo D := fun x y => grd (isN y) (ret (.bl (!isN x)))
theorem by_isN : By2 X O E rIsN kIsN := fun u v x y T ρ S g al σ H Q s r1 r2 w => by
  obtain ⟨c, w⟩ := w.gd
  cases y <;> first | exact ⟨r2.non, by rw [isN_v r1]; exact w.rt' s (.bl _)⟩ | cases c
theorem by_notN : By2 X O E rNotN kNotN := fun u v x y T ρ S g al σ H Q s r1 r2 w => by
  obtain ⟨c, w⟩ := w.gd
  cases y <;> first | exact ⟨r2.non, by rw [isN_v r1]; exact w.rt' s (.bl _)⟩ | cases c
def kIsB : D → D → Mo D
  | .bl a, .bl b => ret (.bl (decide (a = b)))
  | _, _ => nop
def kNotB : D → D → Mo D
  | .bl a, .bl b => ret (.bl (!decide (a = b)))
  | _, _ => nop
theorem by_isB : By2 X O E rIsB kIsB := fun u v x y T ρ S g al σ H Q s r1 r2 w => by
  cases x <;> first | exact w.elim | skip
  cases y <;> first | exact w.elim | skip
  exact ⟨_, _, r1.bl, r2.bl, w.rt' s (.bl _)⟩
theorem by_notB : By2 X O E rNotB kNotB := fun u v x y T ρ S g al σ H Q s r1 r2 w => by
  cases x <;> first | exact w.elim | skip
  cases y <;> first | exact w.elim | skip
  exact ⟨_, _, r1.bl, r2.bl, w.rt' s (.bl _)⟩
/-! ### in: flat things in lists and tuples, a sign in a text -/
def flatD : D → Bool
  | .non => true
  | .bl _ => true
  | .int _ => true
  | .str _ => true
  | _ => false
def toV : D → V
  | .bl b => .bl b
  | .int i => .int i
  | .str x => .str x
  | _ => .non
theorem flat_v {K : PySem.W.Frag} {I : Hp} {al : List Addr} {v : V} {d : D} (r : Rep K I al v d) (h : flatD d = true) : v = toV d ∧ flatV v = true := by
  cases r <;> first | exact ⟨rfl, rfl⟩ | cases h
theorem flat_q {K : PySem.W.Frag} {g : Addr → Nat} {H : Hp} {al : List Addr} {v : V} {d : D} (r : RepQ K g H al v d) (h : flatD d = true) : v = toV d ∧ flatV v = true := by
  cases r with
  | val r => exact flat_v r h
  | own _ _ => cases h
  | ownD _ _ => cases h
  | ownI _ _ => cases h
theorem flats_v {K : PySem.W.Frag} {I : Hp} {al : List Addr} : ∀ {vs : List V} {ds : List D}, Reps K I al vs ds → ds.all flatD = true → vs = ds.map toV ∧ vs.all flatV = true
  | _, _, .nil, _ => ⟨rfl, rfl⟩
  | _, _, .cons r t, h => by
    rw [List.all_cons, Bool.and_eq_true] at h
    obtain ⟨h1, h2⟩ := flat_v r h.1
    obtain ⟨h3, h4⟩ := flats_v t h.2
    exact ⟨by rw [h1, h3]; rfl, by rw [List.all_cons, h2, h4]; rfl⟩
def inD (x : D) (ds : List D) : Bool := inV (toV x) (ds.map toV)
def kInB : D → D → Option Bool
  | x, .lst ds => if flatD x && ds.all flatD then some (inD x ds) else none
  | x, .tup ds => if flatD x && ds.all flatD then some (inD x ds) else none
  | .str ⟨⟨[c]⟩⟩, .str z => some (decide (c ∈ z.cps.toList))
  | _, _ => none
def kIn : D → D → Mo D := fun x y => bnd (opt (kInB x y)) fun b => ret (.bl b)
def kNin : D → D → Mo D := fun x y => bnd (opt (kInB x y)) fun b => ret (.bl (!b))
def rInA (K : PySem.W.Frag) : R2 := fun x y H Q => rIn K false x y H Q ∨ rInS x y H Q
def rNinA (K : PySem.W.Frag) : R2 := fun x y H Q => rIn K true x y H Q ∨ rNotInS x y H Q
theorem op_inA : OpR X (compareOp .In) (rInA X.K) := OpR.or op_in_seq op_inS
theorem op_ninA : OpR X (compareOp .NotIn) (rNinA X.K) := OpR.or op_notIn_seq op_notInS
theorem by_in : By2 X O E (rInA X.K) kIn := fun u v x y T ρ S g al σ H Q s r1 r2 w => by
  unfold kIn at w
  rw [bnd_opt] at w
  split at w
  · next bb e =>
    unfold kInB at e
    split at e
    · next ds =>
      split at e
      · next c =>
        cases e
        rw [Bool.and_eq_true] at c
        obtain ⟨a1, v1, ev, _, h1, b⟩ := r2.lst
        obtain ⟨e1, e2⟩ := flat_q r1 c.1
        obtain ⟨e3, e4⟩ := flats_v b c.2
        exact .inl ⟨_, _, ev, .inl h1, e2, e4, by rw [e1, e3]; exact w.rt' s (.bl _)⟩
      · cases e
    · next ds =>
      split at e
      · next c =>
        cases e
        rw [Bool.and_eq_true] at c
        obtain ⟨a1, v1, ev, _, h1, b⟩ := r2.tup
        obtain ⟨e1, e2⟩ := flat_q r1 c.1
        obtain ⟨e3, e4⟩ := flats_v b c.2
        exact .inl ⟨_, _, ev, .inr h1, e2, e4, by rw [e1, e3]; exact w.rt' s (.bl _)⟩
      · cases e
    · cases e
      exact .inr ⟨_, _, r1.str, r2.str, w.rt' s (.bl _)⟩
    · cases e
  · exact w.elim
theorem by_nin : By2 X O E (rNinA X.K) kNin := fun u v x y T ρ S g al σ H Q s r1 r2 w => by
  unfold kNin at w
  rw [bnd_opt] at w
  split at w
  · next bb e =>
    unfold kInB at e
    split at e
    · next ds =>
      split at e
      · next c =>
        cases e
        rw [Bool.and_eq_true] at c
        obtain ⟨a1, v1, ev, _, h1, b⟩ := r2.lst
        obtain ⟨e1, e2⟩ := flat_q r1 c.1
        obtain ⟨e3, e4⟩ := flats_v b c.2
        exact .inl ⟨_, _, ev, .inl h1, e2, e4, by rw [e1, e3]; exact w.rt' s (.bl _)⟩
      · cases e
    · next ds =>
      split at e
      · next c =>
        cases e
        rw [Bool.and_eq_true] at c
        obtain ⟨a1, v1, ev, _, h1, b⟩ := r2.tup
        obtain ⟨e1, e2⟩ := flat_q r1 c.1
        obtain ⟨e3, e4⟩ := flats_v b c.2
        exact .inl ⟨_, _, ev, .inr h1, e2, e4, by rw [e1, e3]; exact w.rt' s (.bl _)⟩
      · cases e
    · cases e
      exact .inr ⟨_, _, r1.str, r2.str, w.rt' s (.bl _)⟩
    · cases e
  · exact w.elim
/-! ### calls of the built-ins -/
def kLen : List D → Mo D
  | [.lst ds] => ret (.int ds.length)
  | [.tup ds] => ret (.int ds.length)
  | [.str z] => grd (decide (z.length ≤ LIM)) (ret (.int z.length))
  | _ => nop
theorem by_len : ByN X O E (fun xs H Q => ∃ x n, xs = [x] ∧ LenV X.K x H n ∧ Q (.int n) H) kLen := fun us xs T ρ S g al σ H Q s r w => by
  unfold kLen at w
  split at w
  · next ds =>
    obtain ⟨v, rfl, r1⟩ := r.one
    obtain ⟨a, vs, rfl, _, h, b⟩ := r1.lst
    exact ⟨_, ds.length, rfl, .inl ⟨_, h, b.len.symm⟩, w.rt' s (.int _)⟩
  · next ds =>
    obtain ⟨v, rfl, r1⟩ := r.one
    obtain ⟨a, vs, rfl, _, h, b⟩ := r1.tup
    exact ⟨_, ds.length, rfl, .inr ⟨_, h, b.len.symm⟩, w.rt' s (.int _)⟩
  · next z =>
    obtain ⟨c, w⟩ := w.gd
    obtain ⟨v, rfl, r1⟩ := r.one
    exact ⟨.str z, z.length, by rw [r1.str], ⟨lim (of_decide_eq_true c), rfl⟩, w.rt' s (.int _)⟩
  · exact w.elim
def kAbs : List D → Mo D
  | [.int i] => ret (.int (if i < 0 then -i else i))
  | _ => nop
theorem by_abs : ByN X O E (fun xs H Q => ∃ i, xs = [.int i] ∧ Q (.int (if i < 0 then -i else i)) H) kAbs := fun us xs T ρ S g al σ H Q s r w => by
  unfold kAbs at w
  split at w
  · next i =>
    obtain ⟨v, rfl, r1⟩ := r.one
    exact ⟨i, by rw [r1.int], w.rt' s (.int _)⟩
  · exact w.elim
def kInt1 : List D → Mo D
  | [.int i] => ret (.int i)
  | [.bl k] => ret (.int (if k then 1 else 0))
  | _ => nop
theorem by_int1 : ByN X O E (fun xs H Q => (∃ i, xs = [.int i] ∧ Q (.int i) H) ∨ ∃ k, xs = [.bl k] ∧ Q (.int (if k then 1 else 0)) H) kInt1 := fun us xs T ρ S g al σ H Q s r w => by
  unfold kInt1 at w
  split at w
  · next i =>
    obtain ⟨v, rfl, r1⟩ := r.one
    exact .inl ⟨i, by rw [r1.int], w.rt' s (.int _)⟩
  · next k =>
    obtain ⟨v, rfl, r1⟩ := r.one
    exact .inr ⟨k, by rw [r1.bl], w.rt' s (.int _)⟩
  · exact w.elim
def kMin2 : List D → Mo D
  | [.int i, .int j] => ret (.int (if j < i then j else i))
  | _ => nop
theorem by_min2 : ByN X O E (fun xs H Q => ∃ i j, xs = [.int i, .int j] ∧ Q (.int (if j < i then j else i)) H) kMin2 := fun us xs T ρ S g al σ H Q s r w => by
  unfold kMin2 at w
  split at w
  · next i j =>
    obtain ⟨v, u, rfl, r1, r2⟩ := r.two
    exact ⟨i, j, by rw [r1.int, r2.int], w.rt' s (.int _)⟩
  · exact w.elim
def kList : List D → Mo D
  | [.lst ds] => ret (.lst ds)
  | [.tup ds] => ret (.lst ds)
  | _ => nop
theorem by_list : ByN X O E (fun xs H Q => ∃ p ys, xs = [.ref p] ∧ (SqL X.K H p ys ∨ SqT X.K H p ys) ∧ ∀ l, H l = none → Q (.ref l) (upd H l (.lst ys))) kList := fun us xs T ρ S g al σ H Q s r w => by
  have key : ∀ {l : Addr} {vs : List V} {ds : List D}, Reps X.K (reg g H 1) al vs ds → Post (RR X.K) X.K O E T ρ σ g al H (ret (.lst ds)) S Q → H l = none → Q (.ref l) (upd H l (.lst vs)) := fun b w np => w.rt (s.alloc np) rfl (Le.alloc np) (.lst (.inl (alloc_at np)) (b.mono (Le.alloc (al := al) np).s List.prefix_rfl))
  unfold kList at w
  split at w
  · next ds =>
    obtain ⟨v, rfl, r1⟩ := r.one
    obtain ⟨a, vs, rfl, _, h, b⟩ := r1.lst
    exact ⟨_, _, rfl, .inl h, fun l np => key b w np⟩
  · next ds =>
    obtain ⟨v, rfl, r1⟩ := r.one
    obtain ⟨a, vs, rfl, _, h, b⟩ := r1.tup
    exact ⟨_, _, rfl, .inr h, fun l np => key b w np⟩
  · exact w.elim
def kTuple : List D → Mo D
  | [.lst ds] => ret (.tup ds)
  | [.tup ds] => ret (.tup ds)
  | _ => nop
theorem by_tuple : ByN X O E (fun xs H Q => ∃ p ys, xs = [.ref p] ∧ ((SqL X.K H p ys ∧ ∀ l, H l = none → Q (.ref l) (upd H l (.tup ys))) ∨ (SqT X.K H p ys ∧ Q (.ref p) H))) kTuple := fun us xs T ρ S g al σ H Q s r w => by
  unfold kTuple at w
  split at w
  · next ds =>
    obtain ⟨v, rfl, r1⟩ := r.one
    obtain ⟨a, vs, rfl, _, h, b⟩ := r1.lst
    exact ⟨_, _, rfl, .inl ⟨h, fun l np => w.rt (s.alloc np) rfl (Le.alloc np) (.tup (.inl (.inl (alloc_at np))) (b.mono (Le.alloc (al := al) np).s List.prefix_rfl))⟩⟩
  · next ds =>
    obtain ⟨v, rfl, r1⟩ := r.one
    obtain ⟨a, vs, rfl, h1, h, b⟩ := r1.tup
    exact ⟨_, _, rfl, .inr ⟨h, w.rt' s (.tup h1 b)⟩⟩
  · exact w.elim
def blD : D → Option Bool
  | .bl b => some b
  | _ => none
def blsD : List D → Option (List Bool)
  | [] => some []
  | d :: ds => match blD d, blsD ds with
    | some b, some bs => some (b :: bs)
    | _, _ => none
theorem bls_v {K : PySem.W.Frag} {I : Hp} {al : List Addr} : ∀ {vs : List V} {ds : List D} {bs : List Bool}, Reps K I al vs ds → blsD ds = some bs → vs = bs.map V.bl
  | _, _, _, .nil, e => by cases e; rfl
  | _, _, _, .cons (d := d) r t, e => by
    unfold blsD at e
    split at e
    · next b bs e1 e2 =>
      cases e
      cases d <;> first | cases e1 | skip
      cases r
      rw [List.map_cons, ← bls_v t e2]
    · cases e
def kAll : List D → Mo D
  | [.lst ds] => bnd (opt (blsD ds)) fun bs => ret (.bl (bs.all id))
  | _ => nop
def kAny : List D → Mo D
  | [.lst ds] => bnd (opt (blsD ds)) fun bs => ret (.bl (bs.any id))
  | _ => nop
theorem by_all : ByN X O E (rAll X.K) kAll := fun us xs T ρ S g al σ H Q s r w => by
  unfold kAll at w
  split at w
  · next ds =>
    rw [bnd_opt] at w
    split at w
    · next bs e =>
      obtain ⟨v, rfl, r1⟩ := r.one
      obtain ⟨a, vs, rfl, _, h, b⟩ := r1.lst
      exact ⟨_, bs, rfl, by rw [← bls_v b e]; exact h, w.rt' s (.bl _)⟩
    · exact w.elim
  · exact w.elim
theorem by_any : ByN X O E (rAny X.K) kAny := fun us xs T ρ S g al σ H Q s r w => by
  unfold kAny at w
  split at w
  · next ds =>
    rw [bnd_opt] at w
    split at w
    · next bs e =>
      obtain ⟨v, rfl, r1⟩ := r.one
      obtain ⟨a, vs, rfl, _, h, b⟩ := r1.lst
      exact ⟨_, bs, rfl, by rw [← bls_v b e]; exact h, w.rt' s (.bl _)⟩
    · exact w.elim
  · exact w.elim
/-! ### slices -/
def VO (X : Cx) (O : List Nat) (E : XS) (e : Option Expr) (f : Env → Mo (Option Int)) : Prop := PO X e (lift (fun _ _ _ (i j : Option Int) => i = j) X.K O E f)
theorem PO.weak {e : Option Expr} {t t' : TO} (h : PO X e t) (w : ∀ σ H Q, t' σ H Q → t σ H Q) : PO X e t' := ⟨fun pins s σ H Q I q => h.run pins s σ H Q I (w _ _ _ q)⟩
theorem vo_none : VO X O E none (fun _ => ret none) := PO.weak po_none fun σ H Q ⟨T, ρ, S, g, al, s, w⟩ => w.rt' s rfl
def kOi : D → Mo (Option Int)
  | .int i => ret (some i)
  | _ => nop
theorem vo_some (h : VQ X O E e fa) : VO X O E (some e) (fun ρ => bnd (fa ρ) kOi) := PO.weak (po_some h) fun σ H Q ⟨T, ρ, S, g, al, s, w⟩ => ⟨T, ρ, S, g, al, s, w.bn fun v d S' g' al' H' s' l r w' => by
  cases d <;> first | exact w'.elim | skip
  exact ⟨_, r.int, w'.rt' s' rfl⟩⟩
def kSl : D → Option Int → Option Int → Mo D
  | .lst ds, lo, hi => ret (.lst (cutD ds lo hi))
  | .tup ds, lo, hi => ret (.tup (cutD ds lo hi))
  | .str z, lo, hi => grd (decide (z.length ≤ LIM)) (ret (.str (cutS z lo hi)))
  | _, _, _ => nop
def fSl (fa : Env → Mo D) (fl fh : Env → Mo (Option Int)) : Env → Mo D := fun ρ => bnd (fa ρ) fun x => bnd (fl ρ) fun lo => bnd (fh ρ) fun hi => kSl x lo hi
theorem cut_whole {α : Type} {xs : List α} {lo hi : Option Int} (h : HT.sIx xs.length 0 lo = 0 ∧ HT.sIx xs.length xs.length hi = xs.length) : cutD xs lo hi = xs := by
  unfold cutD
  rw [h.1, h.2, List.drop_zero, Nat.sub_zero, List.take_length]
theorem ve_sl {lo hi : Option Expr} {p2 : Pos} {fl fh : Env → Mo (Option Int)} (ha : VQ X O E a fa) (hl : VO X O E lo fl) (hh : VO X O E hi fh) : VE X O E (.Subscript a (.Slice lo hi none p2) pos) (fSl fa fl fh) :=
  PE.weak (pe_slice (SlR.or sl_list (SlR.or sl_tupA sl_str)) ha hl hh) fun σ H Q ⟨T, ρ, S, g, al, s, w⟩ => ⟨T, ρ, S, g, al, s, w.bn fun v d S' g' al' H' s' l r w' => ⟨T, ρ, S', g', al', s', w'.bn fun i1 j1 S2 g2 al2 H2 s2 l2 r2 w2 => ⟨T, ρ, S2, g2, al2, s2, w2.bn fun i3 j3 S3 g3 al3 H3 s3 l3 r3 w3 => by
    cases r2
    cases r3
    have r := r.le (l2.trans l3)
    unfold kSl at w3
    split at w3
    · obtain ⟨a1, v1, rfl, _, h, b⟩ := r.lst
      exact .inl ⟨_, _, rfl, h, fun p np => w3.rt (s3.alloc np) rfl (Le.alloc np) (.lst (.inl (alloc_at np)) ((b.cut _ _).mono (Le.alloc (al := al3) np).s List.prefix_rfl))⟩
    · obtain ⟨a1, v1, rfl, h1, h, b⟩ := r.tup
      refine .inr (.inl ⟨_, _, rfl, h, fun hw => ?_, fun _ p np => w3.rt (s3.alloc np) rfl (Le.alloc np) (.tup (.inl (.inl (alloc_at np))) ((b.cut _ _).mono (Le.alloc (al := al3) np).s List.prefix_rfl))⟩)
      rw [b.len] at hw
      rw [cut_whole hw] at w3
      exact w3.rt' s3 (.tup h1 b)
    · obtain ⟨c, w3⟩ := w3.gd
      exact .inr (.inr ⟨_, r.str, lim (of_decide_eq_true c), w3.rt' s3 (.str _)⟩)
    · exact w3.elim⟩⟩⟩
end
end Vl
set_option Elab.async false
set_option linter.all false
set_option maxRecDepth 100000
set_option maxHeartbeats 4000000
namespace Vl
open PySem PySem.Spec PyProof.Rows L2 Oc
/-! ### dicts by keys -/
def valD (kvs : List (Key × D)) (k : Key) : Option D := (kvs.find? fun kv => decide (kv.1 = k)).map (·.2)
theorem valD_pos {p : Key × D} {r : List (Key × D)} {k : Key} (e : p.1 = k) : valD (p :: r) k = some p.2 := by simp [valD, List.find?_cons, e]
theorem valD_neg {p : Key × D} {r : List (Key × D)} {k : Key} (e : ¬ p.1 = k) : valD (p :: r) k = valD r k := by simp [valD, List.find?_cons, e]
theorem RepKv.val {K : PySem.W.Frag} {I : Hp} {al : List Addr} {k : Key} : ∀ {vs : List (Key × V)} {ds : List (Key × D)} {d : D}, RepKv K I al vs ds → valD ds k = some d → ∃ v, valV vs k = some v ∧ Rep K I al v d
  | _, _, _, .nil, e => by cases e
  | _, _, d, .cons (k := k') (v := v) (d := d') r t, e => by
    by_cases h : k' = k
    · rw [valD_pos h] at e
      cases e
      exact ⟨v, valV_pos h, r⟩
    · rw [valD_neg h] at e
      obtain ⟨u, h1, h2⟩ := RepKv.val t e
      exact ⟨u, (valV_neg (p := (k', v)) h).trans h1, h2⟩
/-! ### the pen: its cells, how many draws were made, what is left of a great number; beside it other objects -/
structure PenS where
  cells : List Int
  turn : Int
  left : Int
class Objs2 where
  U : Type
  at2 : PySem.W.Frag → Hp → Hp → List Addr → U → Prop
  mono2 : ∀ {K : PySem.W.Frag} {I I' M : Hp} {al : List Addr} {u : U}, at2 K I M al u → Sm I I' → at2 K I' M al u
@[reducible] def noObjs : Objs2 := ⟨Unit, fun _ _ _ _ _ => True, fun h _ => h⟩
def penK (c : Addr) (t l : Int) : List (Key × V) := [(.inr "cells", .ref c), (.inr "turn", .int t), (.inr "left", .int l)]
def hideA (M : Hp) (p : Addr) : Hp := fun a => if a = p then none else M a
variable [O2 : Objs2]
def penAt (K : PySem.W.Frag) (I M : Hp) (al : List Addr) (S : Option PenS × Objs2.U) : Prop := match S.1 with
  | none => ∃ z, al = [z] ∧ Objs2.at2 K I M [] S.2
  | some s => ∃ p c z al', al = z :: p :: al' ∧ M p = some (.dK (penK c s.turn s.left)) ∧ Rd I c (.lst (s.cells.map V.int)) ∧ Objs2.at2 K I (hideA M p) al' S.2
theorem penAt_mono {K : PySem.W.Frag} {I I' M : Hp} {al : List Addr} {S : Option PenS × Objs2.U} (h : penAt K I M al S) (s : Sm I I') : penAt K I' M al S := by
  obtain ⟨o, u⟩ := S
  cases o with
  | none =>
    obtain ⟨z, e, h⟩ := h
    exact ⟨z, e, Objs2.mono2 h s⟩
  | some z =>
    obtain ⟨p, c, y, al', e, h1, h2, h3⟩ := h
    exact ⟨p, c, y, al', e, h1, s.rd _ _ h2, Objs2.mono2 h3 s⟩
theorem penAt_head {K : PySem.W.Frag} {I M : Hp} {s s' : Addr} {t : List Addr} {S : Option PenS × Objs2.U} (h : penAt K I M (s :: t) S) : penAt K I M (s' :: t) S := by
  obtain ⟨o, u⟩ := S
  cases o with
  | none =>
    obtain ⟨z, e, h⟩ := h
    cases e
    exact ⟨s', rfl, h⟩
  | some z =>
    obtain ⟨p, c, y, al', e, h⟩ := h
    cases e
    exact ⟨p, c, s', al', rfl, h⟩
theorem penAt_ne {K : PySem.W.Frag} {I M : Hp} {al : List Addr} {S : Option PenS × Objs2.U} (h : penAt K I M al S) : ∃ s t, al = s :: t := by
  obtain ⟨o, u⟩ := S
  cases o with
  | none =>
    obtain ⟨z, e, h⟩ := h
    exact ⟨z, [], e⟩
  | some z =>
    obtain ⟨p, c, y, al', e, h⟩ := h
    exact ⟨y, p :: al', e⟩
instance penObjs : Objs := ⟨Option PenS × Objs2.U, penAt, penAt_mono, penAt_head, penAt_ne⟩
theorem k_ct : ¬ ((.inr "cells" : Key) = .inr "turn") := by decide +kernel
theorem k_cl : ¬ ((.inr "cells" : Key) = .inr "left") := by decide +kernel
theorem k_tl : ¬ ((.inr "turn" : Key) = .inr "left") := by decide +kernel
theorem pen_cells (c : Addr) (t l : Int) : valV (penK c t l) (.inr "cells" : Key) = some (.ref c) := valV_pos rfl
theorem pen_turn (c : Addr) (t l : Int) : valV (penK c t l) (.inr "turn" : Key) = some (.int t) := (valV_neg k_ct).trans (valV_pos rfl)
theorem pen_left (c : Addr) (t l : Int) : valV (penK c t l) (.inr "left" : Key) = some (.int l) := (valV_neg k_cl).trans ((valV_neg k_tl).trans (valV_pos rfl))
theorem pen_putT (c : Addr) (t l u : Int) : putK (penK c t l) (.inr "turn" : Key) (.int u) = penK c u l := by
  have e : ¬ ((.inr "left" : Key) = .inr "turn") := fun z => k_tl z.symm
  show (if _ then _ else _) = _
  rw [if_pos (by show (decide _ || (decide _ || _)) = true; rw [decide_eq_true (rfl : (.inr "turn" : Key) = .inr "turn"), Bool.true_or, Bool.or_true])]
  simp only [penK, List.map_cons, List.map_nil, eq_false k_ct, eq_false e, if_false, if_true]
theorem pen_putL (c : Addr) (t l u : Int) : putK (penK c t l) (.inr "left" : Key) (.int u) = penK c t u := by
  show (if _ then _ else _) = _
  rw [if_pos (by show (decide _ || (decide _ || (decide _ || false))) = true; rw [decide_eq_true (rfl : (.inr "left" : Key) = .inr "left"), Bool.true_or, Bool.or_true, Bool.or_true])]
  simp only [penK, List.map_cons, List.map_nil, eq_false k_cl, eq_false k_tl, if_false, if_true]
/-! ### reading a dict -/
def penGet (k : Str) : Mo D := fun S => match S.1 with
  | some s => if k = "cells" then some (.ok (.lst (s.cells.map D.int)), S) else if k = "turn" then some (.ok (.int s.turn), S) else if k = "left" then some (.ok (.int s.left), S) else none
  | none => none
def kPget : D → D → Mo D
  | .dic kvs, .int i => opt (valD kvs (.inl i))
  | .dic kvs, .str x => opt (valD kvs (.inr x))
  | .hnd 0, .str x => penGet x
  | _, _ => nop
def rDGet : R2 := fun x y H Q => ∃ a v, x = .ref a ∧ DGet H a y (some v) ∧ Q v H
theorem reps_ints {K : PySem.W.Frag} {I : Hp} {al : List Addr} : ∀ ns : List Int, Reps K I al (ns.map V.int) (ns.map D.int)
  | [] => .nil
  | n :: ns => .cons (.int n) (reps_ints ns)
section
variable {X : Cx} {O : List Nat} {E : XS} {a b c e : Expr} {fa fb fc : Env → Mo D} {pos pos' : Pos}
theorem get_dic {H : Hp} {p : Addr} {kvs : List (Key × V)} {k : Key} {v : V} (h : Rd H p (.dK kvs)) (e : valV kvs k = some v) : DGet H p (kV k) (some v) := .inl ⟨kvs, k, h, rfl, e.symm⟩
theorem by_pget : By2 X O E rDGet kPget := fun u v x y T ρ S g al σ H Q s r1 r2 w => by
  unfold kPget at w
  split at w
  · next kvs i =>
    obtain ⟨a1, v1, rfl, h, b1⟩ := r1.dic
    obtain ⟨d, e, w⟩ := w.op
    obtain ⟨z, h1, h2⟩ := b1.val e
    rw [r2.int]
    exact ⟨_, z, rfl, get_dic (k := .inl i) h h1, w.rt' s h2⟩
  · next kvs i =>
    obtain ⟨a1, v1, rfl, h, b1⟩ := r1.dic
    obtain ⟨d, e, w⟩ := w.op
    obtain ⟨z, h1, h2⟩ := b1.val e
    rw [r2.str]
    exact ⟨_, z, rfl, get_dic (k := .inr i) h h1, w.rt' s h2⟩
  · next k =>
    obtain ⟨pa, rfl, hal⟩ := r1.hnd
    rw [r2.str]
    obtain ⟨o, z⟩ := S
    cases o with
    | none => exact w.elim
    | some st =>
      obtain ⟨p, cc, y, al', e, h1, h2, h3⟩ := s.ob
      subst e
      cases hal
      have hp : Rd H pa (.dK (penK cc st.turn st.left)) := .inl (reg_le _ _ h1)
      have w' : wp (penGet k) _ _ (some st, z) := w
      unfold penGet wp at w'
      dsimp only at w'
      by_cases k1 : k = "cells"
      · subst k1
        rw [if_pos rfl] at w'
        exact ⟨pa, _, rfl, get_dic (k := .inr "cells") hp (pen_cells ..), w' _ g _ H s .refl (.lst h2 (reps_ints _))⟩
      · rw [if_neg k1] at w'
        by_cases k2 : k = "turn"
        · subst k2
          rw [if_pos rfl] at w'
          exact ⟨pa, _, rfl, get_dic (k := .inr "turn") hp (pen_turn ..), w' _ g _ H s .refl (.int _)⟩
        · rw [if_neg k2] at w'
          by_cases k3 : k = "left"
          · subst k3
            rw [if_pos rfl] at w'
            exact ⟨pa, _, rfl, get_dic (k := .inr "left") hp (pen_left ..), w' _ g _ H s .refl (.int _)⟩
          · rw [if_neg k3] at w'
            exact w'.elim
  · exact w.elim
/-- a dict read by a key, as any other subscript -/
theorem ix_dget (hu : X.A.units + 1 < cLine) : IxR X rDGet := by
  intro value slice pins s σ H x y v u Q I rx ry ⟨a, z, ex, h, q⟩ hs
  subst ex
  have ev : v = Value.ref a := rx
  subst ev
  have ht := dict_typeIs I h
  have hf : wpAny (model X.prog X.w) X.A (subscripted slice false (.ref a) u) (fun r s3 => wpAny (model X.prog X.w) X.A (do let _ ← letTemporaryGo value (.ref a) r; pure r) (EP X pins σ Q) X.xe s3) X.xe s := by
    rw [hs]
    refine wpAny_operating (wpAny_mono (d_getItem hu I h ry fun r s3 I3 r3 => show EP X pins σ Q r s3 from ⟨z, H, I3, r3, q⟩) (fun r s3 h3 => ?_) fun _ _ e => e)
    exact wpAny_bind (wpAny_letTemporaryGo (wpAny_pure h3))
  unfold subscriptTail
  refine wpAny_bind ?_
  rw [getitemInPython_of_ne ht.not_modules]
  refine wpAny_bind (wpAny_specialOf ht PySem.F.slot_dict_getitem.lookup ?_)
  first
    | exact wpAny_pure (wpAny_bind hf)
    | exact wpAny_bind (wpAny_pure (wpAny_bind hf))
    | exact wpAny_bind hf
def kGet : D → D → Mo D
  | .lst xs, y => kAt (.lst xs) y
  | .tup xs, y => kAt (.tup xs) y
  | .str z, y => kAt (.str z) y
  | x, y => kPget x y
theorem by_get : By2 X O E (fun x y H Q => rIx X.K x y H Q ∨ rDGet x y H Q) kGet := fun u v x y T ρ S g al σ H Q s r1 r2 w => by
  cases x with
  | lst _ => exact .inl (by_at u v _ y T ρ S g al σ H Q s r1 r2 w)
  | tup _ => exact .inl (by_at u v _ y T ρ S g al σ H Q s r1 r2 w)
  | str _ => exact .inl (by_at u v _ y T ρ S g al σ H Q s r1 r2 w)
  | _ => exact .inr (by_pget u v _ y T ρ S g al σ H Q s r1 r2 w)
/-- any subscript but a slice -/
theorem ve_get (hu : X.A.units + 1 < cLine) (ha : VQ X O E a fa) (hb : VQ X O E b fb) (hs : PlainIx b := by exact fun _ _ => rfl) : VE X O E (.Subscript a b pos) (f2 fa fb kGet) := ve_ix (ix_seq.or (ix_dget hu)) by_get ha hb hs
/-! ### writing of the pen -/
def penStep (k : Str) (d : D) (s : PenS) : Option PenS := match d with
  | .int i => if k = "turn" then some { s with turn := i } else if k = "left" then some { s with left := i } else none
  | _ => none
def penPut (x y d : D) : Mo Unit := fun S => match x, y, S.1 with
  | .hnd 0, .str k, some s => match penStep k d s with
    | some s1 => some (.ok (), (some s1, S.2))
    | none => none
  | _, _, _ => none
def sPput (fa fb fv : Env → Mo D) : MoS := fun ρ => bnd (fv ρ) fun d => bnd (fa ρ) fun x => bnd (fb ρ) fun y => bnd (penPut x y d) fun _ => ret (.nx, ρ)
theorem hide_upd {M : Hp} {p : Addr} {o : HO} : hideA (upd M p o) p = hideA M p := by
  funext b
  unfold hideA
  by_cases e : b = p
  · rw [if_pos e, if_pos e]
  · rw [if_neg e, if_neg e, upd_ne e]
theorem SR.pen {K : PySem.W.Frag} {T : Hp} {ρ : Env} {g : Addr → Nat} {al : List Addr} {σ : L2.St} {H : Hp} {st : PenS} {z : Objs2.U} (s : SR K O T ρ (Ob := penObjs) (some st, z) g al σ H) :
    ∃ p c y al', al = y :: p :: al' ∧ H p = some (.dK (penK c st.turn st.left)) ∧ ∀ (t l : Int), SR K O T ρ (Ob := penObjs) (some { st with turn := t, left := l }, z) g al σ (upd H p (.dK (penK c t l))) ∧ Le g al H g al (upd H p (.dK (penK c t l))) := by
  obtain ⟨p, cc, y, al', e, h1, h2, h3⟩ := s.ob
  have tp : g p = 2 := reg_tag h1
  refine ⟨p, cc, y, al', e, reg_le _ _ h1, fun t l => ?_⟩
  have en : ∀ m, m ≠ 2 → reg g (upd H p (.dK (penK cc t l))) m = reg g H m := fun m m2 => reg_upd_ne (by rw [tp]; exact Ne.symm m2)
  have le : Le g al H g al (upd H p (.dK (penK cc t l))) := ⟨⟨by rw [en 1 (by decide)]; exact .refl, List.prefix_rfl⟩, en 4 (by decide)⟩
  refine ⟨s.move le.w (en 3 (by decide)) le.o ?_, le⟩
  refine ⟨p, cc, y, al', e, by rw [reg_upd tp, upd_same], by rw [en 1 (by decide)]; exact h2, ?_⟩
  rw [en 1 (by decide), reg_upd tp, hide_upd]
  exact h3
theorem vs_pput {value : Expr} {fv : Env → Mo D} {OL : List Nat} (fE : Flat E) (hu : X.A.units + 1 < cLine) (ha : VE X O E a fa) (hb : VE X O E b fb) (hv : VE X O E value fv) (hs : swapsWith value (some (.Subscript a b pos')) pos.line X.env = pure false := by rfl) :
    VS X O O OL E (.Assign [.Subscript a b pos'] value pos) (sPput fa fb fv) := PS.weak (ps_dput hu ha hb hv hs) fun Dn σ H ⟨T, ρ, S, g, al, s, w⟩ => by
  refine ⟨T, ρ, S, g, al, s, PostS.bn fE w fun v d S1 g1 al1 H1 s1 l1 r1 w1 => ?_⟩
  refine ⟨T, ρ, S1, g1, al1, s1, PostS.bn fE w1 fun v2 d2 S2 g2 al2 H2 s2 l2 r2 w2 => ?_⟩
  refine ⟨T, ρ, S2, g2, al2, s2, PostS.bn fE w2 fun v3 d3 S3 g3 al3 H3 s3 l3 r3 w3 => ?_⟩
  have r1 := r1.mono (l2.trans l3).s (l2.trans l3).p
  have r2 := r2.mono l3.s l3.p
  unfold PostS at w3
  rw [wp_bnd] at w3
  unfold wp penPut at w3
  obtain ⟨o, z⟩ := S3
  dsimp only at w3
  split at w3
  · next a S4 e =>
    split at e
    · next k st r2 =>
      split at e
      · next st1 e1 =>
        cases e
        obtain ⟨p, cc, y, al', ea, hp, hk⟩ := s3.pen
        subst ea
        cases r2 with | hnd hal =>
        cases hal
        cases r3
        unfold penStep at e1
        split at e1
        · next i r1 =>
          cases r1
          have key : ∀ H', SR X.K O T ρ (Ob := penObjs) (some st1, z) g3 (y :: p :: al') σ H' → Le g3 (y :: p :: al') H3 g3 (y :: p :: al') H' → Dn.nx σ H' := fun H' s' l' => w3 σ g3 _ H' s' l'.w
          by_cases k1 : k = "turn"
          · subst k1
            rw [if_pos rfl] at e1
            cases e1
            obtain ⟨s4, l4⟩ := hk i st.left
            refine ⟨p, _, rfl, .inl ⟨_, .inr "turn", hp, rfl, small1000 (by show 3 ≤ 1000; decide), by rw [pen_putT]⟩, key _ s4 l4⟩
          · rw [if_neg k1] at e1
            by_cases k2 : k = "left"
            · subst k2
              rw [if_pos rfl] at e1
              cases e1
              obtain ⟨s4, l4⟩ := hk st.turn i
              refine ⟨p, _, rfl, .inl ⟨_, .inr "left", hp, rfl, small1000 (by show 3 ≤ 1000; decide), by rw [pen_putL]⟩, key _ s4 l4⟩
            · rw [if_neg k2] at e1
              cases e1
        · cases e1
      · cases e
    · cases e
  · next C fs S4 e =>
    split at e
    · split at e
      · cases e
      · cases e
    · cases e
  · exact w3.elim
end
end Vl
set_option Elab.async false
set_option linter.all false
set_option maxRecDepth 100000
set_option maxHeartbeats 4000000
namespace Vl
open PySem PySem.Spec PyProof.Rows L2 Oc
variable [Ob : Objs]
section
variable {X : Cx} {O : List Nat} {E : XS} {a b c e : Expr} {es : List Expr} {fa fb fc : Env → Mo D} {fl : Env → Mo (List D)} {pos : Pos}
/-! ### chained comparisons -/
def kChain (k1 k2 : D → D → Mo D) (fb fc : Env → Mo D) : D → Env → Mo D := fun x ρ => bnd (fb ρ) fun y => bnd (k1 x y) fun z => match z with
  | .bl true => bnd (fc ρ) fun u => k2 y u
  | .bl false => ret (.bl false)
  | _ => nop
def fCh (fa fb fc : Env → Mo D) (k1 k2 : D → D → Mo D) : Env → Mo D := fun ρ => bnd (fa ρ) fun x => kChain k1 k2 fb fc x ρ
theorem chain_lift {r r' : R2} {k1 k2 : D → D → Mo D} (h1 : By2 X O E r k1) (h2 : By2 X O E r' k2) {σ : L2.St} {H : Hp} {Q : VK} (h : lift (RR X.K) X.K O E (fCh fa fb fc k1 k2) σ H Q) :
    tChain r r' (lift (RQ X.K) X.K O E fa) (lift (RQ X.K) X.K O E fb) (lift (RQ X.K) X.K O E fc) σ H Q := by
  obtain ⟨T, ρ, S, g, al, s, w⟩ := h
  refine ⟨T, ρ, S, g, al, s, w.bn fun v d S1 g1 al1 H1 s1 l1 r1 w1 => ?_⟩
  refine ⟨T, ρ, S1, g1, al1, s1, w1.bn fun v2 d2 S2 g2 al2 H2 s2 l2 r2 w2 => ?_⟩
  refine h1 v v2 d d2 T ρ S2 g2 al2 σ H2 _ s2 (r1.le l2) r2 (w2.bn fun v3 d3 S3 g3 al3 H3 s3 l3 r3 w3 => ?_)
  split at w3
  · cases r3
    refine ⟨true, rfl, ?_⟩
    rw [if_pos rfl]
    exact ⟨T, ρ, S3, g3, al3, s3, w3.bn fun v4 d4 S4 g4 al4 H4 s4 l4 r4 w4 => h2 v2 v4 d2 d4 T ρ S4 g4 al4 σ H4 Q s4 (r2.le (l3.trans l4)) r4 w4⟩
  · cases r3
    refine ⟨false, rfl, ?_⟩
    rw [if_neg (by decide)]
    exact w3.rt' s3 (.bl false)
  · exact w3.elim
theorem ve_chain {op op' : CmpOp} {r r' : R2} {k1 k2 : D → D → Mo D} (ho : OpR X (compareOp op) r) (ho' : OpR X (compareOp op') r') (h1 : By2 X O E r k1) (h2 : By2 X O E r' k2) (ha : VQ X O E a fa) (hb : VQ X O E b fb) (hc : VQ X O E c fc)
    (hm : lastMarks [op, op'] [b, c] = false := by with_unfolding_all rfl) : VE X O E (.Compare a [op, op'] [b, c] pos) (fCh fa fb fc k1 k2) := PE.weak (pe_chain ho ho' ha hb hc hm) fun σ H Q h => chain_lift h1 h2 h
theorem vt_chain {op op' : CmpOp} {r r' : R2} {k1 k2 : D → D → Mo D} (ho : OpR X (compareOp op) r) (ho' : OpR X (compareOp op') r') (h1 : By2 X O E r k1) (h2 : By2 X O E r' k2) (ha : VQ X O E a fa) (hb : VQ X O E b fb) (hc : VQ X O E c fc)
    (hm : lastMarks [op, op'] [b, c] = false := by with_unfolding_all rfl) : VT X O E (.Compare a [op, op'] [b, c] pos) (fun ρ => bnd (fCh fa fb fc k1 k2 ρ) kBl) := PT.weak (pt_chain ho ho' ha hb hc hm) fun σ H Q ⟨T, ρ, S, g, al, s, w⟩ => chain_lift h1 h2 ⟨T, ρ, S, g, al, s, w.bn (R := RR X.K) fun v d S' g' al' H' s' l r w' => by
    cases d with
    | bl b => cases r; exact ⟨b, rfl, w'.rt' s' rfl⟩
    | _ => exact w'.elim⟩
/-! ### more of numbers and texts -/
def kNeg : D → Mo D
  | .int i => ret (.int (-i))
  | _ => nop
theorem ve_neg (ha : VQ X O E a fa) : VE X O E (.UnaryOp .USub a pos) (f1 fa kNeg) := ve_un un_neg (fun u x T ρ S g al σ H Q s r w => by
  cases x <;> first | exact w.elim | skip
  exact ⟨_, r.int, w.rt' s (.int _)⟩) ha
def kPow := kInt2 fun i j => if 0 ≤ j ∧ j ≤ 1000000 ∧ i.natAbs < 2 ^ 64 then some (.int (i ^ j.toNat)) else none
theorem ve_pow (ha : VQ X O E a fa) (hb : VQ X O E b fb) : VE X O E (.BinOp a .Pow b pos) (f2 fa fb kPow) := ve_op op_pow (by_int fun i j d e => by
  split at e
  · next h => cases e; exact ⟨h, fun K I al => .int _⟩
  · cases e) ha hb
/-- a text so many times; numbers -/
def kMulS : D → D → Mo D
  | .str z, .int i => grd (decide (0 ≤ i) && decide (i ≤ 1000) && decide (z.length ≤ 1000)) (ret (.str (repS z i)))
  | x, y => kMul x y
theorem ve_mulS (ha : VQ X O E a fa) (hb : VQ X O E b fb) : VE X O E (.BinOp a .Mult b pos) (f2 fa fb kMulS) := ve_op (OpR.or op_mul_str op_mul) (fun u v x y T ρ S g al σ H Q s r1 r2 w => by
  unfold kMulS at w
  split at w
  · next z i =>
    obtain ⟨c, w⟩ := w.gd
    simp only [Bool.and_eq_true, decide_eq_true_eq] at c
    exact .inl ⟨z, i, r1.str, r2.int, c.1.1, c.1.2, c.2, w.rt' s (.str _)⟩
  · refine .inr ?_
    refine by_int (C := CMul) (gv := fun i j => .int (i * j)) (fun i j d e => ?_) u v x y T ρ S g al σ H Q s r1 r2 w
    split at e
    · next h => cases e; exact ⟨.inl h, fun K I al => .int _⟩
    · cases e) ha hb
/-! ### module's constants -/
theorem ve_gi {x : Str} {v : Int} {p : Pos} (h : ∃ t, X.mg x = some (.int v t)) (hg : Gl X x := by rfl) (hd : (x == ("__debug__" : Str)) = false := by decide) : VE X O E (.Name x p) (fC (.int v)) := by
  obtain ⟨t, h⟩ := h
  exact ve_const (pe_glob (v := .int v) hg h ⟨t, rfl⟩ hd) fun _ _ => .int v
theorem ve_gs {x v : Str} {p : Pos} (h : ∃ t, X.mg x = some (.str v t)) (hg : Gl X x := by rfl) (hd : (x == ("__debug__" : Str)) = false := by decide) : VE X O E (.Name x p) (fC (.str v)) := by
  obtain ⟨t, h⟩ := h
  exact ve_const (pe_glob (v := .str v) hg h ⟨t, rfl⟩ hd) fun _ _ => .str v
/-! ### join -/
def strD : D → Option Str
  | .str x => some x
  | _ => none
def strsD : List D → Option (List Str)
  | [] => some []
  | d :: ds => match strD d, strsD ds with
    | some b, some bs => some (b :: bs)
    | _, _ => none
theorem strs_v {K : PySem.W.Frag} {I : Hp} {al : List Addr} : ∀ {vs : List V} {ds : List D} {bs : List Str}, Reps K I al vs ds → strsD ds = some bs → vs = bs.map V.str
  | _, _, _, .nil, e => by cases e; rfl
  | _, _, _, .cons (d := d) r t, e => by
    unfold strsD at e
    split at e
    · next b bs e1 e2 =>
      cases e
      cases d <;> first | cases e1 | skip
      cases r
      rw [List.map_cons, ← strs_v t e2]
    · cases e
def joinB (ys : List Str) (z : Str) : Bool := decide ((ys.map (·.length)).sum + ys.length * z.length ≤ LIM)
def kJoin : Str → D → Mo D
  | z, .lst ds => bnd (opt (strsD ds)) fun ys => grd (joinB ys z) (ret (.str (Txt.join z ys)))
  | z, .tup ds => bnd (opt (strsD ds)) fun ys => grd (joinB ys z) (ret (.str (Txt.join z ys)))
  | _, _ => nop
def fJoin (fa fb : Env → Mo D) : Env → Mo D := fun ρ => bnd (fa ρ) fun x => bnd (opt (strD x)) fun z => bnd (fb ρ) fun y => kJoin z y
theorem ve_join {apos : Pos} (ha : VE X O E a fa) (hb : VQ X O E b fb) (hs : starEach [b] X.env = [(false, eval b X.env)] := by rfl) (hbase : attributeBase a "join" X.env (eval a X.env) = eval a X.env := by rfl) (hline : (apos.endLine == pos.line) = true := by rfl) :
    VE X O E (.Call (.Attribute a "join" apos) [b] [] pos) (fJoin fa fb) := PE.weak (pe_join ha hb hs hbase hline) fun σ H Q ⟨T, ρ, S, g, al, s, w⟩ => ⟨T, ρ, S, g, al, s, w.bn fun v d S1 g1 al1 H1 s1 l1 r1 w1 => by
  rw [bnd_opt] at w1
  split at w1
  · next z e =>
    cases d <;> first | cases e | skip
    cases r1
    refine ⟨⟨z, rfl⟩, T, ρ, S1, g1, al1, s1, w1.bn fun v2 d2 S2 g2 al2 H2 s2 l2 r2 w2 => ?_⟩
    have lm : ∀ {ys : List Str}, joinB ys z = true → (ys.map (·.length)).sum + ys.length * z.length ≤ 16777216 := fun h => Nat.le_trans (of_decide_eq_true h) (by decide)
    unfold kJoin at w2
    split at w2
    · next ds =>
      rw [bnd_opt] at w2
      split at w2
      · next ys e2 =>
        obtain ⟨c, w2⟩ := w2.gd
        obtain ⟨a1, v1, rfl, _, h1, b1⟩ := r2.lst
        exact ⟨z, _, ys, rfl, rfl, .inl (by rw [← strs_v b1 e2]; exact h1), lm c, w2.rt' s2 (.str _)⟩
      · exact w2.elim
    · next ds =>
      rw [bnd_opt] at w2
      split at w2
      · next ys e2 =>
        obtain ⟨c, w2⟩ := w2.gd
        obtain ⟨a1, v1, rfl, _, h1, b1⟩ := r2.tup
        exact ⟨z, _, ys, rfl, rfl, .inr (by rw [← strs_v b1 e2]; exact h1), lm c, w2.rt' s2 (.str _)⟩
      · exact w2.elim
    · exact w2.elim
  · exact w1.elim⟩
end
/-! ### several values at once, some of them new lists or dicts of one's own -/
def updAll (T : Hp) : List (Addr × HO) → Hp
  | [] => T
  | (p, o) :: as => updAll (upd T p o) as
def Fresh (T : Hp) : List (Addr × HO) → Prop
  | [] => True
  | (p, o) :: as => T p = none ∧ Fresh (upd T p o) as
inductive Parts (K : PySem.W.Frag) (I : Hp) (al : List Addr) : List Bool → List V → List D → List (Addr × HO) → Prop
  | nil : Parts K I al [] [] [] []
  | val {ks : List Bool} {v : V} {vs : List V} {d : D} {ds : List D} {as : List (Addr × HO)} : Rep K I al v d → Parts K I al ks vs ds as → Parts K I al (false :: ks) (v :: vs) (d :: ds) as
  | own {ks : List Bool} {p : Addr} {o : HO} {vs : List V} {d : D} {ds : List D} {as : List (Addr × HO)} : OwnR K I al p o d → Parts K I al ks vs ds as → Parts K I al (true :: ks) (.ref p :: vs) (d :: ds) ((p, o) :: as)
theorem Parts.mono {K : PySem.W.Frag} {I I' : Hp} {al al' : List Addr} {ks : List Bool} {vs : List V} {ds : List D} {as : List (Addr × HO)} (h : Parts K I al ks vs ds as) (s : Sm I I') (p : al <+: al') : Parts K I' al' ks vs ds as := by
  induction h with
  | nil => exact .nil
  | val r _ ih => exact .val (r.mono s p) ih
  | own r _ ih => exact .own (r.mono s p) ih
def liftP (K : PySem.W.Frag) (O : List Nat) (E : XS) (ks : List Bool) (f : Env → Mo (List D)) : TA := fun σ H Q => ∃ T ρ S g al, SR K O T ρ S g al σ H ∧
  wp (f ρ) (fun ds S' => ∀ vs as g' al' H', SR K O (updAll T as) ρ S' g' al' σ H' → Fresh T as → Le g al H g' al' H' → Parts K (reg g' H' 1) al' ks vs ds as → Q vs H')
    (fun C fs S' => ∀ g' al' H' dx, SR K O T ρ S' g' al' σ H' → Le g al H g' al' H' → ExF K (reg g' H' 1) al' fs dx → E σ (.ref (He.ga K C)) dx H') S
def VP (X : Cx) (O : List Nat) (E : XS) (ks : List Bool) (es : List Expr) (f : Env → Mo (List D)) : Prop := PA X es (liftP X.K O E ks f)
/-- what is left aside is kept back -/
theorem SR.forget {K : PySem.W.Frag} {O : List Nat} {T : Hp} {ρ : Env} {S : Objs.T} {g : Addr → Nat} {al : List Addr} {σ : L2.St} {H : Hp} {p : Addr} {u : HO} (h : SR K O (upd T p u) ρ S g al σ H) (hT : T p = none) :
    SR K O T ρ S (put g p 5) al σ H ∧ Le g al H (put g p 5) al H := by
  have t3 := h.asideAt
  have t : g p = 3 := reg_tag t3
  have en : ∀ m, m ≠ 5 → m ≠ 3 → reg (put g p 5) H m = reg g H m := fun m m1 m3 => by
    funext b
    unfold reg put
    by_cases hb : b = p
    · rw [if_pos hb, if_neg (Ne.symm m1), hb, if_neg (by rw [t]; exact Ne.symm m3)]
    · rw [if_neg hb]
  have e3 : reg (put g p 5) H 3 = T := by
    funext b
    have q : reg g H 3 b = upd T p u b := by rw [h.fr]
    unfold reg at q
    unfold reg put
    by_cases hb : b = p
    · rw [if_pos hb, if_neg (by decide), hb, hT]
    · rw [if_neg hb, q, upd_ne hb]
  have le : Le g al H (put g p 5) al H := ⟨⟨by rw [en 1 (by decide) (by decide)]; exact .refl, List.prefix_rfl⟩, en 4 (by decide) (by decide)⟩
  refine ⟨⟨h.len, e3, by rw [en 1 (by decide) (by decide), en 2 (by decide) (by decide)]; exact h.ob, fun i d e q => ?_, fun i d e q => ?_⟩, le⟩
  · rw [en 1 (by decide) (by decide)]
    exact h.sl i d e q
  · rw [en 1 (by decide) (by decide), en 4 (by decide) (by decide)]
    exact h.ow i d e q
section
variable {X : Cx} {O : List Nat} {E : XS} {a b c e : Expr} {es : List Expr} {fa fb fc : Env → Mo D} {fl : Env → Mo (List D)} {pos : Pos} {ks : List Bool}
theorem vp_nil : VP X O E [] [] fNil := PA.weak pa_nil fun σ H Q ⟨T, ρ, S, g, al, s, w⟩ => w [] [] g al H s trivial .refl .nil
theorem vp_val (ha : VE X O E e fa) (hl : VP X O E ks es fl) (hs : starEach (e :: es) X.env = (false, eval e X.env) :: starEach es X.env := by rfl) : VP X O E (false :: ks) (e :: es) (fCons fa fl) := PA.weak (pa_cons ha hl hs) fun σ H Q ⟨T, ρ, S, g, al, s, w⟩ => by
  unfold fCons at w
  rw [wp_bnd] at w
  refine ⟨T, ρ, S, g, al, s, wp_mono w (fun d S1 w1 v g1 al1 H1 s1 l1 r1 => ?_) fun _ _ _ q => q⟩
  rw [wp_bnd] at w1
  refine ⟨T, ρ, S1, g1, al1, s1, wp_mono w1 (fun ds S2 w2 vs as g2 al2 H2 s2 fr l2 ps => ?_) fun C fs S2 q g2 al2 H2 dx s2 l2 x => q g2 al2 H2 dx s2 (l1.trans l2) x⟩
  exact w2 (v :: vs) as g2 al2 H2 s2 fr (l1.trans l2) (.val (r1.mono l2.s l2.p) ps)
theorem vp_own (ha : VN X O E e fa) (hl : VP X O E ks es fl) (hs : starEach (e :: es) X.env = (false, eval e X.env) :: starEach es X.env := by rfl) : VP X O E (true :: ks) (e :: es) (fCons fa fl) := PA.weak (pa_cons ha hl hs) fun σ H Q ⟨T, ρ, S, g, al, s, w⟩ => by
  unfold fCons at w
  rw [wp_bnd] at w
  refine ⟨T, ρ, S, g, al, s, wp_mono w (fun d S1 w1 p o g1 al1 H1 s1 hT l1 r1 => ?_) fun _ _ _ q => q⟩
  rw [wp_bnd] at w1
  refine ⟨upd T p o, ρ, S1, g1, al1, s1, wp_mono w1 (fun ds S2 w2 vs as g2 al2 H2 s2 fr l2 ps => ?_) fun C fs S2 q g2 al2 H2 dx s2 l2 x => ?_⟩
  · exact w2 (.ref p :: vs) ((p, o) :: as) g2 al2 H2 s2 ⟨hT, fr⟩ (l1.trans l2) (.own (r1.mono l2.s l2.p) ps)
  · obtain ⟨s3, l3⟩ := s2.forget hT
    refine q _ al2 H2 dx s3 ((l1.trans l2).trans l3) ?_
    cases dx with
    | none => exact x
    | some y =>
      obtain ⟨vs, e1, e2⟩ := x
      have e5 : reg (put g2 p 5) H2 1 = reg g2 H2 1 := by
        have t : g2 p = 3 := reg_tag s2.asideAt
        funext b
        unfold reg put
        by_cases hb : b = p
        · rw [if_pos hb, if_neg (by decide), hb, if_neg (by rw [t]; decide)]
        · rw [if_neg hb]
      exact ⟨vs, by rw [e5]; exact e1, by rw [e5]; exact e2⟩
end
/-- the names get the values, the last ones first -/
def setAll (ρ : Env) : List Nat → List D → Env
  | i :: is, d :: ds => (setAll ρ is ds).set i (some d)
  | _, _ => ρ
def setAllV (σ : L2.St) : List Nat → List V → L2.St
  | i :: is, v :: vs => (setAllV σ is vs).set i (some v)
  | _, _ => σ
def addO (O : List Nat) : List Nat → List Bool → List Nat
  | i :: is, b :: bs => if b = true then i :: addO O is bs else addO O is bs
  | _, _ => O
def outO (O : List Nat) : List Nat → List Bool → Bool
  | i :: is, b :: bs => !(addO O is bs).contains i && outO O is bs
  | [], [] => true
  | _, _ => false
theorem SR.takeParts {K : PySem.W.Frag} {O : List Nat} {S : Objs.T} {al : List Addr} {σ : L2.St} {H : Hp} : ∀ (is : List Nat) (ks : List Bool) (vs : List V) (ds : List D) (as : List (Addr × HO)) (T : Hp) (ρ : Env) (g : Addr → Nat), outO O is ks = true → SR K O (updAll T as) ρ S g al σ H → Fresh T as → Parts K (reg g H 1) al ks vs ds as →
    ∃ g', SR K (addO O is ks) T (setAll ρ is ds) S g' al (setAllV σ is vs) H ∧ Lw g al H g' al H
  | [], _, _, _, _, T, ρ, g, ho, s, fr, ps => by
    cases ps with
    | nil => exact ⟨g, s, .refl⟩
    | val _ _ => cases ho
    | own _ _ => cases ho
  | i :: is, _, _, _, _, T, ρ, g, ho, s, fr, ps => by
    cases ps with
    | nil => cases ho
    | @val ks v vs d ds as r ps =>
      unfold outO at ho
      rw [Bool.and_eq_true] at ho
      obtain ⟨g', s', l⟩ := SR.takeParts is ks vs ds _ T ρ g ho.2 s fr ps
      have hi : i ∉ addO O is ks := by simpa using ho.1
      exact ⟨g', s'.set hi (r.mono l.s l.p), l⟩
    | @own ks p o vs d ds as r ps =>
      unfold outO at ho
      rw [Bool.and_eq_true] at ho
      obtain ⟨g', s', l⟩ := SR.takeParts is ks vs ds as (upd T p o) ρ g ho.2 s fr.2 ps
      have hi : i ∉ addO O is ks := by simpa using ho.1
      obtain ⟨s2, l2⟩ := s'.takeOwn fr.1 hi (r.mono l.s l.p)
      exact ⟨_, s2, l.trans l2⟩
def sPar (is : List Nat) (fl : Env → Mo (List D)) : MoS := fun ρ => bnd (fl ρ) fun ds => grd (decide (ds.length = is.length)) (ret (.nx, setAll ρ is ds))
section
variable {X : Cx} {O : List Nat} {E : XS} {ks : List Bool} {fl : Env → Mo (List D)} {OL : List Nat}
theorem Parts.len {K : PySem.W.Frag} {I : Hp} {al : List Addr} {ks : List Bool} {vs : List V} {ds : List D} {as : List (Addr × HO)} (h : Parts K I al ks vs ds as) : vs.length = ds.length := by
  induction h with
  | nil => rfl
  | val _ _ ih => rw [List.length_cons, List.length_cons, ih]
  | own _ _ ih => rw [List.length_cons, List.length_cons, ih]
theorem par_lift {is : List Nat} (fE : Flat E) (ho : outO O is ks = true) {Dn : Ends} {σ : L2.St} {H : Hp} {P : List V → Hp → Prop} (h : liftS X.K O (addO O is ks) OL E (sPar is fl) Dn σ H)
    (k : ∀ vs H', vs.length = is.length → Dn.nx (setAllV σ is vs) H' → P vs H') : liftP X.K O E ks fl σ H P := by
  obtain ⟨T, ρ, S, g, al, s, w⟩ := h
  unfold PostS sPar at w
  rw [wp_bnd] at w
  refine ⟨T, ρ, S, g, al, s, wp_mono w (fun ds S1 w1 vs as g1 al1 H1 s1 fr l1 ps => ?_) fun C fs S1 q g' al' H' dx s' l x => fE σ _ _ _ _ (q σ g' al' H' dx s'.base l.w x)⟩
  obtain ⟨hl, w1⟩ := wp_grd.mp w1
  obtain ⟨g2, s2, l2⟩ := SR.takeParts is ks vs ds as T ρ g1 ho s1 fr ps
  exact k vs H1 (by rw [ps.len]; exact of_decide_eq_true hl) (w1 _ g2 al1 H1 s2 (l1.w.trans l2))
theorem vs_par {i j : Nat} {x y : Str} {a b : Expr} {px py pt pos : Pos} {kt k2 pt2} (fE : Flat E) (ho : outO O [i, j] ks = true) (hc : X.calm = true) (hN : X.N.Nodup) (hi : X.N[i]? = some x) (hj : X.N[j]? = some y) (hij : i ≠ j)
    (hx : X.env.scope.names.lookup x = some .local) (hy : X.env.scope.names.lookup y = some .local) (ha : VP X O E ks [a, b] fl)
    (hw : swappedStores [.Tuple [.Name x px, .Name y py] kt pt] (.Tuple [a, b] k2 pt2) X.env = pure (some [x, y]))
    (hs : swapsWithSole [.Tuple [.Name x px, .Name y py] kt pt] (.Tuple [a, b] k2 pt2) pos.line X.env = pure false := by rfl) :
    VS X O (addO O [i, j] ks) OL E (.Assign [.Tuple [.Name x px, .Name y py] kt pt] (.Tuple [a, b] k2 pt2) pos) (sPar [i, j] fl) := PS.weak (ps_par hc hN hi hj hij hx hy ha hw hs) fun Dn σ H h => par_lift (X := X) fE ho h fun vs H' hl q => by
  match vs, hl with
  | [v, u], _ => exact ⟨v, u, rfl, by rw [List.set_comm _ _ hij]; exact q⟩
theorem vs_par3 {i j l : Nat} {x y z : Str} {a b c : Expr} {px py pz pt pos : Pos} {kt k2 pt2} (fE : Flat E) (ho : outO O [i, j, l] ks = true) (hc : X.calm = true) (hN : X.N.Nodup) (hi : X.N[i]? = some x) (hj : X.N[j]? = some y) (hl : X.N[l]? = some z) (hij : i ≠ j) (hil : i ≠ l) (hjl : j ≠ l)
    (hx : X.env.scope.names.lookup x = some .local) (hy : X.env.scope.names.lookup y = some .local) (hz : X.env.scope.names.lookup z = some .local) (ha : VP X O E ks [a, b, c] fl)
    (hw : swappedStores [.Tuple [.Name x px, .Name y py, .Name z pz] kt pt] (.Tuple [a, b, c] k2 pt2) X.env = pure (some [x, y, z]))
    (hs : swapsWithSole [.Tuple [.Name x px, .Name y py, .Name z pz] kt pt] (.Tuple [a, b, c] k2 pt2) pos.line X.env = pure false := by rfl) :
    VS X O (addO O [i, j, l] ks) OL E (.Assign [.Tuple [.Name x px, .Name y py, .Name z pz] kt pt] (.Tuple [a, b, c] k2 pt2) pos) (sPar [i, j, l] fl) := PS.weak (ps_par3 hc hN hi hj hl hij hil hjl hx hy hz ha hw hs) fun Dn σ H h => par_lift (X := X) fE ho h fun vs H' hl q => by
  match vs, hl with
  | [v, u, t], _ =>
    refine ⟨v, u, t, rfl, ?_⟩
    have e : ((σ.set i (some v)).set j (some u)).set l (some t) = ((σ.set l (some t)).set j (some u)).set i (some v) := by
      rw [List.set_comm (some v) (some u) hij, List.set_comm (some v) (some t) hil, List.set_comm (some u) (some t) hjl]
    rw [e]
    exact q
end
/-! ### a def by its name -/
theorem VCal.mk_of {P : Program} {w : World} {K : PySem.W.Frag} {mg : Str → Option Value} {base : Heap} {k : Nat} {x : Str} {ps : List Str} {G : List D → Mo D} {d : He.DefD} {fd : FuncData}
    (F : FunD K d.name d.qual d.params d.body d.scope [] [] (He.fAd K d.at_) fd) (ok : FnOk P w K mg base (L2.CX P w) k (He.fAd K d.at_) fd ps (spF K G)) (b : Binds K fd ps []) (g : mg x = some (.ref (He.fAd K d.at_))) : VCal P w K mg base k x ps G :=
  ⟨_, fd, ok, b, F.kp, g⟩
end Vl
set_option Elab.async false
set_option linter.all false
set_option maxRecDepth 100000
set_option maxHeartbeats 4000000
namespace Vl
open PySem PySem.Spec PyProof.Rows L2 Oc
/-! ### what is walked: lists, tuples, texts -/
def iSeqR (K : PySem.W.Frag) (tl : TE) : TI := fun σ H R => tl σ H fun x H1 => (∃ a, x = .ref a ∧ (∃ xs, SqL K H1 a xs) ∧ R (Itl K a) H1) ∨ (∃ a, x = .ref a ∧ (∃ xs, SqT K H1 a xs) ∧ R (Itt K a) H1) ∨ ∃ z, x = .str z ∧ R (Its z) H1
theorem pi_seq {X : Cx} {tg l : Expr} {tl : TE} (hl : PE X l tl) : PI X tg l (iSeqR X.K tl) := by
  refine ⟨fun pins s σ H R I h => thn (hl.run pins s σ H _ I h) fun v s1 ⟨x, H1, I1, r1, q1⟩ => ?_⟩
  rcases q1 with ⟨a, e, ⟨xs, hq⟩, q⟩ | ⟨a, e, ⟨xs, hq⟩, q⟩ | ⟨z, e, q⟩
  · subst e
    cases r1
    obtain ⟨its, rv, p, hz⟩ := I1.list hq
    exact wpAny_pyIter_list p.isList (pi_one (tk := s1.toks) I1 _ (turn_list a _) ⟨_, Heap.get?_push_size _ rfl, rfl, rfl⟩ q)
  · subst e
    cases r1
    obtain ⟨its, rv, p, hz⟩ := I1.tuple hq
    exact wpAny_pyIter_tuple (show s1.heap.IsTuple a its.toArray from p) (pi_one (tk := s1.toks) I1 _ (turn_tuple a _) ⟨_, Heap.get?_push_size _ rfl, rfl, rfl⟩ q)
  · subst e
    obtain ⟨t, rfl⟩ := r1
    by_cases ha : z.cps.all (· < 128) = true
    · exact wpAny_pyIter_ascii ha (pi_one (tk := s1.toks) I1 _ (turn_str _ z t "str_ascii_iterator" (.inl rfl)) ⟨_, Heap.get?_push_size _ rfl, rfl, rfl⟩ q)
    · have hb : z.cps.all (· < 128) = false := by simpa using ha
      exact wpAny_pyIter_wide hb (pi_one (tk := s1.toks) I1 _ (turn_str _ z t "str_iterator" (.inr rfl)) ⟨_, Heap.get?_push_size _ rfl, rfl, rfl⟩ q)
variable [Ob : Objs]
section
variable {K : PySem.W.Frag} {g g' : Addr → Nat} {al al' : List Addr} {H H' : Hp}
def signs (z : Str) : List D := z.cps.toList.map fun c => .str ⟨#[c]⟩
theorem wk_str {z : Str} : Wk K (Its z) (signs z) g al H where
  go := fun g' al' H' i l hi => by
    unfold signs at hi
    rw [List.length_map, Array.length_toList] at hi
    exact hi
  stop := fun g' al' H' l => by
    unfold signs
    rw [List.length_map, Array.length_toList]
    exact Nat.le_refl _
  yld := fun g' al' H' i x H2 l hi y => by
    obtain ⟨e1, c, e2, e3⟩ := y
    subst e1 e3
    refine .inl ⟨rfl, .str ⟨#[c]⟩, ?_, .str _⟩
    unfold signs
    rw [List.getElem?_map, Array.getElem?_toList, e2]
    rfl
end
section
variable {X : Cx} {O : List Nat} {E : XS} {tg a b e : Expr} {es : List Expr} {fa fe : Env → Mo D} {pos : Pos}
def seqV : D → Option (List D)
  | .lst ds => some ds
  | .tup ds => some ds
  | .str z => some (signs z)
  | _ => none
def iAny (fe : Env → Mo D) : Env → Mo (List D) := fun ρ => bnd (fe ρ) fun d => opt (seqV d)
theorem vi_any (he : VE X O E e fe) : VI X O E tg e (iAny fe) := PI.weak (pi_seq he) fun σ H R h => liftI_bn h fun v d T ρ S g al H s r w => by
  obtain ⟨ds, e, w⟩ := wp_opt.mp w
  unfold seqV at e
  split at e
  · cases e
    cases r with | lst a b => exact .inl ⟨_, rfl, ⟨_, .inl (rd_reg a)⟩, w g al H _ s .refl (wk_list a b)⟩
  · cases e
    cases r with | tup a b => exact .inr (.inl ⟨_, rfl, ⟨_, SqT.same a reg_le⟩, w g al H _ s .refl (wk_tup a b)⟩)
  · cases e
    cases r
    exact .inr (.inr ⟨_, rfl, w g al H _ s .refl wk_str⟩)
  · cases e
/-! ### isinstance with built-in types -/
def tyD : D → Option String
  | .non => some "NoneType"
  | .bl _ => some "bool"
  | .int _ => some "int"
  | .str _ => some "str"
  | .lst _ => some "list"
  | .tup _ => some "tuple"
  | .dic _ => some "dict"
  | _ => none
theorem rd_ty {K : PySem.W.Frag} {H : Hp} {p : Addr} {xs : List V} (h : SqL K H p xs) : TyX K H (.ref p) (.type "list") := by
  rcases h with (h | ⟨o, h⟩) | ⟨o, us, n, h1, h2, _⟩
  · exact .base (.lst h)
  · exact .base (.frz h)
  · exact .kList h1 h2
theorem sqt_ty {K : PySem.W.Frag} {H : Hp} {p : Addr} {xs : List V} (h : SqT K H p xs) : TyX K H (.ref p) (.type "tuple") := by
  rcases h with (h | ⟨o, h⟩) | ⟨o, us, n, h1, h2, _⟩
  · exact .base (.tup h)
  · exact .fTuple h
  · exact .kTuple h1 h2
theorem RepQ.ty {K : PySem.W.Frag} {g : Addr → Nat} {H : Hp} {al : List Addr} {v : V} {d : D} {t : String} (r : RepQ K g H al v d) (h : tyD d = some t) : TyX K H v (.type t) := by
  cases d with
  | non => cases h; rw [r.non]; exact .base .non
  | bl b => cases h; rw [r.bl]; exact .base (.bl b)
  | int b => cases h; rw [r.int]; exact .base (.int b)
  | str b => cases h; rw [r.str]; exact .base (.str b)
  | lst b =>
    cases h
    obtain ⟨a, vs, rfl, _, h, _⟩ := r.lst
    exact rd_ty h
  | tup b =>
    cases h
    obtain ⟨a, vs, rfl, _, h, _⟩ := r.tup
    exact sqt_ty h
  | dic b =>
    cases h
    obtain ⟨a, vs, rfl, h, _⟩ := r.dic
    rcases h with h | ⟨o, h⟩
    · exact .base (.dK h)
    · exact .fDict h
  | ins _ _ => cases h
  | hnd _ => cases h
/-- of one of these types -/
def isAny (t : String) : List String → Option Bool
  | [] => some false
  | c :: cs => match kitB t c with
    | some true => some true
    | some false => isAny t cs
    | none => none
theorem kitAny_of {K : PySem.W.Frag} {t : String} : ∀ {cs : List String} {b : Bool}, isAny t cs = some b → PySem.W.kitAny K (.type t) (cs.map fun c => Value.type c) = some b
  | [], b, h => by cases h; exact kitAny_nil
  | c :: cs, b, h => by
    unfold isAny at h
    split at h
    · next e => cases h; exact kitAny_cons (kit_ty e) (fun z => by cases z) fun _ => rfl
    · next e => exact kitAny_cons (kit_ty e) (fun _ => kitAny_of h) fun z => by cases z
    · cases h
def kIsT (cs : List String) (d : D) : Mo D := match tyD d with
  | some t => bnd (opt (isAny t cs)) fun b => ret (.bl b)
  | none => nop
theorem isAny_one {t c : String} {b : Bool} (h : isAny t [c] = some b) : kitB t c = some b := by
  unfold isAny at h
  split at h
  · next e => cases h; exact e
  · next e => unfold isAny at h; cases h; exact e
  · cases h
/-- a new thing that nobody looks at any more -/
theorem SR.junk {K : PySem.W.Frag} {T : Hp} {ρ : Env} {S : Objs.T} {g : Addr → Nat} {al : List Addr} {σ : L2.St} {H : Hp} {p : Addr} {o : HO} (s : SR K O T ρ S g al σ H) (n : H p = none) : ∃ g', SR K O T ρ S g' al σ (upd H p o) ∧ Le g al H g' al (upd H p o) := by
  have hT : T p = none := by rw [← s.fr]; exact reg_none n
  obtain ⟨s2, l2⟩ := (s.aside (o := o) n).forget hT
  exact ⟨_, s2, (Le.asideNew n).trans l2⟩
theorem ve_isi {c : Str} {cs : String} {x : Str} {p p2 : Pos} (hx : x = "isinstance") (hg : Gl X x) (hm : X.mg x = none) (hv : bootBuiltins x = some (.builtin "isinstance")) (hgc : Gl X c) (hmc : X.mg c = none) (hvc : bootBuiltins c = some (.type cs)) (ha : VQ X O E a fa)
    (hnc : c ≠ "__name__" := by decide) (hdc : (c == ("__debug__" : Str)) = false := by decide) (hn : x ≠ "__name__" := by decide) (hdb : (x == ("__debug__" : Str)) = false := by decide)
    (he : starEach [a, .Name c p2] X.env = (false, eval a X.env) :: starEach [.Name c p2] X.env := by rfl) (he2 : starEach [.Name c p2] X.env = (false, eval (.Name c p2) X.env) :: starEach [] X.env := by rfl) (hpl : (backTo pos (starEach [.Name c p2] X.env)).any (·.1) = false := by rfl) :
    VE X O E (.Call (.Name x p) [a, .Name c p2] [] pos) (f1 fa (kIsT [cs])) :=
  PE.weak (pe_callB call_isi hg hm hv (pa_cons ha (pa_cons (pe_bltn (v := .ty cs) hgc hmc hvc rfl hnc hdc) pa_nil he2) he) hn hdb he hpl) fun σ H Q ⟨T, ρ, S, g, al, s, w⟩ => ⟨T, ρ, S, g, al, s, w.bn fun v d S' g' al' H' s' l r w' => by
    unfold kIsT at w'
    split at w'
    · next t e =>
      rw [bnd_opt] at w'
      split at w'
      · next bb e2 => exact ⟨v, .ty cs, .type t, .type cs, bb, rfl, .ty cs, r.ty e, kit_ty (isAny_one e2), w'.rt' s' (.bl _)⟩
      · exact w'.elim
    · exact w'.elim⟩
theorem paired_ty : ∀ cs : List String, Paired ClsV (cs.map fun c => V.ty c) (cs.map fun c => Value.type c)
  | [] => .nil
  | c :: cs => .cons (.ty c) (paired_ty cs)
/-- the classes of a tuple that is written -/
def tTys (cs : List String) : TA := fun _ H Q => Q (cs.map fun c => V.ty c) H
theorem tys_nil : PA X [] (tTys []) := PA.weak pa_nil fun _ _ _ h => h
theorem tys_cons {c : Str} {s : String} {cs : List String} {p2 : Pos} (hgc : Gl X c) (hmc : X.mg c = none) (hvc : bootBuiltins c = some (.type s)) (h : PA X es (tTys cs)) (hnc : c ≠ "__name__" := by decide) (hdc : (c == ("__debug__" : Str)) = false := by decide)
    (he : starEach (.Name c p2 :: es) X.env = (false, eval (.Name c p2) X.env) :: starEach es X.env := by rfl) : PA X (.Name c p2 :: es) (tTys (s :: cs)) := PA.weak (pa_cons (pe_bltn (v := .ty s) hgc hmc hvc rfl hnc hdc) h he) fun _ _ _ h => h
theorem ve_isiT {cs : List String} {x : Str} {p p2 : Pos} {k2 : Nat} (hx : x = "isinstance") (hg : Gl X x) (hm : X.mg x = none) (hv : bootBuiltins x = some (.builtin "isinstance")) (ht : PA X es (tTys cs)) (hl : cs.length ≤ 1000) (ha : VQ X O E a fa)
    (hn : x ≠ "__name__" := by decide) (hdb : (x == ("__debug__" : Str)) = false := by decide)
    (he : starEach [a, .Tuple es k2 p2] X.env = (false, eval a X.env) :: starEach [.Tuple es k2 p2] X.env := by rfl) (he2 : starEach [.Tuple es k2 p2] X.env = (false, eval (.Tuple es k2 p2) X.env) :: starEach [] X.env := by rfl) (hpl : (backTo pos (starEach [.Tuple es k2 p2] X.env)).any (·.1) = false := by rfl) :
    VE X O E (.Call (.Name x p) [a, .Tuple es k2 p2] [] pos) (f1 fa (kIsT cs)) :=
  PE.weak (pe_callB call_isiT hg hm hv (pa_cons ha (pa_cons (pe_tup ht) pa_nil he2) he) hn hdb he hpl) fun σ H Q ⟨T, ρ, S, g, al, s, w⟩ => ⟨T, ρ, S, g, al, s, w.bn fun v d S' g' al' H' s' l r w' => by
    unfold kIsT at w'
    split at w'
    · next t e =>
      rw [bnd_opt] at w'
      split at w'
      · next bb e2 =>
        refine ⟨by rw [List.length_map]; exact Nat.le_of_lt (small1000 hl), fun q nq => ?_⟩
        obtain ⟨g2, s2, l2⟩ := s'.junk (o := .tup (cs.map fun c => V.ty c)) nq
        exact ⟨v, q, _, .type t, _, bb, rfl, upd_same, paired_ty cs, (r.le l2).ty e, kitAny_of e2, w'.rt s2 rfl l2 (.bl _)⟩
      · exact w'.elim
    · exact w'.elim⟩
end
end Vl
set_option Elab.async false
set_option linter.all false
set_option maxRecDepth 100000
set_option maxHeartbeats 4000000
namespace Vl
open PySem PySem.Spec PyProof.Rows L2 Oc
variable [Ob : Objs]
section
variable {X : Cx} {O : List Nat} {E : XS} {tg a b e : Expr} {es : List Expr} {fa fe : Env → Mo D} {fl : Env → Mo (List D)} {pos : Pos}
/-- list(x), one's own -/
theorem vn_list {x : Str} {p : Pos} (hg : Gl X x) (hm : X.mg x = none) (hv : bootBuiltins x = some (.type "list")) (ha : VAQ X O E [e] fl) (hn : x ≠ "__name__" := by decide) (hdb : (x == ("__debug__" : Str)) = false := by decide)
    (he : starEach [e] X.env = (false, eval e X.env) :: starEach [] X.env := by rfl) (hpl : (backTo pos (starEach [] X.env)).any (·.1) = false := by rfl) : VN X O E (.Call (.Name x p) [e] [] pos) (fN fl kList) :=
  PE.weak (pe_callTy call_list_of hg hm hv ha hn hdb he hpl) fun σ H Q ⟨T, ρ, S, g, al, s, w⟩ => by
  unfold fN at w
  rw [wp_bnd] at w
  refine ⟨T, ρ, S, g, al, s, wp_mono w (fun ds S1 w1 us g1 al1 H1 s1 l1 r1 => ?_) fun C fs S1 k => k⟩
  have key : ∀ {vs : List V} {es : List D} {l : Addr}, Reps X.K (reg g1 H1 1) al1 vs es → kList ds = ret (.lst es) → H1 l = none → Q (.ref l) (upd H1 l (.lst vs)) := fun b e nl => by
    rw [e] at w1
    refine w1 _ (.lst _) _ al1 _ (s1.aside nl) (by rw [← s1.fr]; exact reg_none nl) (l1.trans (Le.asideNew nl)) ?_
    rw [reg_put_ne (m := 1) nl (by decide)]
    exact .lst b
  unfold kList at w1
  split at w1
  · obtain ⟨v, rfl, r⟩ := r1.one
    obtain ⟨a, vs, rfl, _, h, b⟩ := r.lst
    exact ⟨_, _, rfl, .inl h, fun l nl => key b rfl nl⟩
  · obtain ⟨v, rfl, r⟩ := r1.one
    obtain ⟨a, vs, rfl, _, h, b⟩ := r.tup
    exact ⟨_, _, rfl, .inr h, fun l nl => key b rfl nl⟩
  · exact w1.elim
theorem ps_app {to : TE} {ta : TA} {apos cpos : Pos} (ho : PE X a to) (ha : PA X [e] ta)
    (hbase : attributeBase a "append" X.env (eval a X.env) = eval a X.env := by rfl)
    (hfew : ((backTo cpos (starEach [e] X.env)).all (fun x => !x.1) && (backToKw cpos (keywordEach [] X.env)).all (fun x => x.1.isSome) && decide ([e].length + ([] : List Keyword).length + (if ([] : List Keyword).isEmpty then 0 else 1) < 30)) = true := by rfl)
    (hline : (apos.endLine == cpos.line) = true := by rfl) (hs : starEach [e] X.env = (false, eval e X.env) :: starEach [] X.env := by rfl) (hplain : (backTo cpos (starEach [] X.env)).any (·.1) = false := by rfl)
    (hsw : swapsWith (.Call (.Attribute a "append" apos) [e] [] cpos) none pos.line X.env = pure false := by rfl) : PS X (.Expr (.Call (.Attribute a "append" apos) [e] [] cpos) pos) (tDrop (tBM X.K "list" rAppend to ta)) :=
  ps_expr (pe_bm PySem.F.plainAttrs_list PySem.F.slot_list_append PySem.F.type_list_append mt_append ho ha hbase hfew hline hs hplain) hsw
/-- the statement x.append(y.pop(e)), both lists one's own -/
def appPop (i j : Nat) (ρ : Env) : D → Mo (Fl × Env)
  | .int k => match (ρ[i]?).join, (ρ[j]?).join with
    | some (.lst xs), some (.lst ys) => grd (decide (xs.length < LIM) && decide (-(2 ^ 63) ≤ k) && decide (k < 2 ^ 63)) (match seqIndex? k ys.length with
      | some n => match ys[n]? with
        | some y => ret (.nx, (ρ.set j (some (.lst (ys.eraseIdx n)))).set i (some (.lst (xs ++ [y]))))
        | none => nop
      | none => nop)
    | _, _ => nop
  | _ => nop
def sAppPop (i j : Nat) (fe : Env → Mo D) : MoS := fun ρ => grd (hasOwn i ρ && hasOwn j ρ) (bnd (fe ρ) (appPop i j ρ))
theorem hasOwn_at {i : Nat} {ρ : Env} (h : hasOwn i ρ = true) : ∃ ds, (ρ[i]?).join = some (.lst ds) := by
  unfold hasOwn at h
  split at h
  · next ds e => exact ⟨ds, e⟩
  · cases h
theorem Reps.erase {K : PySem.W.Frag} {I : Hp} {al : List Addr} : ∀ {vs : List V} {ds : List D} (n : Nat), Reps K I al vs ds → Reps K I al (vs.eraseIdx n) (ds.eraseIdx n)
  | _, _, _, .nil => .nil
  | _, _, 0, .cons r t => t
  | _, _, n + 1, .cons r t => .cons r (Reps.erase n t)
theorem SR.ownLst {K : PySem.W.Frag} {T : Hp} {ρ : Env} {S : Objs.T} {g : Addr → Nat} {al : List Addr} {σ : L2.St} {H : Hp} {i : Nat} {ds : List D} (s : SR K O T ρ S g al σ H) (hi : i ∈ O) (e : (ρ[i]?).join = some (.lst ds)) :
    ∃ a vs, σ[i]? = some (some (.ref a)) ∧ reg g H 4 a = some (.lst vs) ∧ Reps K (reg g H 1) al vs ds := by
  obtain ⟨a, o, h1, h2, h3, h4⟩ := s.ow i _ (join_get e) hi
  cases h3 with
  | lst r => exact ⟨a, _, h1, h2, r⟩
theorem vs_apppop {i j : Nat} {y z : Str} {py pz apos cpos apos2 cpos2 : Pos} {OL : List Nat} (fE : Flat E) (hi : i ∈ O) (hj : j ∈ O) (hij : i ≠ j) (hv : PE X (.Name y py) (tVar i)) (hw : PE X (.Name z pz) (tVar j)) (he : VE X O E e fe)
    (h : ∀ {to : TE} {ta : TA}, PE X (.Name y py) to → PA X [.Call (.Attribute (.Name z pz) "pop" apos2) [e] [] cpos2] ta → PS X (.Expr (.Call (.Attribute (.Name y py) "append" apos) [.Call (.Attribute (.Name z pz) "pop" apos2) [e] [] cpos2] [] cpos) pos) (tDrop (tBM X.K "list" rAppend to ta)))
    (h2 : ∀ {to : TE} {ta : TA}, PE X (.Name z pz) to → PA X [e] ta → PE X (.Call (.Attribute (.Name z pz) "pop" apos2) [e] [] cpos2) (tBM X.K "list" rPopAt to ta))
    (hs : starEach [e] X.env = (false, eval e X.env) :: starEach [] X.env := by rfl) (hs2 : starEach [.Call (.Attribute (.Name z pz) "pop" apos2) [e] [] cpos2] X.env = (false, eval (.Call (.Attribute (.Name z pz) "pop" apos2) [e] [] cpos2) X.env) :: starEach [] X.env := by rfl) :
    VS X O O OL E (.Expr (.Call (.Attribute (.Name y py) "append" apos) [.Call (.Attribute (.Name z pz) "pop" apos2) [e] [] cpos2] [] cpos) pos) (sAppPop i j fe) :=
  PS.weak (h hv (pa_cons (h2 hw (pa_cons he pa_nil hs)) pa_nil hs2)) fun Dn σ H ⟨T, ρ, S, g, al, s, w⟩ => by
  obtain ⟨ho, w⟩ := wp_grd.mp w
  rw [Bool.and_eq_true] at ho
  obtain ⟨xs, ex⟩ := hasOwn_at ho.1
  obtain ⟨ys, ey⟩ := hasOwn_at ho.2
  obtain ⟨a, va, a1, a2, a3⟩ := s.ownLst hi ex
  obtain ⟨b, vb, b1, b2, b3⟩ := s.ownLst hj ey
  refine ⟨.ref a, a1, .inl ⟨rfl, va, .inl (.inl (reg_le _ _ a2))⟩, .ref b, b1, .inl ⟨rfl, vb, .inl (.inl (reg_le _ _ b2))⟩, T, ρ, S, g, al, s, PostS.bn fE w fun v d S' g' al' H' s' l r w' => ?_⟩
  cases d with
  | int k =>
    cases r
    unfold appPop at w'
    rw [ex, ey] at w'
    dsimp only at w'
    obtain ⟨c, w'⟩ := wp_grd.mp w'
    simp only [Bool.and_eq_true, decide_eq_true_eq] at c
    split at w'
    · next n en =>
      split at w'
      · next y0 ey0 =>
        obtain ⟨a', va', q1, q2, q3⟩ := s'.ownLst hi ex
        obtain ⟨b', vb', p1, p2, p3⟩ := s'.ownLst hj ey
        rw [a1] at q1
        cases q1
        rw [b1] at p1
        cases p1
        obtain ⟨u, eu, ru⟩ := p3.get ey0
        have hne : a ≠ b := by
          obtain ⟨a'', o'', z1, _, _, z4⟩ := s'.ow i _ (join_get ex) hi
          intro z
          refine z4 j hj (Ne.symm hij) _ (join_get ey) ?_
          rw [a1] at z1
          cases z1
          rw [b1, z]
        refine ⟨b, vb', k, n, u, rfl, rfl, reg_le _ _ p2, c.1.2, c.2, by rw [p3.len]; exact en, eu, ?_⟩
        have s4 := s'.change (d := .lst (ys.eraseIdx n)) (o := .lst (vb'.eraseIdx n)) hj ⟨_, join_get ey⟩ b1 p2 (.lst (p3.erase n))
        have tb : g' b = 4 := reg_tag p2
        have ta : g' a = 4 := reg_tag q2
        have e1 : reg g' (upd H' b (.lst (vb'.eraseIdx n))) 1 = reg g' H' 1 := reg_upd_ne (by rw [tb]; decide)
        have q2' : reg g' (upd H' b (.lst (vb'.eraseIdx n))) 4 a = some (.lst va') := by
          rw [reg_upd tb, upd_ne hne]
          exact q2
        refine ⟨a, va', u, rfl, rfl, reg_le _ _ q2', by rw [q3.len]; exact Nat.lt_of_lt_of_le c.1.1 (lim (Nat.le_refl _)), ?_⟩
        have s5 := s4.change (i := i) (d := .lst (xs ++ [y0])) (o := .lst (va' ++ [u])) hi ⟨_, by rw [get_set (Ne.symm hij)]; exact join_get ex⟩ a1 q2' (by rw [e1]; exact .lst (q3.append (Reps.one ru)))
        refine w' σ g' al' _ s5 ⟨?_, List.prefix_rfl⟩
        rw [reg_upd_ne (by rw [ta]; decide), e1]
        exact .refl
      · exact w'.elim
    · exact w'.elim
  | _ => exact w'.elim
theorem pe_popA {to : TE} {ta : TA} {apos cpos : Pos} (ho : PE X a to) (ha : PA X [e] ta)
    (hbase : attributeBase a "pop" X.env (eval a X.env) = eval a X.env := by rfl)
    (hfew : ((backTo cpos (starEach [e] X.env)).all (fun x => !x.1) && (backToKw cpos (keywordEach [] X.env)).all (fun x => x.1.isSome) && decide ([e].length + ([] : List Keyword).length + (if ([] : List Keyword).isEmpty then 0 else 1) < 30)) = true := by rfl)
    (hline : (apos.endLine == cpos.line) = true := by rfl) (hs : starEach [e] X.env = (false, eval e X.env) :: starEach [] X.env := by rfl) (hplain : (backTo cpos (starEach [] X.env)).any (·.1) = false := by rfl) : PE X (.Call (.Attribute a "pop" apos) [e] [] cpos) (tBM X.K "list" rPopAt to ta) :=
  pe_bm PySem.F.plainAttrs_list PySem.F.slot_list_pop PySem.F.type_list_pop mt_popAt ho ha hbase hfew hline hs hplain
end
section
variable {P : Program} {w : World} {K : PySem.W.Frag} {mg : Str → Option Value} {base : Heap} {N : List Str} {qual : Str} {scope : Scope} {f : Addr} {cdv : Value} {A : Around} {outer : List PySem.Env} {s : Shared} {H : Hp} {E : XK}
theorem tk_of : Tk (cxOf (L2.CX P w) P w K mg base N qual scope f cdv A outer s H E) (XSof E) := takes_of rfl rfl rfl rfl
theorem pso_of : PassesOwn (model (cxOf (L2.CX P w) P w K mg base N qual scope f cdv A outer s H E).prog (cxOf (L2.CX P w) P w K mg base N qual scope f cdv A outer s H E).w) (cxOf (L2.CX P w) P w K mg base N qual scope f cdv A outer s H E).A (cxOf (L2.CX P w) P w K mg base N qual scope f cdv A outer s H E).env (cxOf (L2.CX P w) P w K mg base N qual scope f cdv A outer s H E).xe := passes_of rfl
end
end Vl
set_option Elab.async false
set_option linter.all false
set_option maxRecDepth 100000
set_option maxHeartbeats 4000000
namespace Vl
open PySem PySem.Spec PyProof.Rows L2 Oc
variable [Ob : Objs]
/-! ### attributes of instances: fields, properties -/
inductive AtK where
  | fld | prop (F : List D → Mo D)
/-- a def that may be called: what it does -/
def VFn (P : Program) (w : World) (K : PySem.W.Frag) (mg : Str → Option Value) (base : Heap) (k : Nat) (f : Addr) (F : List D → Mo D) : Prop :=
  ∃ (fd : FuncData) (ps : List Str), FnOk P w K mg base (L2.CX P w) k f fd ps (spF K F) ∧ Binds K fd ps []
def AtOk (X : Cx) (f C : Str) : AtK → Prop
  | .fld => Cls X.K (He.ga X.K C) ∧ NoAttr X.K (He.ga X.K C) f
  | .prop F => Cls X.K (He.ga X.K C) ∧ ∃ p g k, PropOf X.K (He.ga X.K C) f p g ∧ VFn X.prog X.w X.K X.mg X.base k g F ∧ Room (k + 1) X.A
def AtOks (X : Cx) (f : Str) : List (Str × AtK) → Prop
  | [] => True
  | (C, a) :: r => AtOk X f C a ∧ AtOks X f r
def findC {α : Type} (C : Str) : List (Str × α) → Option α
  | [] => none
  | (B, a) :: r => if C = B then some a else findC C r
theorem AtOks.at_ {X : Cx} {f C : Str} {a : AtK} : ∀ {t : List (Str × AtK)}, AtOks X f t → findC C t = some a → AtOk X f C a
  | [], _, e => by cases e
  | (B, b) :: r, h, e => by
    unfold findC at e
    split at e
    · next eq => cases e; subst eq; exact h.1
    · exact AtOks.at_ h.2 e
def kAt1 (f : Str) (C : Str) (fs : List (Str × D)) : AtK → Mo D
  | .fld => opt (fs.lookup f)
  | .prop F => nox (F [.ins C fs])
def kAttr (f : Str) (t : List (Str × AtK)) : D → Mo D
  | .ins C fs => bnd (opt (findC C t)) (kAt1 f C fs)
  | _ => nop
def kFld (f : Str) (t : List Str) : D → Mo D
  | .ins C fs => grd (t.contains C) (opt (fs.lookup f))
  | _ => nop
section
variable {X : Cx} {O : List Nat} {E : XS} {a e : Expr} {fa : Env → Mo D} {pos : Pos}
theorem wp_none {α : Type} {m : Mo α} {Q : α → Objs.T → Prop} {E : Str → List (Str × D) → Objs.T → Prop} {S : Objs.T} (h : wp (nox m) Q E S) : wp m Q (fun _ _ _ => False) S := wp_nox h
/-- the callee's promise, nothing is raised -/
theorem call_nox {K : PySem.W.Frag} {T : Hp} {ρ : Env} {S : Objs.T} {g : Addr → Nat} {al : List Addr} {σ : L2.St} {H : Hp} {F : List D → Mo D} {us : List V} {xs : List D} {Q : VK} (s : SR K O T ρ S g al σ H) (r : Reps K (reg g H 1) al us xs) (w : Post (RR K) K O E T ρ σ g al H (nox (F xs)) S Q) : spF K F us H Q (fun _ _ _ => False) := by
  have w2 : Post (RR K) K O XS0 T ρ σ g al H (F xs) S Q := wp_mono (wp_none w) (fun _ _ q => q) fun _ _ _ q => q.elim
  exact call_spF s r w2
/-- e.f: a field or a property, by the class -/
theorem ve_attr {f : Str} {t : List (Str × AtK)} (ht : AtOks X f t) (ha : VE X O E a fa) (hb : attributeBase a f X.env (eval a X.env) = eval a X.env := by rfl) : VE X O E (.Attribute a f pos) (f1 fa (kAttr f t)) := by
  refine ⟨fun pins s σ H Q I ⟨T, ρ, S, g, al, sr, w⟩ => ?_⟩
  refine attr_of hb (thn (ha.run pins s σ H (fun v H1 => ∃ c fs, ∃ x dx vs at_, v = .ref x ∧ H1 x = some (.ins (He.ga X.K c) dx vs) ∧ findC c t = some at_ ∧
    match at_ with | .fld => ∃ u, vs.lookup f = some u ∧ Q u H1 | .prop F => (spF X.K F [.ref x] H1 Q fun _ _ _ => False) ∧ fs = ([] : List D)) I
    ⟨T, ρ, S, g, al, sr, w.bn fun v d S1 g1 al1 H1 s1 l1 r1 w1 => ?_⟩) fun u s1 ⟨x, H1, I1, r1, q⟩ => ?_)
  · unfold kAttr at w1
    split at w1
    · next C fs =>
      rw [bnd_opt] at w1
      split at w1
      · next at_ e =>
        have rr := r1
        cases r1 with | ins h1 h2 =>
        refine ⟨C, [], _, _, _, at_, rfl, reg_le _ _ h1, e, ?_⟩
        cases at_ with
        | fld =>
          obtain ⟨d, e2, w2⟩ := Post.op w1
          have hl := h2.lookup (x := f)
          rw [e2] at hl
          obtain ⟨u, q1, q2⟩ := hl
          exact ⟨u, q1, w2.rt' s1 q2⟩
        | prop F => exact ⟨call_nox s1 (Reps.one rr) w1, rfl⟩
      · exact w1.elim
    · exact w1.elim
  · obtain ⟨c, fs, y, dx, vs, at_, ev, hy, hf, q⟩ := q
    subst ev
    have eu : u = Value.ref y := r1
    subst eu
    have ok := ht.at_ hf
    cases at_ with
    | fld =>
      obtain ⟨z, hz, q⟩ := q
      exact getattr_ok I1 hy ok.1 ok.2 hz fun u' s2 I2 ru => ⟨z, H1, I2, ru, q⟩
    | prop F =>
      obtain ⟨cl, p, gg, k, hp, ⟨fd, ps, Fn, b⟩, hr⟩ := ok
      exact getprop_ok (dvs := []) (ds := []) I1 hy cl hp Fn hr b .nil (passes_call (X := X.nox) takes0 fun _ _ _ _ h => h) q.1
theorem ve_fldq {f : Str} {t : List Str} (ht : ∀ C ∈ t, Cls X.K (He.ga X.K C) ∧ NoAttr X.K (He.ga X.K C) f) (ha : VQ X O E a fa) (hb : attributeBase a f X.env (eval a X.env) = eval a X.env := by rfl) : VE X O E (.Attribute a f pos) (f1 fa (kFld f t)) :=
  PE.weak (pe_fld ha hb) fun σ H Q ⟨T, ρ, S, g, al, s, w⟩ => ⟨T, ρ, S, g, al, s, w.bn fun v d S1 g1 al1 H1 s1 l1 r1 w1 => by
    unfold kFld at w1
    split at w1
    · next C fs =>
      obtain ⟨c, w1⟩ := w1.gd
      obtain ⟨d, e, w1⟩ := Post.op w1
      obtain ⟨x, dx, vs, rfl, hx, hl⟩ := r1.ins
      have hl := hl f
      rw [e] at hl
      obtain ⟨u, q1, q2⟩ := hl
      have ok := ht C (by simpa using c)
      exact ⟨x, _, dx, vs, u, rfl, hx, ok.1, ok.2, q1, w1.rt' s1 q2⟩
    · exact w1.elim⟩
end
/-! ### methods -/
def MtOk (X : Cx) (k : Nat) (m C : Str) (F : List D → Mo D) : Prop := Cls X.K (He.ga X.K C) ∧ ∃ f, Meth X.K (He.ga X.K C) m f ∧ VFn X.prog X.w X.K X.mg X.base k f F
def MtOks (X : Cx) (k : Nat) (m : Str) : List (Str × (List D → Mo D)) → Prop
  | [] => True
  | (C, F) :: r => MtOk X k m C F ∧ MtOks X k m r
theorem MtOks.at_ {X : Cx} {k : Nat} {m C : Str} {F : List D → Mo D} : ∀ {t : List (Str × (List D → Mo D))}, MtOks X k m t → findC C t = some F → MtOk X k m C F
  | [], _, e => by cases e
  | (B, b) :: r, h, e => by
    unfold findC at e
    split at e
    · next eq => cases e; subst eq; exact h.1
    · exact MtOks.at_ h.2 e
/-- a method found -/
def mtD (m : Str) (t : List (Str × (List D → Mo D))) : D → Option (List D → Mo D)
  | .ins C fs => if (fs.lookup m).isNone = true then findC C t else none
  | _ => none
def fMt (m : Str) (t : List (Str × (List D → Mo D))) (fa : Env → Mo D) (fl : Env → Mo (List D)) : Env → Mo D := fun ρ => bnd (fa ρ) fun x => bnd (opt (mtD m t x)) fun F => bnd (fl ρ) fun xs => F (x :: xs)
section
variable {X : Cx} {O : List Nat} {E : XS} {a e : Expr} {es : List Expr} {fa : Env → Mo D} {fl : Env → Mo (List D)} {pos apos : Pos}
theorem run_vfn {pins : List (Addr × Obj)} {σ : L2.St} {H : Hp} {s : Shared} {Q : VK} {us : List Value} {vs : List V} {k : Nat} {f : Addr} {F : List D → Mo D} (Fn : VFn X.prog X.w X.K X.mg X.base k f F) (hr : Room k X.A) (tk : Tk X E) (I : Inv X pins σ H s) (r : Vals vs us) (h : spF X.K F vs H Q (E σ)) :
    wpAny (model X.prog X.w) X.A (call (.ref f) us) (EP X pins σ Q) X.xe s := by
  obtain ⟨fd, ps, G, b⟩ := Fn
  exact run_fnS (E := E) G hr b (passAt tk σ) I r h
theorem meth_lift {m : Str} {t : List (Str × (List D → Mo D))} {k : Nat} (ht : MtOks X k m t) {σ : L2.St} {H : Hp} {Q : VK} (h : lift (RR X.K) X.K O E (fMt m t fa fl) σ H Q) :
    lift (RR X.K) X.K O E fa σ H fun v H1 => ∃ x C dx vs F, v = .ref x ∧ H1 x = some (.ins (He.ga X.K C) dx vs) ∧ vs.lookup m = none ∧ MtOk X k m C F ∧ lift (RRs X.K) X.K O E fl σ H1 fun us H2 => spF X.K F (.ref x :: us) H2 Q (E σ) := by
  obtain ⟨T, ρ, S, g, al, s, w⟩ := h
  refine ⟨T, ρ, S, g, al, s, w.bn fun v d S1 g1 al1 H1 s1 l1 r1 w1 => ?_⟩
  rw [bnd_opt] at w1
  split at w1
  · next F e =>
    cases d <;> first | cases e | skip
    rename_i C fs
    have e' : (if (fs.lookup m).isNone = true then findC C t else none) = some F := e
    split at e'
    · next hn =>
      have rr := r1
      cases r1 with | ins h1 h2 =>
      have hl := h2.lookup (x := m)
      rw [Option.isNone_iff_eq_none.mp hn] at hl
      refine ⟨_, C, _, _, F, rfl, reg_le _ _ h1, hl, ht.at_ e', T, ρ, S1, g1, al1, s1, w1.bn fun us ds S2 g2 al2 H2 s2 l2 r2 w2 => ?_⟩
      exact call_spF s2 (.cons (rr.mono l2.s l2.p) r2) w2
    · cases e'
  · exact w1.elim
/-- e.m(x, ..) -/
theorem ve_meth {m : Str} {t : List (Str × (List D → Mo D))} {k : Nat} {pl : Sem Bool} (ht : MtOks X k m t) (hr : Room k X.A) (tk : Tk X E) (ha : VE X O E a fa) (hl : VA X O E (e :: es) fl)
    (hst : starEach (e :: es) X.env = (false, eval e X.env) :: starEach es X.env := by rfl) (hpl : (backTo pos (starEach es X.env)).any (·.1) = false := by rfl)
    (hv : eval (.Call (.Attribute a m apos) (e :: es) [] pos) X.env = (eval a X.env >>= fun ov => standAt apos.atName >>= fun _ => holding [ov] (getMethod ov m pl) >>= fun p => callWith pos p.1 p.2 (backTo pos (starEach (e :: es) X.env)) (backToKw pos (keywordEach [] X.env))) := by rfl) :
    VE X O E (.Call (.Attribute a m apos) (e :: es) [] pos) (fMt m t fa fl) := by
  refine ⟨fun pins s σ H Q I h => PySem.W.methodCall_KW (pl := pl) (thn (ha.run pins s σ H _ I (meth_lift ht h)) fun u s1 ⟨v, H1, I1, rx, x, C, dx, vs, F, ev, hx, hl1, ok, q⟩ => ?_) hv⟩
  subst ev
  have eu : u = Value.ref x := rx
  subst eu
  obtain ⟨cl, f, hm, Fn⟩ := ok
  refine getmeth_ok I1 hx cl hm hl1 (PySem.W.callWith_K (first := [.ref x]) (h₀ := X.base) I.ok.mod.kin hm.kp (thn (hl.run pos pins s1 σ H1 _ I1 q) fun us s2 ⟨ws, H2, I2, r, q2⟩ => ⟨I2.kIn, ?_⟩) hst hpl)
  exact run_vfn (us := .ref x :: us) (vs := .ref x :: ws) Fn hr tk I2 (.cons rfl r) q2
/-- e.m() -/
theorem ve_meth0 {m : Str} {t : List (Str × (List D → Mo D))} {k : Nat} {pl : Sem Bool} (ht : MtOks X k m t) (hr : Room k X.A) (tk : Tk X E) (ha : VE X O E a fa)
    (hv : eval (.Call (.Attribute a m apos) [] [] pos) X.env = (eval a X.env >>= fun ov => standAt apos.atName >>= fun _ => holding [ov] (getMethod ov m pl) >>= fun p => callWith pos p.1 p.2 (backTo pos (starEach [] X.env)) (backToKw pos (keywordEach [] X.env))) := by rfl) :
    VE X O E (.Call (.Attribute a m apos) [] [] pos) (fMt m t fa fNil) := by
  refine ⟨fun pins s σ H Q I h => PySem.W.methodCall_KW (pl := pl) (thn (ha.run pins s σ H _ I (meth_lift ht h)) fun u s1 ⟨v, H1, I1, rx, x, C, dx, vs, F, ev, hx, hl1, ok, q⟩ => ?_) hv⟩
  subst ev
  have eu : u = Value.ref x := rx
  subst eu
  obtain ⟨cl, f, hm, Fn⟩ := ok
  obtain ⟨T, ρ, S, g, al, sr, w⟩ := q
  have q2 : spF X.K F [.ref x] H1 Q (E σ) := w [] g al H1 sr .refl .nil
  exact getmeth_ok I1 hx cl hm hl1 (PySem.W.callWith_K0 (first := [.ref x]) I1.kIn hm.kp (run_vfn (us := [.ref x]) (vs := [.ref x]) Fn hr tk I1 (.cons rfl .nil) q2))
end
end Vl
set_option Elab.async false
set_option linter.all false
set_option maxRecDepth 100000
set_option maxHeartbeats 4000000
namespace Vl
open PySem PySem.Spec PyProof.Rows L2 Oc
variable [Ob : Objs]
/-! ### making an instance -/
/-- __init__: it does F, the fields that it leaves -/
def spI (K : PySem.W.Frag) (C : Str) (F : List D → Mo D) : Sp := fun vs H Q E => ∃ (x dx : Addr) (us : List V) (T : Hp) (ds : List D) (S : Objs.T) (g : Addr → Nat) (al : List Addr), vs = .ref x :: us ∧ SR K [] T [] S g al [] H ∧ g x = 4 ∧ al[0]? = some x ∧ H x = some (.ins (He.ga K C) dx []) ∧ Reps K (reg g H 1) al us ds ∧
  wp (F ds) (fun d S' => ∀ g' al' H', SR K [] T [] S' g' al' [] H' → Lw g al H g' al' H' → Rep K (reg g' H' 1) al' (.ref x) d → Q .non H')
    (fun C fs S' => ∀ g' al' H' dx, SR K [] T [] S' g' al' [] H' → Lw g al H g' al' H' → ExF K (reg g' H' 1) al' fs dx → E (.ref (He.ga K C)) dx H') S
def insD : Option D → Mo D
  | some (.ins B fs) => ret (.ins B fs)
  | _ => nop
def endI (r : Fl × Env) : Mo D := match r.1 with
  | .nx => insD (r.2[0]?).join
  | _ => nop
def fnI (C : Str) (k n : Nat) (m : MoS) : List D → Mo D := fun ds => if ds.length + 1 = k then bnd (m (startD n (.ins C [] :: ds))) endI else nop
section
variable {K : PySem.W.Frag} {T : Hp} {S : Objs.T} {g : Addr → Nat} {al : List Addr} {H : Hp} {p : Addr} {o : HO}
/-- what was nobody's but one's own is given to all -/
theorem SR.pub (h : SR K [] T [] S g al [] H) (e : reg g H 4 p = some o) : SR K [] T [] S (put g p 1) al [] H ∧ Lw g al H (put g p 1) al H ∧ reg (put g p 1) H 1 p = some o := by
  have t : g p = 4 := reg_tag e
  have hp : H p = some o := reg_le _ _ e
  have e1 : reg (put g p 1) H 1 = upd (reg g H 1) p o := by
    funext b
    unfold reg put
    by_cases hb : b = p
    · rw [if_pos hb, if_pos rfl, hb, upd_same, hp]
    · rw [if_neg hb, upd_ne hb]
  have en : ∀ m, m ≠ 1 → m ≠ 4 → reg (put g p 1) H m = reg g H m := fun m m1 m4 => by
    funext b
    unfold reg put
    by_cases hb : b = p
    · rw [if_pos hb, if_neg (Ne.symm m1), hb, if_neg (by rw [t]; exact Ne.symm m4)]
    · rw [if_neg hb]
  have n1 : reg g H 1 p = none := by
    unfold reg
    rw [if_neg (by rw [t]; decide)]
  have le : Lw g al H (put g p 1) al H := ⟨.of (by rw [e1]; exact Same.alloc n1), List.prefix_rfl⟩
  exact ⟨⟨rfl, by rw [en 3 (by decide) (by decide)]; exact h.fr, by rw [en 2 (by decide) (by decide)]; exact Objs.mono h.ob le.s, fun i d e _ => by simp at e, fun i d e _ => by simp at e⟩, le, by rw [e1, upd_same]⟩
theorem SR.lay4 (h : SR K [] T [] S g al [] H) (n : H p = none) : SR K [] T [] S (put g p 4) al [] (upd H p o) :=
  ⟨rfl, by rw [reg_put_ne (m := 3) n (by decide)]; exact h.fr, by rw [reg_put_ne (m := 1) n (by decide), reg_put_ne (m := 2) n (by decide)]; exact h.ob, fun i d e _ => by simp at e, fun i d e _ => by simp at e⟩
theorem SR.head {s s' : Addr} {t : List Addr} (h : SR K [] T [] S g (s :: t) [] H) : SR K [] T [] S g (s' :: t) [] H := ⟨rfl, h.fr, Objs.head h.ob, fun i d e _ => by simp at e, fun i d e _ => by simp at e⟩
end
section
variable {P : Program} {w : World} {K : PySem.W.Frag} {mg : Str → Option Value} {base : Heap}
theorem startI {T : Hp} {S : Objs.T} {g : Addr → Nat} {al : List Addr} {H : Hp} {us : List V} {ds : List D} {N : List Str} {x dx : Addr} {C : Str} (h : SR K [] T [] S g al [] H) (hg : g x = 4) (ha : al[0]? = some x) (hx : H x = some (.ins (He.ga K C) dx [])) (r : Reps K (reg g H 1) al us ds) :
    SR K [0] T (startD N.length (.ins C [] :: ds)) S g al (start N (.ref x :: us)) H := by
  have len : (start N (.ref x :: us)).length = (startD N.length (.ins C [] :: ds)).length := by
    unfold L2.start startD
    rw [List.length_append, List.length_append, List.length_map, List.length_map, List.length_replicate, List.length_replicate, List.length_cons, List.length_cons, r.len]
  refine ⟨len, h.fr, h.ob, fun i d e n => ?_, fun i d e n => ?_⟩
  · have hi : i ≠ 0 := by simpa using n
    obtain ⟨j, rfl⟩ := Nat.exists_eq_succ_of_ne_zero hi
    unfold startD at e
    unfold L2.start
    by_cases hj : j < ds.length
    · rw [List.getElem?_append_left (by simpa using hj), List.getElem?_map, List.getElem?_cons_succ] at e
      cases q : ds[j]? with
      | none => rw [q] at e; cases e
      | some d' =>
        rw [q] at e
        cases e
        obtain ⟨v, hv, rv⟩ := r.get q
        exact ⟨v, by rw [List.getElem?_append_left (by rw [List.length_map, List.length_cons, r.len]; omega), List.getElem?_map, List.getElem?_cons_succ, hv]; rfl, rv⟩
    · rw [List.getElem?_append_right (by simp; omega), List.getElem?_replicate] at e
      split at e <;> cases e
  · have hi : i = 0 := by simpa using n
    subst hi
    have e' : d = .ins C [] := by
      unfold startD at e
      rw [List.map_cons, List.cons_append, List.getElem?_cons_zero] at e
      cases e
      rfl
    subst e'
    refine ⟨x, _, ?_, reg_at hx hg, .self ha .nil, fun j hj ne _ _ => absurd (by simpa using hj) ne⟩
    unfold L2.start
    rw [List.map_cons, List.cons_append, List.getElem?_cons_zero]
/-- the rule for __init__ -/
theorem fn_vi {C : Str} {qual : Str} {x : Str} {params : Arguments} {body : List Stmt} {scope : Scope} {f : Addr} {fd : FuncData} {N ps : List Str} {k : Nat} {O' : List Nat} {m : MoS} {kws : List (Str × V)} (F : FunD K x qual params body scope [] kws f fd) (S : FnScope N ps scope) (h0 : 0 ∈ O')
    (hbody : ∀ (cdv : Value) (A : Around) (outer : List PySem.Env) (s : Shared) (H : Hp) (E : XK), Room k (A.deeper (envOfC qual scope s.heap.objs.size f cdv)) →
      VB (cxOf (L2.CX P w) P w K mg base N qual scope f cdv A outer s H E) [0] O' [] (XSof E) body m) : FnOk P w K mg base (L2.CX P w) (k + 1) f fd ps (spI K C (fnI C ps.length N.length m)) := by
  refine FunD.ok F S (fun vs H Q E h => ?_) (fun cdv A outer s H vs Q E hr h => ?_)
  · obtain ⟨x, dx, us, T, ds, S, g, al, rfl, s, hg, ha, hx, r, w⟩ := h
    unfold fnI at w
    split at w
    · next e => rw [List.length_cons, r.len]; exact e
    · exact w.elim
  · obtain ⟨x, dx, us, T, ds, S0, g, al, rfl, sr, hg, ha, hx, r, w⟩ := h
    refine ⟨_, hbody cdv A outer s H E hr, T, startD N.length (.ins C [] :: ds), S0, g, al, startI sr hg ha hx r, ?_⟩
    unfold fnI at w
    split at w
    · rw [wp_bnd] at w
      refine wp_mono w (fun rr S1 w1 => ?_) fun C fs S1 q σ' g' al' H' dx s l x => q g' al' H' dx s l x
      obtain ⟨fl, ρ1⟩ := rr
      cases fl with
      | nx =>
        intro σ' g' al' H' s' l
        have w1 : wp (insD (ρ1[0]?).join) _ _ S1 := w1
        unfold insD at w1
        split at w1
        · next B fs e =>
          obtain ⟨a, o, q1, q2, q3, q4⟩ := s'.ow 0 _ (join_get e) h0
          cases q3 with
          | self ea er =>
            have exa : al'[0]? = some x := pre_get l.p ha
            rw [ea] at exa
            cases exa
            obtain ⟨s2, l2, e2⟩ := s'.base.pub q2
            exact w1 _ al' H' s2 (l.trans l2) (.ins e2 (er.mono l2.s l2.p))
        · exact w1.elim
      | rt d => exact w1.elim
      | bk => exact w1.elim
      | ct => exact w1.elim
    · exact w.elim
end
/-- f may be called to make one of class C: it does F -/
def VIn (P : Program) (w : World) (K : PySem.W.Frag) (mg : Str → Option Value) (base : Heap) (k : Nat) (C : Str) (F : List D → Mo D) : Prop :=
  ∃ f, Mk K (He.ga K C) f ∧ FnR P w K mg base (L2.CX P w) k f (spI K C F)
section
variable {X : Cx} {O : List Nat} {E : XS} {a e : Expr} {es : List Expr} {fa : Env → Mo D} {fl : Env → Mo (List D)} {pos apos : Pos}
theorem make_spI {K : PySem.W.Frag} {T : Hp} {ρ : Env} {S : Objs.T} {g : Addr → Nat} {al : List Addr} {σ : L2.St} {H : Hp} {C : Str} {F : List D → Mo D} {us : List V} {xs : List D} {Q : VK} {x dx : Addr} (s : SR K O T ρ S g al σ H) (r : Reps K (reg g H 1) al us xs) (w : Post (RR K) K O E T ρ σ g al H (F xs) S Q)
    (nx : H x = none) (nd : H dx = none) (ne : dx ≠ x) : spI K C F (.ref x :: us) (upd (upd H dx (.own x)) x (.ins (He.ga K C) dx [])) (fun v H2 => v = .non ∧ Q (.ref x) H2) (E σ) := by
  obtain ⟨s1, _⟩ := s.call
  have s2 := s1.aside (o := .own x) nd
  have nx2 : upd H dx (.own x) x = none := by rw [upd_ne (Ne.symm ne)]; exact nx
  have s3 := s2.lay4 (o := .ins (He.ga K C) dx []) nx2
  obtain ⟨hd, tl, rfl⟩ := Objs.ne s.ob
  have e1 : reg (put (put (dn g) dx 3) x 4) (upd (upd H dx (.own x)) x (.ins (He.ga K C) dx [])) 1 = reg g H 1 := by
    rw [reg_put_ne (m := 1) nx2 (by decide), reg_put_ne (m := 1) nd (by decide), reg_dn (by decide) (by decide)]
  have hT : reg (dn g) H 3 dx = none := reg_none nd
  have back : ∀ {S' : Objs.T} {g' : Addr → Nat} {al' : List Addr} {H' : Hp}, SR K [] (upd (reg (dn g) H 3) dx (.own x)) [] S' g' al' [] H' → Lw (put (put (dn g) dx 3) x 4) (x :: tl) (upd (upd H dx (.own x)) x (.ins (He.ga K C) dx [])) g' al' H' →
      ∃ g2 al2, SR K O T ρ S' g2 al2 σ H' ∧ Le g (hd :: tl) H g2 al2 H' ∧ reg g2 H' 1 = reg g' H' 1 ∧ ∃ t, al' = x :: t ∧ al2 = hd :: t := by
    intro S' g' al' H' s' l
    obtain ⟨q, eq⟩ := l.p
    have eq' : al' = x :: (tl ++ q) := eq.symm
    subst eq'
    have s4 : SR K [] (upd (reg (dn g) H 3) dx (.own x)) [] S' g' (hd :: (tl ++ q)) [] H' := s'.head
    obtain ⟨s5, l5⟩ := s4.forget hT
    have e5 : reg (put g' dx 5) H' 1 = reg g' H' 1 := by
      have t3 : g' dx = 3 := reg_tag s4.asideAt
      funext b
      unfold reg put
      by_cases hb : b = dx
      · rw [if_pos hb, if_neg (by decide), hb, if_neg (by rw [t3]; decide)]
      · rw [if_neg hb]
    have l6 : Lw (dn g) (hd :: tl) H (put g' dx 5) (hd :: (tl ++ q)) H' := ⟨by
      rw [e5, reg_dn (by decide) (by decide)]
      have z := l.s
      rw [e1] at z
      exact z, ⟨q, rfl⟩⟩
    obtain ⟨s7, l7, e7⟩ := s.ret s5 l6
    exact ⟨_, _, s7, l7, by rw [e7, e5], _, rfl, rfl⟩
  refine ⟨x, dx, us, _, xs, S, put (put (dn g) dx 3) x 4, x :: tl, rfl, s3.head, by unfold put; rw [if_pos rfl], rfl, upd_same, ?_, wp_mono w (fun d S' k g' al' H' s' l r' => ?_) fun C fs S' k g' al' H' dx' s' l x' => ?_⟩
  · rw [e1]
    exact r.head
  · obtain ⟨g2, al2, s2, l2, e2, t, rfl, rfl⟩ := back s' l
    exact ⟨rfl, k _ g2 _ H' s2 l2 (by show Rep _ _ _ _ _; rw [e2]; exact r'.head)⟩
  · obtain ⟨g2, al2, s2, l2, e2, t, rfl, rfl⟩ := back s' l
    refine k g2 _ H' dx' s2 l2 ?_
    cases dx' with
    | none => exact x'
    | some y =>
      obtain ⟨vs, q1, q2⟩ := x'
      exact ⟨vs, by rw [e2]; exact q1, by rw [e2]; exact q2.head⟩
theorem run_vin {pins : List (Addr × Obj)} {σ : L2.St} {H : Hp} {s : Shared} {Q : VK} {us : List Value} {vs : List V} {k : Nat} {C f : Addr} {sp : Sp} (M : Mk X.K C f) (F : FnR X.prog X.w X.K X.mg X.base (L2.CX X.prog X.w) k f sp) (hr : Room (k + 1) X.A) (tk : Tk X E) (I : Inv X pins σ H s) (r : Vals vs us)
    (h : ∀ x dx, H x = none → H dx = none → dx ≠ x → sp (V.ref x :: vs) (upd (upd H dx (.own x)) x (.ins C dx [])) (fun v H2 => v = .non ∧ Q (.ref x) H2) (E σ)) : wpAny (model X.prog X.w) X.A (call (.ref C) us) (EP X pins σ Q) X.xe s := by
  let n := s.heap.objs.size
  have q := h (n + 1) n (I.hok.fresh (Nat.le_succ _)) (I.hok.fresh (Nat.le_refl _)) (Nat.ne_of_lt (Nat.lt_succ_self _))
  have J := Inv.made (C := C) I
  refine wpAny_call (make_map (f := f) I.kIn M.makes M.init (beq_iff_eq.mp M.fn) (codeAny_mono (F _ X.stack _ _ (Value.ref (n + 1) :: us) (V.ref (n + 1) :: vs) _ (E σ) (hr.make C us []) (J.env0.make C us []) (.cons rfl r) q) fun z s' hz => ?_))
  match z, hz with
  | .error e, hz => exact passAt tk σ pins _ _ e s' J hz
  | .ok (.ret u), hz =>
    obtain ⟨v, H', J2, rv, ev, q3⟩ := J.after hz
    subst ev
    exact ⟨rv, ⟨V.ref (n + 1), H', J2, rfl, q3⟩⟩
  | .ok .next, hz => exact hz.elim
  | .ok .brk, hz => exact hz.elim
  | .ok .cont, hz => exact hz.elim
/-- C(x, ..) -/
theorem ve_make {C : Str} {k : Nat} {F : List D → Mo D} {p : Pos} (V : VIn X.prog X.w X.K X.mg X.base k C F) (hr : Room (k + 1) X.A) (tk : Tk X E) (hg : Gl X C) (hm : X.mg C = some (.ref (He.ga X.K C))) (ha : VA X O E (e :: es) fl)
    (hdb : (C == ("__debug__" : Str)) = false := by decide) (he : starEach (e :: es) X.env = (false, eval e X.env) :: starEach es X.env := by rfl) (hpl : (backTo pos (starEach es X.env)).any (·.1) = false := by rfl) : VE X O E (.Call (.Name C p) (e :: es) [] pos) (fN fl F) := by
  obtain ⟨f, M, Fn⟩ := V
  refine ⟨fun pins s σ H Q I ⟨T, ρ, S, g, al, sr, w⟩ => wpAny_Call_Name_kw (ld_glob I hg hm (PySem.W.callWith_K (h₀ := X.base) I.ok.mod.kin M.kp (thn (ha.run pos pins s σ H (fun us H1 => ∀ x dx, H1 x = none → H1 dx = none → dx ≠ x → spI X.K C F (V.ref x :: us) (upd (upd H1 dx (.own x)) x (.ins (He.ga X.K C) dx [])) (fun v H2 => v = .non ∧ Q (.ref x) H2) (E σ)) I
    ⟨T, ρ, S, g, al, sr, w.bn fun us ds S1 g1 al1 H1 s1 l1 r1 w1 => fun x dx nx nd ne => make_spI s1 r1 w1 nx nd ne⟩) fun us s1 ⟨vs, H1, I1, r, q⟩ => ⟨I1.kIn, run_vin M Fn hr tk I1 r q⟩) he hpl) hdb)⟩
end
end Vl
set_option Elab.async false
set_option linter.all false
set_option maxRecDepth 100000
set_option maxHeartbeats 4000000
namespace Vl
open PySem PySem.Spec PyProof.Rows L2 Oc StX
variable [Ob : Objs]
section
variable {P : Program} {w : World} {K : PySem.W.Frag} {mg : Str → Option Value} {base : Heap}
/-- the body of __init__, from what is asked of it -/
theorem init_go {C : Str} {qual : Str} {body : List Stmt} {scope : Scope} {f : Addr} {N : List Str} {n : Nat} {O' : List Nat} {m : MoS} {cdv : Value} {A : Around} {outer : List PySem.Env} {s : Shared} {H : Hp} {Q : VK} {E : XK} {vs : List V} (h0 : 0 ∈ O')
    (hb : VB (cxOf (L2.CX P w) P w K mg base N qual scope f cdv A outer s H E) [0] O' [] (XSof E) body m) (h : spI K C (fnI C n N.length m) vs H Q E) :
    ∃ t, PSs (cxOf (L2.CX P w) P w K mg base N qual scope f cdv A outer s H E) body t ∧ t { nx := fun _ H' => Q .non H', rt := Q } (start N vs) H := by
  obtain ⟨x, dx, us, T, ds, S0, g, al, rfl, sr, hg, ha, hx, r, w⟩ := h
  refine ⟨_, hb, T, startD N.length (.ins C [] :: ds), S0, g, al, startI sr hg ha hx r, ?_⟩
  unfold fnI at w
  split at w
  · rw [wp_bnd] at w
    refine wp_mono w (fun rr S1 w1 => ?_) fun C fs S1 q σ' g' al' H' dx s l x => q g' al' H' dx s l x
    obtain ⟨fl, ρ1⟩ := rr
    cases fl with
    | nx =>
      intro σ' g' al' H' s' l
      have w1 : wp (insD (ρ1[0]?).join) _ _ S1 := w1
      unfold insD at w1
      split at w1
      · next B fs e =>
        obtain ⟨a, o, q1, q2, q3, q4⟩ := s'.ow 0 _ (join_get e) h0
        cases q3 with
        | self ea er =>
          have exa : al'[0]? = some x := pre_get l.p ha
          rw [ea] at exa
          cases exa
          obtain ⟨s2, l2, e2⟩ := s'.base.pub q2
          exact w1 _ al' H' s2 (l.trans l2) (.ins e2 (er.mono l2.s l2.p))
      · exact w1.elim
    | rt d => exact w1.elim
    | bk => exact w1.elim
    | ct => exact w1.elim
  · exact w.elim
def starI (n : Nat) (F : List D → Mo D) : List D → Mo D := fun ds => grd (decide (n ≤ ds.length) && decide (ds.length ≤ LIM)) (F (ds.take n ++ [.tup (ds.drop n)]))
/-- def __init__(self, a, .., *v) -/
theorem fn_vis {C : Str} {x pv : Str} {qual : Str} {params : Arguments} {body : List Stmt} {scope : Scope} {f : Addr} {fd : FuncData} {N ps : List Str} {k n : Nat} {O' : List Nat} {m : MoS} (F : FunD K x qual params body scope [] [] f fd) (S : FnScope N (ps ++ [pv]) scope) (hn : ps.length = n + 1) (h0 : 0 ∈ O')
    (hbind : ∀ (kV doc pm cdv ct : Value) (an : Option Addr) (us rest : List Value), us.length = ps.length → bindArgs (PySem.W.fnOf x qual params body scope .none kV doc pm an cdv ct) ⟨us ++ rest, []⟩ = (newTuple rest >>= fun t => pure (ps.zip us ++ [(pv, t)])))
    (hbody : ∀ (cdv : Value) (A : Around) (outer : List PySem.Env) (s : Shared) (H : Hp) (E : XK), Room k (A.deeper (envOfC qual scope s.heap.objs.size f cdv)) →
      VB (cxOf (L2.CX P w) P w K mg base N qual scope f cdv A outer s H E) [0] O' [] (XSof E) body m) : FnR P w K mg base (L2.CX P w) (k + 1) f (spI K C (starI n (fnI C (n + 2) N.length m))) := by
  obtain ⟨oc, od, dV, kV, doc, pm, an, cdv, ct, osl, rfl, lk, hcd, hD, _⟩ := F.ex
  rcases hD with ⟨_, rfl⟩ | ⟨e, _⟩
  · refine (fn_star lk hcd S cxUp (hbind kV doc pm cdv ct an) (sp := spI K C (fnI C (n + 2) N.length m)) fun A outer s H vs Q E hr h => init_go h0 (hbody cdv A outer s H E hr) h).imp fun vs H Q E h => ?_
    obtain ⟨x, dx, us, T, ds, S0, g, al, rfl, sr, hg, ha, hx, r, w⟩ := h
    obtain ⟨c, w⟩ := wp_grd.mp w
    simp only [Bool.and_eq_true, decide_eq_true_eq] at c
    refine ⟨.ref x :: us.take n, us.drop n, by rw [List.cons_append, List.take_append_drop], by rw [List.length_cons, List.length_take, hn, r.len]; omega, ?_, fun p np => ?_⟩
    · rw [List.length_drop, r.len]
      exact Nat.le_trans (Nat.sub_le _ _) (lim c.2)
    · have hxp : x ≠ p := ne_of_none hx np
      refine ⟨x, dx, us.take n ++ [.ref p], T, ds.take n ++ [.tup (ds.drop n)], S0, put g p 1, al, rfl, sr.alloc np, by unfold put; rw [if_neg hxp]; exact hg, ha, by rw [upd_ne hxp]; exact hx, ?_, ?_⟩
      · have l := Le.alloc (al := al) (g := g) (o := .tup (us.drop n)) np
        exact ((r.take n).mono l.s l.p).append (Reps.one (.tup (.inl (.inl (alloc_at np))) ((r.drop n).mono l.s l.p)))
      · have l := (Le.alloc (al := al) (g := g) (o := .tup (us.drop n)) np).w
        exact wp_mono w (fun d S' k g' al' H' s' l' => k g' al' H' s' (l.trans l')) fun C fs S' k g' al' H' dx s' l' => k g' al' H' dx s' (l.trans l')
  · simp at e
/-- without a star -/
theorem VIn.of {k : Nat} {C : Str} {G : List D → Mo D} {f : Addr} {fd : FuncData} {ps : List Str} (M : Mk K (He.ga K C) f) (F : FnOk P w K mg base (L2.CX P w) k f fd ps (spI K C G)) (b : Binds K fd ps []) : VIn P w K mg base k C G :=
  ⟨f, M, (F.raw b .nil).imp fun vs H Q E h => by rw [List.append_nil]; exact h⟩
theorem VIn.mk {k : Nat} {C : Str} {G : List D → Mo D} {f : Addr} (M : Mk K (He.ga K C) f) (F : FnR P w K mg base (L2.CX P w) k f (spI K C G)) : VIn P w K mg base k C G := ⟨f, M, F⟩
end
/-! ### the fields of the instance under construction -/
def putD (f : Str) (d : D) : List (Str × D) → List (Str × D)
  | [] => [(f, d)]
  | (g, x) :: r => if g = f then (g, d) :: r else (g, x) :: putD f d r
theorem RepFs.put {K : PySem.W.Frag} {I : Hp} {al : List Addr} {f : Str} {v : V} {d : D} (r : Rep K I al v d) : ∀ {vs : List (Str × V)} {fs : List (Str × D)}, RepFs K I al vs fs → RepFs K I al (putF f v vs) (putD f d fs)
  | _, _, .nil => .cons r .nil
  | _, _, .cons (k := g) r2 t => by
    unfold putF putD
    by_cases e : g = f
    · rw [if_pos e, if_pos e]; exact .cons r t
    · rw [if_neg e, if_neg e]; exact .cons r2 (RepFs.put r t)
theorem RepFs.len {K : PySem.W.Frag} {I : Hp} {al : List Addr} : ∀ {vs : List (Str × V)} {fs : List (Str × D)}, RepFs K I al vs fs → vs.length = fs.length
  | _, _, .nil => rfl
  | _, _, .cons _ t => by rw [List.length_cons, List.length_cons, RepFs.len t]
def fldD (i : Nat) (f : Str) (t : List Str) (ρ : Env) (d : D) : Option D → Mo (Fl × Env)
  | some (.ins C fs) => grd (t.contains C && decide (fs.length < 1000)) (ret (.nx, ρ.set i (some (.ins C (putD f d fs)))))
  | _ => nop
def sFldS (i : Nat) (f : Str) (t : List Str) (fe : Env → Mo D) : MoS := fun ρ => bnd (fe ρ) fun d => fldD i f t ρ d (ρ[i]?).join
section
variable {X : Cx} {O : List Nat} {E : XS} {a e : Expr} {es : List Expr} {fa fe : Env → Mo D} {fl : Env → Mo (List D)} {pos apos : Pos}
theorem vs_fld {i : Nat} {y f : Str} {t : List Str} {py p' : Pos} {OL : List Nat} (fE : Flat E) (hi : i ∈ O) (ht : ∀ C ∈ t, Cls X.K (He.ga X.K C) ∧ NoAttr X.K (He.ga X.K C) f) (hv : PE X (.Name y py) (tVar i)) (he : VE X O E e fe) (hs : swapsWith e (some (.Attribute (.Name y py) f p')) pos.line X.env = pure false := by rfl) :
    VS X O O OL E (.Assign [.Attribute (.Name y py) f p'] e pos) (sFldS i f t fe) := PS.weak (ps_fld hv he hs) fun Dn σ H ⟨T, ρ, S, g, al, s, w⟩ => ⟨T, ρ, S, g, al, s, PostS.bn fE w fun v d S1 g1 al1 H1 s1 l1 r1 w1 => by
  unfold fldD at w1
  split at w1
  · next C fs ej =>
    obtain ⟨c, w1⟩ := wp_grd.mp w1
    simp only [Bool.and_eq_true, decide_eq_true_eq] at c
    obtain ⟨x, o, q1, q2, q3, q4⟩ := s1.ow i _ (join_get ej) hi
    cases q3 with
    | self ea er =>
      rename_i dx vs
      have ok := ht C (by simpa using c.1)
      refine ⟨.ref x, q1, x, _, dx, vs, rfl, reg_le _ _ q2, ok.1, ok.2, by rw [er.len]; exact c.2, ?_⟩
      have s2 := s1.change (d := .ins C (putD f d fs)) (o := .ins (He.ga X.K C) dx (putF f v vs)) hi ⟨_, join_get ej⟩ q1 q2 (.self ea (er.put r1))
      have ta : g1 x = 4 := reg_tag q2
      exact w1 σ g1 al1 _ s2 ⟨by rw [reg_upd_ne (by rw [ta]; decide)]; exact .refl, List.prefix_rfl⟩
  · exact w1.elim⟩
end
end Vl
set_option Elab.async false
set_option linter.all false
set_option maxRecDepth 100000
set_option maxHeartbeats 4000000
namespace Vl
open PySem PySem.Spec PyProof.Rows L2 Oc Os
variable [Ob : Objs]
/-! ### under a condition that is no Bool -/
open Classical in
noncomputable def grp {α : Type} (p : Prop) (m : Mo α) : Mo α := if p then m else nop
theorem wp_grp {α : Type} {p : Prop} {m : Mo α} {Q : α → Objs.T → Prop} {E : Str → List (Str × D) → Objs.T → Prop} {S : Objs.T} : wp (grp p m) Q E S ↔ p ∧ wp m Q E S := by
  unfold grp
  by_cases h : p
  · rw [if_pos h]; exact ⟨fun q => ⟨h, q⟩, fun q => q.2⟩
  · rw [if_neg h]; exact ⟨fun q => q.elim, fun q => absurd q.1 h⟩
/-! ### sorted of plain data -/
section
variable {K : PySem.W.Frag} {g : Addr → Nat} {H : Hp} {I : Hp} {al : List Addr}
theorem Reps.trip : ∀ {tr : List (V × D × PyData)}, (∀ t ∈ tr, Rep K I al t.1 t.2.1) → Reps K I al (tr.map (·.1)) (tr.map (·.2.1))
  | [], _ => .nil
  | t :: tr, h => .cons (h t List.mem_cons_self) (Reps.trip fun x hx => h x (List.mem_cons_of_mem _ hx))
theorem Reps.zip3 : ∀ {vs : List V} {ds : List D} {es : List PyData}, Reps K I al vs ds → es.length = ds.length → ∃ tr : List (V × D × PyData), (∀ t ∈ tr, Rep K I al t.1 t.2.1) ∧ vs.zip es = tr.map (fun t => (t.1, t.2.2)) ∧ ds.zip es = tr.map fun t => (t.2.1, t.2.2)
  | _, _, es, .nil, h => ⟨[], fun t q => absurd q List.not_mem_nil, by simp, by simp⟩
  | _, _, [], .cons _ _, h => by cases h
  | _, _, e :: es, .cons (v := v) (d := d) r t, h => by
    obtain ⟨tr, h1, h2, h3⟩ := Reps.zip3 (es := es) t (by simpa using h)
    exact ⟨(v, d, e) :: tr, fun x hx => (List.mem_cons.mp hx).elim (fun q => by rw [q]; exact r) (h1 x), by rw [List.zip_cons_cons, h2]; rfl, by rw [List.zip_cons_cons, h3]; rfl⟩
theorem toQ_len : ∀ {ds : List D} {es : List PyData}, toQ ds = some es → es.length = ds.length
  | [], _, e => by cases e; rfl
  | d :: ds, _, e => by
    unfold toQ at e
    split at e
    · next x xs _ q => cases e; rw [List.length_cons, List.length_cons, toQ_len q]
    · cases e
theorem Reps.sorted {vs : List V} {ds : List D} {es : List PyData} (r : Reps K I al vs ds) (h : es.length = ds.length) : Reps K I al (((vs.zip es).mergeSort (PySem.W.dataLe false Prod.snd)).map Prod.fst) (((ds.zip es).mergeSort (PySem.W.dataLe false Prod.snd)).map Prod.fst) := by
  obtain ⟨tr, h1, h2, h3⟩ := r.zip3 h
  have k1 : (tr.mergeSort (PySem.W.dataLe false fun t => t.2.2)).map (fun t => (t.1, t.2.2)) = (tr.map fun t => (t.1, t.2.2)).mergeSort (PySem.W.dataLe false Prod.snd) := List.map_mergeSort fun a _ b _ => rfl
  have k2 : (tr.mergeSort (PySem.W.dataLe false fun t => t.2.2)).map (fun t => (t.2.1, t.2.2)) = (tr.map fun t => (t.2.1, t.2.2)).mergeSort (PySem.W.dataLe false Prod.snd) := List.map_mergeSort fun a _ b _ => rfl
  rw [h2, h3, ← k1, ← k2, List.map_map, List.map_map]
  exact Reps.trip fun t ht => h1 t ((List.mergeSort_perm tr _).mem_iff.mp ht)
end
def sortD (ds : List D) (es : List PyData) : List D := ((ds.zip es).mergeSort (PySem.W.dataLe false Prod.snd)).map Prod.fst
def SortOk (es : List PyData) : Prop := PySem.W.AllAlike es ∧ PySem.W.Sortable es ∧ ∀ d ∈ es, d.depth ≤ 64
noncomputable def kSort : List D → Mo D
  | [.lst ds] => bnd (opt (toQ ds)) fun es => grp (SortOk es) (ret (.lst (sortD ds es)))
  | _ => nop
section
variable {X : Cx} {O : List Nat} {E : XS} {a b c e : Expr} {es : List Expr} {fa fb fc : Env → Mo D} {fl : Env → Mo (List D)} {pos : Pos}
theorem by_sort : ByN X O E (rSortD X.K) kSort := fun us xs T ρ S g al σ H Q s r w => by
  unfold kSort at w
  split at w
  · next ds =>
    rw [bnd_opt] at w
    split at w
    · next es e =>
      obtain ⟨c, w⟩ := wp_grp.mp w
      obtain ⟨v, rfl, r1⟩ := r.one
      obtain ⟨p, vs, rfl, _, h, b⟩ := r1.lst
      refine ⟨p, vs, es, rfl, h, Reps.dq _ _ _ b e, c.1, c.2.1, c.2.2, fun q nq => ?_⟩
      have w : Post (RR X.K) X.K O E T ρ σ g al H (ret (.lst (sortD ds es))) S Q := w
      exact w.rt (s.alloc nq) rfl (Le.alloc nq) (.lst (.inl (alloc_at nq)) ((b.sorted (toQ_len e)).mono (Le.alloc (al := al) nq).s List.prefix_rfl))
    · exact w.elim
  · exact w.elim
/-! ### how many different texts -/
def kDiff : D → Mo D
  | .lst ds => bnd (opt (strsD ds)) fun ys => grd (decide (ys.length ≤ 4000)) (ret (.int ((fm ys).length : Nat)))
  | _ => nop
theorem ve_diff {p p2 q : Pos} (hc : X.calm = true) (gl : Gl X "len") (ml : X.mg "len" = none) (gs : Gl X "set") (ms : X.mg "set" = none) (ha : VQ X O E a fa) (na : starEach [a] X.env = (false, eval a X.env) :: starEach [] X.env := by rfl) :
    VE X O E (.Call (.Name "len" p) [.Call (.Name "set" p2) [a] [] q] [] pos) (f1 fa kDiff) := PE.weak (pe_diff gl ml gs ms ha hc na) fun σ H Q ⟨T, ρ, S, g, al, s, w⟩ => ⟨T, ρ, S, g, al, s, w.bn fun v d S1 g1 al1 H1 s1 l1 r1 w1 => by
    unfold kDiff at w1
    split at w1
    · next ds =>
      rw [bnd_opt] at w1
      split at w1
      · next ys e =>
        obtain ⟨c, w1⟩ := w1.gd
        obtain ⟨p, vs, rfl, _, h, b⟩ := r1.lst
        exact ⟨p, ys, rfl, by rw [← strs_v b e]; exact h, of_decide_eq_true c, w1.rt' s1 (.int _)⟩
      · exact w1.elim
    · exact w1.elim⟩
/-! ### d.get(k, x) -/
def keyD : D → Option Key
  | .int i => some (.inl i)
  | .str x => some (.inr x)
  | _ => none
theorem key_v {K : PySem.W.Frag} {g : Addr → Nat} {H : Hp} {al : List Addr} {v : V} {d : D} {k : Key} (r : RepQ K g H al v d) (h : keyD d = some k) : v = kV k := by
  cases d with
  | int i => cases h; exact r.int
  | str x => cases h; exact r.str
  | _ => cases h
theorem RepKv.valO {K : PySem.W.Frag} {I : Hp} {al : List Addr} {k : Key} : ∀ {vs : List (Key × V)} {ds : List (Key × D)}, RepKv K I al vs ds → match valD ds k with | some d => ∃ v, valV vs k = some v ∧ Rep K I al v d | none => valV vs k = none
  | _, _, .nil => rfl
  | _, _, .cons (k := k') (v := v) (d := d') r t => by
    by_cases h : k' = k
    · rw [valD_pos (p := (k', d')) h]
      exact ⟨v, valV_pos h, r⟩
    · rw [valD_neg (p := (k', d')) h, valV_neg (p := (k', v)) h]
      exact RepKv.valO t
def getD2 : D → D → D → Mo D
  | .dic kvs, y, z => bnd (opt (keyD y)) fun k => match valD kvs k with
    | some d => ret d
    | none => ret z
  | _, _, _ => nop
def isDic : D → Bool
  | .dic _ => true
  | _ => false
def fGet2 (fa fb fc : Env → Mo D) : Env → Mo D := fun ρ => bnd (fa ρ) fun x => grd (isDic x) (bnd (fb ρ) fun y => bnd (fc ρ) fun z => getD2 x y z)
theorem ve_get2 {apos : Pos} (hu : X.A.units + 1 < cLine) (ha : VQ X O E a fa) (hb : VQ X O E b fb) (hc : VE X O E c fc) (m : M2 X a "get" apos b c pos) : VE X O E (.Call (.Attribute a "get" apos) [b, c] [] pos) (fGet2 fa fb fc) := PE.weak (pe_dget2 hu ha hb hc m) fun σ H Q ⟨T, ρ, S, g, al, s, w⟩ => ⟨T, ρ, S, g, al, s, w.bn fun v d S1 g1 al1 H1 s1 l1 r1 w1 => by
  obtain ⟨ci, w1⟩ := w1.gd
  cases d <;> first | cases ci | skip
  obtain ⟨p, vs, rfl, hp, _⟩ := r1.dic
  refine ⟨p, rfl, .inl ⟨vs, hp⟩, T, ρ, S1, g1, al1, s1, w1.bn fun v2 d2 S2 g2 al2 H2 s2 l2 r2 w2 => ⟨T, ρ, S2, g2, al2, s2, w2.bn fun v3 d3 S3 g3 al3 H3 s3 l3 r3 w3 => ?_⟩⟩
  have r1 := r1.le (l2.trans l3)
  obtain ⟨p', vs', ep, hp', b'⟩ := r1.dic
  cases ep
  dsimp only [getD2] at w3
  rw [bnd_opt] at w3
  split at w3
  · next k ek =>
    have hy := key_v (r2.le l3) ek
    have hv := b'.valO (k := k)
    split at w3
    · next d e =>
      rw [e] at hv
      obtain ⟨z, q1, q2⟩ := hv
      exact ⟨some z, .inl ⟨vs', k, hp', hy, q1.symm⟩, w3.rt' s3 q2⟩
    · next e =>
      rw [e] at hv
      exact ⟨none, .inl ⟨vs', k, hp', hy, hv.symm⟩, w3.rt' s3 r3⟩
  · exact w3.elim⟩
end
/-! ### zip of two lists, of two tuples -/
section
variable {K : PySem.W.Frag} {g g' : Addr → Nat} {al al' : List Addr} {H H' : Hp}
def pairs : List D → List D → List D
  | x :: xs, y :: ys => .tup [x, y] :: pairs xs ys
  | _, _ => []
theorem pairs_len : ∀ xs ys : List D, (pairs xs ys).length = min xs.length ys.length
  | [], _ => by simp [pairs]
  | _ :: _, [] => by simp [pairs]
  | x :: xs, y :: ys => by simp [pairs, pairs_len xs ys]
theorem pairs_at : ∀ {xs ys : List D} {i : Nat} {x y : D}, xs[i]? = some x → ys[i]? = some y → (pairs xs ys)[i]? = some (.tup [x, y])
  | [], _, _, _, _, h, _ => by simp at h
  | _ :: _, [], _, _, _, _, h => by simp at h
  | a :: xs, b :: ys, 0, x, y, h, k => by simp at h k; subst h k; rfl
  | a :: xs, b :: ys, i + 1, x, y, h, k => by
    simp at h k
    show (pairs xs ys)[i]? = _
    exact pairs_at h k
theorem yld_pair {ds es : List D} {us vs : List V} {i : Nat} {x y : V} {T : Addr} (r1 : Reps K (reg g H 1) al us ds) (r2 : Reps K (reg g H 1) al vs es) (nT : H T = none) (hx : us[i]? = some x) (hy : vs[i]? = some y) : ∃ d, (pairs ds es)[i]? = some d ∧ Rep K (reg (put g T 1) (upd H T (.tup [x, y])) 1) al (.ref T) d := by
  obtain ⟨d, e1, q1⟩ := r1.get' hx
  obtain ⟨e, e2, q2⟩ := r2.get' hy
  have l := Le.alloc (al := al) (g := g) (o := .tup [x, y]) nT
  exact ⟨_, pairs_at e1 e2, .tup (.inl (.inl (alloc_at nT))) (.cons (q1.mono l.s l.p) (.cons (q2.mono l.s l.p) .nil))⟩
theorem wk_zipT {a b : Addr} {us vs : List V} {ds es : List D} (h1 : SqT K (reg g H 1) a us) (r1 : Reps K (reg g H 1) al us ds) (h2 : SqT K (reg g H 1) b vs) (r2 : Reps K (reg g H 1) al vs es) : Wk K (RZ.ItzT K a b) (pairs ds es) g al H where
  go := fun g' al' H' i l hi => by
    rw [pairs_len, ← r1.len, ← r2.len] at hi
    exact ⟨us, vs, us[i]'(by omega), vs[i]'(by omega), SqT.same (l.s.sqT h1) reg_le, SqT.same (l.s.sqT h2) reg_le, List.getElem?_eq_getElem _, List.getElem?_eq_getElem _⟩
  stop := fun g' al' H' l => ⟨us, vs, SqT.same (l.s.sqT h1) reg_le, SqT.same (l.s.sqT h2) reg_le, by rw [pairs_len, ← r1.len, ← r2.len]; omega⟩
  yld := fun g' al' H' i x H2 l hi y => by
    obtain ⟨T, u, v, e1, e2, e3, e4, e5⟩ := y
    subst e1
    obtain ⟨d, q1, q2⟩ := yld_pair (T := T) (r1.mono l.s l.p) (r2.mono l.s l.p) e2 (e4 us (SqT.same (l.s.sqT h1) reg_le)) (e5 vs (SqT.same (l.s.sqT h2) reg_le))
    exact .inr ⟨T, _, d, e2, e3, q1, q2⟩
theorem wk_zip {a b : Addr} {us vs : List V} {ds es : List D} (h1 : Rd (reg g H 1) a (.lst us)) (r1 : Reps K (reg g H 1) al us ds) (h2 : Rd (reg g H 1) b (.lst vs)) (r2 : Reps K (reg g H 1) al vs es) : Wk K (Itz K a b) (pairs ds es) g al H where
  go := fun g' al' H' i l hi => by
    rw [pairs_len, ← r1.len, ← r2.len] at hi
    exact ⟨us, vs, us[i]'(by omega), vs[i]'(by omega), .inl (rd_reg (l.s.rd _ _ h1)), .inl (rd_reg (l.s.rd _ _ h2)), List.getElem?_eq_getElem _, List.getElem?_eq_getElem _⟩
  stop := fun g' al' H' l => ⟨us, vs, .inl (rd_reg (l.s.rd _ _ h1)), .inl (rd_reg (l.s.rd _ _ h2)), by rw [pairs_len, ← r1.len, ← r2.len]; omega⟩
  yld := fun g' al' H' i x H2 l hi y => by
    obtain ⟨T, u, v, e1, e2, e3, e4, e5⟩ := y
    subst e1
    obtain ⟨d, q1, q2⟩ := yld_pair (T := T) (r1.mono l.s l.p) (r2.mono l.s l.p) e2 (e4 us (.inl (rd_reg (l.s.rd _ _ h1)))) (e5 vs (.inl (rd_reg (l.s.rd _ _ h2))))
    exact .inr ⟨T, _, d, e2, e3, q1, q2⟩
end
section
variable {X : Cx} {O : List Nat} {E : XS} {a b : Expr} {fl : Env → Mo (List D)}
def zipD : List D → Option (List D)
  | [.lst xs, .lst ys] => some (pairs xs ys)
  | [.tup xs, .tup ys] => some (pairs xs ys)
  | _ => none
theorem vi_zip {elts : List Expr} {kk : Nat} {p pos tpos : Pos} (hg : Gl X "zip") (hm : X.mg "zip" = none) (ha : VA X O E [a, b] fl) (hs : starEach [a, b] X.env = (false, eval a X.env) :: starEach [b] X.env := by rfl) (hpl : (backTo pos (starEach [b] X.env)).any (·.1) = false := by rfl) :
    VI X O E (.Tuple elts kk tpos) (.Call (.Name "zip" p) [a, b] [] pos) (fun ρ => bnd (fl ρ) fun xs => opt (zipD xs)) := PI.weak (RZ.pi_zipA hg hm ha hs hpl) fun σ H R h => liftI_bn h fun v d T ρ S g al H s r w => by
  obtain ⟨ds, e, w⟩ := wp_opt.mp w
  unfold zipD at e
  split at e
  · cases e
    cases r with | cons r1 r2 =>
    cases r2 with | cons r2 r3 =>
    cases r3
    cases r1 with | lst a1 b1 =>
    cases r2 with | lst a2 b2 => exact ⟨_, _, _, _, rfl, .inl ⟨.inl (rd_reg a1), .inl (rd_reg a2), w g al H _ s .refl (wk_zip a1 b1 a2 b2)⟩⟩
  · cases e
    cases r with | cons r1 r2 =>
    cases r2 with | cons r2 r3 =>
    cases r3
    cases r1 with | tup a1 b1 =>
    cases r2 with | tup a2 b2 => exact ⟨_, _, _, _, rfl, .inr ⟨SqT.same a1 reg_le, SqT.same a2 reg_le, w g al H _ s .refl (wk_zipT a1 b1 a2 b2)⟩⟩
  · cases e
end
end Vl
set_option Elab.async false
set_option linter.all false
set_option maxRecDepth 100000
set_option maxHeartbeats 4000000
namespace Vl
open PySem PySem.Spec PyProof.Rows L2 Oc Os
variable [Ob : Objs]
/-! ### dict comprehensions -/
def putKD (kvs : List (Key × D)) (k : Key) (d : D) : List (Key × D) := if (kvs.any fun kv => decide (kv.1 = k)) = true then kvs.map (fun kv => if kv.1 = k then (kv.1, d) else kv) else kvs ++ [(k, d)]
section
variable {K : PySem.W.Frag} {I : Hp} {al : List Addr}
theorem RepKv.any (k : Key) : ∀ {vs : List (Key × V)} {ds : List (Key × D)}, RepKv K I al vs ds → (vs.any fun kv => decide (kv.1 = k)) = ds.any fun kv => decide (kv.1 = k)
  | _, _, .nil => rfl
  | _, _, .cons _ t => by rw [List.any_cons, List.any_cons, RepKv.any k t]
theorem RepKv.append : ∀ {xs ys : List (Key × V)} {ds es : List (Key × D)}, RepKv K I al xs ds → RepKv K I al ys es → RepKv K I al (xs ++ ys) (ds ++ es)
  | _, _, _, _, .nil, s => s
  | _, _, _, _, .cons r t, s => .cons r (RepKv.append t s)
theorem RepKv.chg {k : Key} {v : V} {d : D} (r : Rep K I al v d) : ∀ {vs : List (Key × V)} {ds : List (Key × D)}, RepKv K I al vs ds → RepKv K I al (vs.map fun kv => if kv.1 = k then (kv.1, v) else kv) (ds.map fun kv => if kv.1 = k then (kv.1, d) else kv)
  | _, _, .nil => .nil
  | _, _, .cons (k := q) s t => by
    rw [List.map_cons, List.map_cons]
    by_cases e : q = k
    · rw [if_pos e, if_pos e]; exact .cons r (RepKv.chg r t)
    · rw [if_neg e, if_neg e]; exact .cons s (RepKv.chg r t)
theorem RepKv.put {k : Key} {v : V} {d : D} (r : Rep K I al v d) {vs : List (Key × V)} {ds : List (Key × D)} (h : RepKv K I al vs ds) : RepKv K I al (putK vs k v) (putKD ds k d) := by
  unfold putK putKD
  rw [h.any k]
  by_cases e : (ds.any fun kv => decide (kv.1 = k)) = true
  · rw [if_pos e, if_pos e]; exact h.chg r
  · rw [if_neg e, if_neg e]; exact h.append (.cons r .nil)
end
theorem putKD_len (kvs : List (Key × D)) (k : Key) (d : D) : (putKD kvs k d).length ≤ kvs.length + 1 := by
  unfold putKD
  split
  · rw [List.length_map]; omega
  · rw [List.length_append, List.length_singleton]
    exact Nat.le_refl _
/-- the entries made, behind those that are there -/
def mapD (t : D → Env → Option Env) (tt : Env → Mo Bool) (fk fe : Env → Mo D) (ρ : Env) : List D → List (Key × D) → Mo (List (Key × D))
  | [], acc => ret acc
  | d :: ds, acc => bnd (opt (t d ρ)) fun ρ1 => bnd (tt ρ1) fun b => if b = true then bnd (fk ρ1) fun y => bnd (opt (keyD y)) fun k => bnd (fe ρ1) fun z => mapD t tt fk fe ρ ds (putKD acc k z) else mapD t tt fk fe ρ ds acc
def fDc (fi : Env → Mo (List D)) (t : D → Env → Option Env) (tt : Env → Mo Bool) (fk fe : Env → Mo D) (vs : List Nat) : Env → Mo D := fun ρ => bnd (fi ρ) fun ds => grd (decide (ds.length ≤ LIM)) (bnd (nox (mapD t tt fk fe (wipeD ρ vs) ds [])) fun ys => ret (.dic ys))
section
variable {X : Cx} {O : List Nat} {E : XS}
theorem dc_lift {ts vs : List Nat} {fi : Env → Mo (List D)} {t : D → Env → Option Env} {tt : Env → Mo Bool} {fk fe : Env → Mo D} {σ : L2.St} {H : Hp} {Q : VK} {K : PySem.W.Frag} (hts : ∀ i ∈ ts, i ∈ vs)
    (h : lift (RR K) K O E (fDc fi t tt fk fe vs) σ H Q) : tDc (liftI K O E fi) (liftG K O ts t) (lift RB K O XS0 tt) (lift (RR K) K O XS0 fk) (lift (RR K) K O XS0 fe) vs σ H Q := by
  obtain ⟨T, ρ, S, g, al, s, w⟩ := h
  unfold Post fDc at w
  rw [wp_bnd] at w
  refine ⟨T, ρ, S, g, al, s, wp_mono w (fun ds S1 w1 g1 al1 H1 J s1 l1 wk => ?_) fun _ _ _ q => q⟩
  obtain ⟨hl, w1⟩ := wp_grd.mp w1
  have hl : ds.length ≤ LIM := of_decide_eq_true hl
  rw [wp_bnd] at w1
  have w1 := wp_nox (E' := fun _ _ _ => False) w1
  intro D nD
  have hTD : T D = none := by
    rw [← s1.fr]
    exact reg_none nD
  -- behind i turns: what is made so far, what is still to come
  let Mid : Nat → Hp → Prop := fun i H2 => ∃ S2 g2 al2 vs2 acc, SR K O (upd T D (.dK vs2)) ρ S2 g2 al2 σ H2 ∧ Le g1 al1 H1 g2 al2 H2 ∧ RepKv K (reg g2 H2 1) al2 vs2 acc ∧ acc.length ≤ i ∧
    wp (mapD t tt fk fe (wipeD ρ vs) (ds.drop i) acc) (fun ys S3 => ∀ v g' al' H', SR K O T ρ S3 g' al' σ H' → Le g1 al1 H1 g' al' H' → Rep K (reg g' H' 1) al' v (.dic ys) → Q v H') (fun _ _ _ => False) S2
  refine ⟨fun i m H2 => m = ds.length - i ∧ i ≤ ds.length ∧ Mid i H2, ⟨_, rfl, Nat.zero_le _, S1, put g1 D 3, al1, [], [], s1.aside nD, Le.asideNew nD, .nil, Nat.le_refl _, ?_⟩, ?_⟩
  · rw [List.drop_zero]
    exact wp_mono w1 (fun ys S3 q v g' al' H' s' l r => q v g' al' H' s' (l1.trans l) r) fun _ _ _ q => q
  rintro i m H2 ⟨rfl, hi, S2, g2, al2, vs2, acc, s2, l2, r2, hz, w2⟩
  by_cases hlt : i < ds.length
  · rw [List.drop_eq_getElem_cons hlt] at w2
    unfold mapD at w2
    rw [bnd_opt] at w2
    cases ht : t ds[i] (wipeD ρ vs) with
    | none => rw [ht] at w2; exact w2.elim
    | some ρ3 =>
      rw [ht] at w2
      dsimp only at w2
      rw [wp_bnd] at w2
      refine .inr ⟨wk.go g2 al2 H2 i l2.w hlt, fun H' => i + 1 ≤ ds.length ∧ Mid (i + 1) H', fun H' q => ⟨_, by omega, rfl, q.1, q.2⟩, fun x H3 hy => ?_⟩
      have hd : ds[i]? = some ds[i] := List.getElem?_eq_getElem hlt
      have key : ∀ g3 H4, SR K O (upd T D (.dK vs2)) ρ S2 g3 al2 σ H4 → Le g2 al2 H2 g3 al2 H4 → Rep K (reg g3 H4 1) al2 x ds[i] → liftG K O ts t x (wipe σ vs) H4 fun σ2 H2 => wipe σ2 vs = wipe σ vs ∧ lift RB K O XS0 tt σ2 H2 fun b H3 =>
          if b = true then lift (RR K) K O XS0 fk σ2 H3 fun y H4 => lift (RR K) K O XS0 fe σ2 H4 fun z H5 => ∃ kvs k, y = kV k ∧ H5 D = some (.dK kvs) ∧ kvs.length < sizeLine ∧ (i + 1 ≤ ds.length ∧ Mid (i + 1) (upd H5 D (.dK (putK kvs k z)))) else (i + 1 ≤ ds.length ∧ Mid (i + 1) H3) := fun g3 H4 s3 l3 r3 => by
        refine ⟨_, wipeD ρ vs, S2, g3, al2, ds[i], ρ3, s3.wipe vs, r3, ht, fun σ5 s5 hl5 k5 => ⟨?_, ?_⟩⟩
        · have e := wipe_eq (vs := vs) hl5 fun j hj => k5 j fun z => hj (hts j z)
          rw [e]
          exact wipe_eq (wipe_length _ _) fun j hj => wipe_out hj
        · refine ⟨_, ρ3, S2, g3, al2, s5, wp_mono w2 (fun b S6 w6 v g6 al6 H6 s6 l6 r6 => ?_) fun _ _ _ q => q.elim⟩
          cases r6
          have sr6 : SR K O (upd T D (.dK vs2)) ρ S6 g6 al6 σ H6 := s3.back s6 l6
          have l16 := (l2.trans l3).trans l6
          cases b with
          | false => exact ⟨hlt, S6, g6, al6, vs2, acc, sr6, l16, r2.mono (l3.trans l6).s (l3.trans l6).p, by omega, w6⟩
          | true =>
            rw [if_pos rfl] at w6 ⊢
            rw [wp_bnd] at w6
            refine ⟨_, ρ3, S6, g6, al6, s6, wp_mono w6 (fun y S7 w7 u g7 al7 H7 s7 l7 r7 => ?_) fun _ _ _ q => q.elim⟩
            rw [bnd_opt] at w7
            cases hk : keyD y with
            | none => rw [hk] at w7; exact w7.elim
            | some k =>
              rw [hk] at w7
              dsimp only at w7
              have hu : u = kV k := key_v (.val r7) hk
              rw [wp_bnd] at w7
              refine ⟨_, ρ3, S7, g7, al7, s7, wp_mono w7 (fun z S8 w8 u8 g8 al8 H8 s8 l8 r8 => ?_) fun _ _ _ q => q.elim⟩
              have sr8 := (sr6.back s7 l7).back s8 l8
              have hD8 : H8 D = some (.dK vs2) := reg_le _ _ sr8.asideAt
              have t8 : g8 D = 3 := reg_tag sr8.asideAt
              have l38 := ((l3.trans l6).trans l7).trans l8
              have rr := RepKv.mono l38.s l38.p _ _ r2
              refine ⟨vs2, k, hu, hD8, by rw [r2.len]; exact Nat.lt_of_le_of_lt hz (Nat.lt_of_lt_of_le hlt (lim hl)), hlt, S8, g8, al8, _, putKD acc k z, sr8.asideNew, (l2.trans l38).trans (Le.aside t8), ?_, Nat.le_trans (putKD_len _ _ _) (by omega), w8⟩
              exact (rr.put r8).mono (Le.aside (al := al8) t8).s List.prefix_rfl
      rcases wk.yld g2 al2 H2 i x H3 l2.w hlt hy with ⟨e, d, e2, r⟩ | ⟨p, o, d, np, e, e2, r⟩
      · rw [hd] at e2
        cases e2
        subst e
        exact key g2 _ s2 .refl r
      · rw [hd] at e2
        cases e2
        subst e
        exact key _ _ (s2.alloc np) (Le.alloc np) r
  · have e : i = ds.length := by omega
    subst e
    rw [List.drop_length] at w2
    obtain ⟨sT, lT, aT⟩ := s2.takeIn hTD
    exact .inl ⟨wk.stop g2 al2 H2 l2.w, w2 (.ref D) (put g2 D 1) al2 H2 sT (l2.trans lT) (.dic (.inl aT) (r2.mono lT.s lT.p))⟩
theorem ve_dc {kx vx tg iter : Expr} {ifs : List Expr} {scope : Scope} {own : List (Str × Nat)} {pos : Pos} {ts : List Nat} {fi : Env → Mo (List D)} {t : D → Env → Option Env} {tt : Env → Mo Bool} {fk fe : Env → Mo D} (hc : X.calm = true) (hN : X.N.Nodup) (hi : VI X O E tg iter fi) (ok : BlkOk X.N X.env.scope scope own)
    (hg : ∀ (s : Shared) (H : Hp) (C : Addr) (cl : List (Str × Addr)) (fp : List Addr), VG (X.blk s H scope (compEnvC scope cl C X.env) fp) O ts tg t)
    (ht : ∀ (s : Shared) (H : Hp) (C : Addr) (cl : List (Str × Addr)) (fp : List Addr), VTs (X.blk s H scope (compEnvC scope cl C X.env) fp) O ifs tt)
    (hk : ∀ (s : Shared) (H : Hp) (C : Addr) (cl : List (Str × Addr)) (fp : List Addr), VE (X.blk s H scope (compEnvC scope cl C X.env) fp) O XS0 kx fk)
    (he : ∀ (s : Shared) (H : Hp) (C : Addr) (cl : List (Str × Addr)) (fp : List Addr), VE (X.blk s H scope (compEnvC scope cl C X.env) fp) O XS0 vx fe)
    (hts : ∀ i ∈ ts, i ∈ own.map (·.2) := by decide) (hs : ∀ x, foldedSetIterable iter X.env x = pure x := by intro _; rfl) : VE X O E (.DictComp kx vx [⟨tg, iter, ifs, 0⟩] scope pos) (fDc fi t tt fk fe (own.map (·.2))) :=
  PE.weak (pe_dc (g := liftG X.K O ts t) (tt := lift RB X.K O XS0 tt) (tk := lift (RR X.K) X.K O XS0 fk) (tv := lift (RR X.K) X.K O XS0 fe) hc hN hi ok hg ht hk he hs) fun σ H Q h => dc_lift hts h
end
/-! ### dicts written -/
def RKv (K : PySem.W.Frag) : (Addr → Nat) → Hp → List Addr → List (Key × V) → List (Key × D) → Prop := fun g H al v d => RepKv K (reg g H 1) al v d
def VPs (X : Cx) (O : List Nat) (E : XS) (pos : Pos) (keys : List (Option Expr)) (values : List Expr) (f : Env → Mo (List (Key × D))) : Prop :=
  ∃ trs, PPs X pos keys values trs ∧ ∀ σ H Q, lift (RKv X.K) X.K O E f σ H (fun kvs H' => Q (kvs.map fun kv => (kV kv.1, kv.2)) H') → tPairs trs σ H Q
section
variable {X : Cx} {O : List Nat} {E : XS} {k v : Expr} {ks : List (Option Expr)} {vs : List Expr} {fk fv : Env → Mo D} {f : Env → Mo (List (Key × D))} {pos : Pos}
theorem vps_nil : VPs X O E pos [] [] (fun _ => ret []) := ⟨[], pps_nil, fun σ H Q ⟨T, ρ, S, g, al, s, w⟩ => w.rt' s .nil⟩
def fPs (fk fv : Env → Mo D) (f : Env → Mo (List (Key × D))) : Env → Mo (List (Key × D)) := fun ρ => bnd (fk ρ) fun x => bnd (opt (keyD x)) fun k => bnd (fv ρ) fun y => bnd (f ρ) fun r => ret ((k, y) :: r)
theorem vps_cons (hk : VE X O E k fk) (hv : VE X O E v fv) (h : VPs X O E pos ks vs f) : VPs X O E pos (some k :: ks) (v :: vs) (fPs fk fv f) := by
  obtain ⟨trs, p, q⟩ := h
  refine ⟨_, pps_cons hk hv p, fun σ H Q ⟨T, ρ, S, g, al, s, w⟩ => ⟨T, ρ, S, g, al, s, w.bn fun x d S1 g1 al1 H1 s1 l1 r1 w1 => ?_⟩⟩
  rw [bnd_opt] at w1
  split at w1
  · next kk e =>
    have hx : x = kV kk := key_v (.val r1) e
    subst hx
    refine ⟨T, ρ, S1, g1, al1, s1, w1.bn fun y d2 S2 g2 al2 H2 s2 l2 r2 w2 => q σ H2 _ ⟨T, ρ, S2, g2, al2, s2, w2.bn fun r ds S3 g3 al3 H3 s3 l3 r3 w3 => ?_⟩⟩
    exact w3.rt' (v := (kk, y) :: r) s3 (.cons (r2.mono l3.s l3.p) r3)
  · exact w1.elim
def mergeD (kvs more : List (Key × D)) : List (Key × D) := more.foldl (fun acc kv => putKD acc kv.1 kv.2) kvs
theorem RepKv.merge {K : PySem.W.Frag} {I : Hp} {al : List Addr} {ys : List (Key × V)} {es : List (Key × D)} (r : RepKv K I al ys es) : ∀ {xs : List (Key × V)} {ds : List (Key × D)}, RepKv K I al xs ds → RepKv K I al (mergeK xs ys) (mergeD ds es) := by
  induction ys generalizing es with
  | nil => cases r; exact fun h => h
  | cons y ys ih =>
    cases r with
    | cons a b => exact fun h => ih b (h.put a)
def fDisp (f : Env → Mo (List (Key × D))) : Env → Mo D := fun ρ => bnd (f ρ) fun kvs => grd (decide (kvs.length ≤ 15)) (ret (.dic (mergeD [] kvs)))
theorem ve_disp (h : VPs X O E pos ks vs f) (hall : ks.all (·.isSome) = true := by rfl) (hl : ks.length = vs.length := by rfl) (h0 : ks ≠ [] := by exact fun z => nomatch z) (h15 : ks.length ≤ 15 := by decide) : VE X O E (.Dict ks vs pos) (fDisp f) := by
  obtain ⟨trs, p, q⟩ := h
  refine PE.weak (pe_disp p hall hl h0 h15) fun σ H Q ⟨T, ρ, S, g, al, s, w⟩ pa np => q σ _ _ ?_
  unfold Post fDisp at w
  rw [wp_bnd] at w
  have hT : T pa = none := by rw [← s.fr]; exact reg_none np
  refine ⟨upd T pa (.dK []), ρ, S, put g pa 3, al, s.aside np, wp_mono w (fun kvs S1 w1 us g1 al1 H1 s1 l1 r1 => ?_) fun C fs S1 k g1 al1 H1 dx s1 l1 x => ?_⟩
  · obtain ⟨c, w1⟩ := wp_grd.mp w1
    have e1 : H1 pa = some (.dK []) := reg_le _ _ s1.asideAt
    have t1 : g1 pa = 3 := reg_tag s1.asideAt
    have s2 := s1.asideNew (o := .dK (mergeK [] us))
    obtain ⟨s3, l3, a3⟩ := s2.takeIn hT
    have l2 := Le.aside (al := al1) (H := H1) (o := .dK (mergeK [] us)) t1
    have hz : us.length ≤ 15 := by rw [RepKv.len r1]; exact of_decide_eq_true c
    exact ⟨e1, us, rfl, hz, w1 (.ref pa) _ al1 _ s3 ((((Le.asideNew np).trans l1).trans l2).trans l3) (.dic (.inl a3) ((RepKv.merge r1 .nil).mono (l2.trans l3).s List.prefix_rfl))⟩
  · obtain ⟨s3, l3⟩ := s1.forget hT
    have t1 : g1 pa = 3 := reg_tag s1.asideAt
    refine k _ al1 H1 dx s3 (((Le.asideNew np).trans l1).trans l3) ?_
    have e5 : reg (put g1 pa 5) H1 1 = reg g1 H1 1 := by
      funext b
      unfold reg put
      by_cases hb : b = pa
      · rw [if_pos hb, if_neg (by decide), hb, if_neg (by rw [t1]; decide)]
      · rw [if_neg hb]
    rw [e5]
    exact x
theorem ve_dnew : VE X O E (.Dict [] [] pos) (fC (.dic [])) := PE.weak pe_dnewK fun σ H Q ⟨T, ρ, S, g, al, s, w⟩ => fun p np => w.rt (s.alloc np) rfl (Le.alloc np) (.dic (.inl (alloc_at np)) .nil)
end
end Vl
set_option Elab.async false
set_option linter.all false
set_option maxRecDepth 100000
set_option maxHeartbeats 4000000
namespace Vl
open PySem PySem.Spec PyProof.Rows L2 Oc Os
variable [Ob : Objs]
/-! ### trees shown -/
mutual
def toR : D → Option PyData
  | .non => some .none
  | .bl b => some (.bool b)
  | .int i => some (.int i)
  | .str x => some (.str x)
  | .lst ds => (toRs ds).map .list
  | .tup ds => (toRs ds).map .tuple
  | .dic ds => (toRk ds).map .dict
  | .ins _ _ => none
  | .hnd _ => none
def toRs : List D → Option (List PyData)
  | [] => some []
  | d :: ds => match toR d, toRs ds with
    | some e, some es => some (e :: es)
    | _, _ => none
def toRk : List (Key × D) → Option (List (PyData × PyData))
  | [] => some []
  | (k, d) :: ds => match toR d, toRk ds with
    | some e, some es => some ((kD k, e) :: es)
    | _, _ => none
end
section
variable {K : PySem.W.Frag} {g : Addr → Nat} {H : Hp} {al : List Addr}
mutual
theorem Rep.dr : ∀ (d : D) (v : V) (e : PyData), Rep K (reg g H 1) al v d → toR d = some e → Dq K H v e
  | .non, _, _, h, q => by cases h; cases q; exact .non
  | .bl b, _, _, h, q => by cases h; cases q; exact .bl b
  | .int i, _, _, h, q => by cases h; cases q; exact .int i
  | .str x, _, _, h, q => by cases h; cases q; exact .str x
  | .lst ds, _, _, h, q => by
    cases h with
    | lst a b =>
      unfold toR at q
      obtain ⟨es, q1, rfl⟩ := Option.map_eq_some_iff.mp q
      exact .lst (.inl (Rd.same a reg_le)) (Reps.dr ds _ es b q1)
  | .tup ds, _, _, h, q => by
    cases h with
    | tup a b =>
      unfold toR at q
      obtain ⟨es, q1, rfl⟩ := Option.map_eq_some_iff.mp q
      exact .tup (SqT.same a reg_le) (Reps.dr ds _ es b q1)
  | .dic ds, _, _, h, q => by
    cases h with
    | dic a b =>
      unfold toR at q
      obtain ⟨es, q1, rfl⟩ := Option.map_eq_some_iff.mp q
      exact .dic (Rd.same a reg_le) (RepKv.dr ds _ es b q1)
  | .ins _ _, _, _, _, q => by cases q
  | .hnd _, _, _, _, q => by cases q
theorem Reps.dr : ∀ (ds : List D) (vs : List V) (es : List PyData), Reps K (reg g H 1) al vs ds → toRs ds = some es → DqAll K H vs es
  | [], _, _, h, q => by cases h; cases q; exact .nil
  | d :: ds, _, _, h, q => by
    cases h with
    | cons a b =>
      unfold toRs at q
      split at q
      · next e es q1 q2 => cases q; exact .cons (Rep.dr d _ e a q1) (Reps.dr ds _ es b q2)
      · cases q
theorem RepKv.dr : ∀ (ds : List (Key × D)) (vs : List (Key × V)) (es : List (PyData × PyData)), RepKv K (reg g H 1) al vs ds → toRk ds = some es → DqKv K H vs es
  | [], _, _, h, q => by cases h; cases q; exact .nil
  | (k, d) :: ds, _, _, h, q => by
    cases h with
    | cons a b =>
      unfold toRk at q
      split at q
      · next e es q1 q2 => cases q; exact .cons (Rep.dr d _ e a q1) (RepKv.dr ds _ es b q2)
      · cases q
end
end
def shownB (e : PyData) : Bool := e.showable && decide (e.depth ≤ 64) && decide (e.shown.length ≤ LIM)
section
variable {X : Cx} {O : List Nat} {E : XS} {a e : Expr} {es : List Expr} {fa : Env → Mo D} {fl : Env → Mo (List D)} {pos : Pos}
def kRepr : List D → Mo D
  | [d] => bnd (opt (toR d)) fun e => grd (shownB e) (ret (.str e.shown))
  | _ => nop
theorem by_repr : ∀ us xs T ρ S g al σ H Q, SR X.K O T ρ S g al σ H → Reps X.K (reg g H 1) al us xs → Post (RR X.K) X.K O E T ρ σ g al H (kRepr xs) S Q → rRepr X.K us H Q := fun us xs T ρ S g al σ H Q s r w => by
  unfold kRepr at w
  split at w
  · rw [bnd_opt] at w
    split at w
    · next e q =>
      obtain ⟨c, w⟩ := w.gd
      unfold shownB at c
      simp only [Bool.and_eq_true, decide_eq_true_eq] at c
      cases r with | cons r1 r2 =>
      cases r2
      exact ⟨_, e, rfl, Rep.dr _ _ _ r1 q, c.1.1, c.1.2, lim c.2, w.rt' s (.str _)⟩
    · exact w.elim
  · exact w.elim
/-- repr(x), where no repr is under way -/
theorem ve_repr {x : Str} {p : Pos} (hgu : X.A.guards = some []) (hu : X.A.units + 100 < cLine) (hs : sysB X.K = true) (hx : x = "repr") (hg : Gl X x) (hm : X.mg x = none) (hv : bootBuiltins x = some (.builtin "repr")) (ha : VA X O E (e :: es) fl) (hn : x ≠ "__name__" := by decide) (hdb : (x == ("__debug__" : Str)) = false := by decide)
    (he : starEach (e :: es) X.env = (false, eval e X.env) :: starEach es X.env := by rfl) (hpl : (backTo pos (starEach es X.env)).any (·.1) = false := by rfl) : VE X O E (.Call (.Name x p) (e :: es) [] pos) (fN fl kRepr) :=
  PE.weak (pe_callB (call_reprD hgu hu hs) hg hm hv ha hn hdb he hpl) fun _ _ _ h => liftA by_repr h
/-! ### methods called with keywords, in the parameters' order -/
def MtOkK (X : Cx) (k : Nat) (m C : Str) (n : Nat) (ks : List Str) (F : List D → Mo D) : Prop := Cls X.K (He.ga X.K C) ∧ ∃ f fd ps, Meth X.K (He.ga X.K C) m f ∧ FnOk X.prog X.w X.K X.mg X.base (L2.CX X.prog X.w) k f fd ps (spF X.K F) ∧
  (∀ (s : Shared) (us ws : List Value), X.K.In s.heap → us.length = n → ws.length = ks.length → BindsTo s fd ⟨us, ks.zip ws⟩ (ps.zip (us ++ ws)))
def VKw (X : Cx) (O : List Nat) (E : XS) (kws : List Keyword) (f : Env → Mo (List D)) : Prop := PK X kws (lift (RRs X.K) X.K O E f)
theorem PK.weak {kws : List Keyword} {t t' : TA} (h : PK X kws t) (w : ∀ σ H Q, t' σ H Q → t σ H Q) : PK X kws t' := ⟨fun pos pins s σ H Q I q => h.run pos pins s σ H Q I (w _ _ _ q)⟩
theorem vk_nil : VKw X O E [] fNil := PK.weak pk_nil fun σ H Q ⟨T, ρ, S, g, al, s, w⟩ => w.rt' s .nil
theorem vk_cons {kws : List Keyword} {nm : Option Str} {kpos : Pos} (ha : VE X O E e fa) (hl : VKw X O E kws fl) : VKw X O E (⟨nm, e, kpos⟩ :: kws) (fCons fa fl) := PK.weak (pk_cons ha hl) fun σ H Q ⟨T, ρ, S, g, al, s, w⟩ =>
  ⟨T, ρ, S, g, al, s, w.bn fun v d S' g' al' H' s' l r w' => ⟨T, ρ, S', g', al', s', w'.bn fun vs ds S2 g2 al2 H2 s2 l2 r2 w2 => w2.rt' s2 (Reps.cons (Rep.mono l2.s l2.p _ _ r) r2)⟩⟩
theorem run_kw {pins : List (Addr × Obj)} {σ : L2.St} {H : Hp} {s : Shared} {Q : L2.VK} {us ws : List Value} {vs zs : List V} {k : Nat} {f : Addr} {fd : FuncData} {ps ks : List Str} {sp : Sp} (F : FnOk X.prog X.w X.K X.mg X.base (L2.CX X.prog X.w) k f fd ps sp) (hr : Room k X.A) (tk : Tk X E)
    (hb : BindsTo s fd ⟨us, ks.zip ws⟩ (ps.zip (us ++ ws))) (I : Inv X pins σ H s) (r : Vals vs us) (rz : Vals zs ws) (h : sp (vs ++ zs) H Q (E σ)) : wpAny (model X.prog X.w) X.A (call (.ref f) us (ks.zip ws)) (EP X pins σ Q) X.xe s := by
  refine wpAny_call (codeAny_mono (F.run X.A X.stack s H ⟨us, ks.zip ws⟩ (us ++ ws) (vs ++ zs) Q (E σ) hr I.env0 hb (r.append rz) h) fun z s' hz => ?_)
  match z, hz with
  | .error e, hz => exact passAt tk σ pins _ _ e s' I hz
  | .ok (.ret u), hz => exact I.after hz
  | .ok .next, hz => exact hz.elim
  | .ok .brk, hz => exact hz.elim
  | .ok .cont, hz => exact hz.elim
/-- e.m(k = x, ..) -/
theorem ve_methK {m C : Str} {ks : List Str} {F : List D → Mo D} {k : Nat} {kws : List Keyword} {pl : Sem Bool} {apos : Pos} (ok : MtOkK X k m C 1 ks F) (hr : Room k X.A) (tk : Tk X E) (ha : VE X O E a fa) (hk : VKw X O E kws fl)
    (hall : (backToKw pos (keywordEach kws X.env)).all (·.1.isSome) = true := by rfl) (hks : (backToKw pos (keywordEach kws X.env)).filterMap (·.1) = ks := by rfl) (hln : kws.length = ks.length := by rfl)
    (hpl : ((backTo pos (starEach [] X.env)).any (·.1) || (backToKw pos (keywordEach kws X.env)).any (·.1.isNone)) = false := by rfl)
    (hv : eval (.Call (.Attribute a m apos) [] kws pos) X.env = (eval a X.env >>= fun ov => standAt apos.atName >>= fun _ => holding [ov] (getMethod ov m pl) >>= fun p => callWith pos p.1 p.2 (backTo pos (starEach [] X.env)) (backToKw pos (keywordEach kws X.env))) := by rfl) :
    VE X O E (.Call (.Attribute a m apos) [] kws pos) (fMt m [(C, F)] fa (fun ρ => bnd (fl ρ) fun xs => grd (decide (xs.length = ks.length)) (ret xs))) := by
  refine ⟨fun pins s σ H Q I ⟨T, ρ, S, g, al, sr, w⟩ => PySem.W.methodCall_KW (pl := pl) (thn (ha.run pins s σ H (fun v H1 => ∃ x dx vs, v = .ref x ∧ H1 x = some (.ins (He.ga X.K C) dx vs) ∧ vs.lookup m = none ∧ lift (RRs X.K) X.K O E fl σ H1 fun us H2 => us.length = ks.length ∧ spF X.K F (.ref x :: us) H2 Q (E σ)) I ?_) fun u s1 ⟨v, H1, I1, rx, x, dx, vs, ev, hx, hl1, q⟩ => ?_) hv⟩
  · refine ⟨T, ρ, S, g, al, sr, w.bn fun v d S1 g1 al1 H1 s1 l1 r1 w1 => ?_⟩
    rw [bnd_opt] at w1
    split at w1
    · next F' e =>
      cases d <;> first | cases e | skip
      rename_i C' fs
      have e' : (if (fs.lookup m).isNone = true then findC C' [(C, F)] else none) = some F' := e
      split at e'
      · next hn =>
        unfold findC at e'
        split at e'
        · next eq =>
          cases e'
          subst eq
          have rr := r1
          cases r1 with | ins h1 h2 =>
          have hl := h2.lookup (x := m)
          rw [Option.isNone_iff_eq_none.mp hn] at hl
          refine ⟨_, _, _, rfl, reg_le _ _ h1, hl, T, ρ, S1, g1, al1, s1, ?_⟩
          have w2 := w1
          unfold Post at w2
          rw [wp_bnd, wp_bnd] at w2
          refine wp_mono w2 (fun ds S2 w3 us g2 al2 H2 s2 l2 r2 => ?_) fun _ _ _ q => q
          obtain ⟨c, w3⟩ := wp_grd.mp w3
          have c : ds.length = ks.length := of_decide_eq_true c
          refine ⟨by rw [r2.len]; exact c, call_spF (O := O) (T := T) (ρ := ρ) (g := g2) (al := al2) (σ := σ) s2 (.cons (rr.mono l2.s l2.p) r2) (S := S2) (xs := .ins _ fs :: ds) ?_⟩
          exact wp_mono w3 (fun d S' k v g' al' H' s' l r => k v g' al' H' s' (l2.trans l) r) fun C fs S' k g' al' H' dx s' l x => k g' al' H' dx s' (l2.trans l) x
        · unfold findC at e'; cases e'
      · cases e'
    · exact w1.elim
  · subst ev
    have eu : u = Value.ref x := rx
    subst eu
    obtain ⟨cl, f, fd, ps, hm, Fn, hb⟩ := ok
    refine getmeth_ok I1 hx cl hm hl1 (PySem.W.callWith_KW0 (first := [.ref x]) (h₀ := X.base) I.ok.mod.kin hm.kp hall (thn (hk.run pos pins s1 σ H1 _ I1 q) fun ws s2 ⟨zs, H2, I2, rz, ln, q2⟩ => ⟨I2.kIn, ?_⟩) hpl)
    rw [hks]
    exact run_kw (E := E) (us := [.ref x]) (vs := [.ref x]) Fn hr tk (hb s2 [.ref x] ws I2.kIn rfl (by rw [← rz.length]; exact ln)) I2 (.cons rfl .nil) rz q2
end
/-! ### the law's own def -/
section
variable {P : Program} {w : World} {K : PySem.W.Frag} {mg : Str → Option Value} {base : Heap}
def isTru : Fl → Prop
  | .rt (.bl true) => True
  | _ => False
/-- the law says True of these whole numbers -/
def LawSays (m : MoS) (n : Nat) (S : Objs.T) (ns : List Int) : Prop := wp (m (startD n [.lst (ns.map D.int)])) (fun r _ => isTru r.1) (fun _ _ _ => False) S
def spLw (K : PySem.W.Frag) (m : MoS) (n : Nat) : Sp := fun vs H Q _ => ∃ (a : Addr) (ns : List Int) (S : Objs.T) (al : List Addr), vs = [.ref a] ∧ Rd H a (.lst (ns.map V.int)) ∧ Objs.at_ K H (fun _ => none) al S ∧ LawSays m n S ns ∧ ∀ H', Q (.bl true) H'
theorem int_reps {I : Hp} {al : List Addr} : ∀ ns : List Int, Reps K I al (ns.map V.int) (ns.map D.int)
  | [] => .nil
  | n :: ns => .cons (.int n) (int_reps ns)
theorem law_v {f : Addr} {fd : FuncData} {d : He.DefD} {N : List Str} {x : Str} {O' : List Nat} {m : MoS} (F : FunD K d.name d.qual d.params d.body d.scope [] [] f fd) (S : FnScope N [x] d.scope)
    (hbody : ∀ (cdv : Value) (s : Shared) (H : Hp) (E : XK), VB (cxOf CX0 P w K mg base N d.qual d.scope f cdv callerA [] s H E) [] O' [] XS0 d.body m) : LawOk P w K mg base f fd [x] (spLw K m N.length) := by
  refine law_of F S (fun vs H Q E h => ?_) fun cdv s H vs Q E h => ?_
  · obtain ⟨a, ns, _, _, rfl, _⟩ := h
    rfl
  · obtain ⟨a, ns, S0, al, rfl, hR, ob, hw, q⟩ := h
    have e1 : reg (fun _ => 1) H 1 = H := by
      funext b
      exact if_pos rfl
    have en : ∀ n, n ≠ 1 → reg (fun _ => 1) H n = fun _ => none := fun n hn => by
      funext b
      exact if_neg (Ne.symm hn)
    have s0 : SR K [] (fun _ => none) [] S0 (fun _ => 1) al [] H := ⟨rfl, en 3 (by decide), by rw [e1, en 2 (by decide)]; exact ob, fun i d e _ => by simp at e, fun i d e _ => by simp at e⟩
    have r0 : Reps K (reg (fun _ => 1) H 1) al [.ref a] [.lst (ns.map D.int)] := Reps.one (.lst (by rw [e1]; exact hR) (int_reps ns))
    refine ⟨_, hbody cdv s H E, fun _ => none, startD N.length [.lst (ns.map D.int)], S0, fun _ => 1, al, s0.start r0, wp_mono hw (fun r S1 t => ?_) fun _ _ _ z => z.elim⟩
    obtain ⟨fl, ρ1⟩ := r
    cases fl with
    | rt d =>
      intro v g' al' H' s' l r'
      cases d <;> first | exact t.elim | skip
      rename_i b
      cases b
      · exact t.elim
      · cases r'; exact q H'
    | nx => exact t.elim
    | bk => exact t.elim
    | ct => exact t.elim
end
end Vl
set_option Elab.async false
set_option linter.all false
set_option maxRecDepth 100000
set_option maxHeartbeats 4000000
namespace Vl
open PySem PySem.Spec PyProof.Rows L2 Oc Os
variable [O2 : Objs2]
/-! ### the pen is made -/
def intD : D → Option Int
  | .int i => some i
  | _ => none
def intsD : List D → Option (List Int)
  | [] => some []
  | d :: ds => match intD d, intsD ds with
    | some b, some bs => some (b :: bs)
    | _, _ => none
theorem ints_v {K : PySem.W.Frag} {I : Hp} {al : List Addr} : ∀ {vs : List V} {ds : List D} {bs : List Int}, Reps K I al vs ds → intsD ds = some bs → vs = bs.map V.int
  | _, _, _, .nil, e => by cases e; rfl
  | _, _, _, .cons (d := d) r t, e => by
    unfold intsD at e
    split at e
    · next b bs e1 e2 =>
      cases e
      cases d <;> first | cases e1 | skip
      cases r
      rw [List.map_cons, ← ints_v t e2]
    · cases e
def penOf : List (Key × D) → Option PenS
  | [(k1, .lst xs), (k2, .int t), (k3, .int l)] => if k1 = .inr "cells" ∧ k2 = .inr "turn" ∧ k3 = .inr "left" then (intsD xs).map fun ns => ⟨ns, t, l⟩ else none
  | _ => none
def penNew (kvs : List (Key × D)) : Mo D := fun S => match penOf kvs, S.1 with
  | some st, none => some (.ok (.hnd 0), (some st, S.2))
  | _, _ => none
def fPen (f : Env → Mo (List (Key × D))) : Env → Mo D := fun ρ => bnd (f ρ) penNew
theorem pen_merge (c : Addr) (t l : Int) : mergeK [] [((.inr "cells" : Key), V.ref c), (.inr "turn", .int t), (.inr "left", .int l)] = penK c t l := by
  have e1 : putK ([] : List (Key × V)) (.inr "cells") (.ref c) = [(.inr "cells", .ref c)] := rfl
  have e2 : putK [((.inr "cells" : Key), V.ref c)] (.inr "turn") (.int t) = [(.inr "cells", .ref c), (.inr "turn", .int t)] := by
    unfold putK
    rw [if_neg (by simp only [List.any_cons, List.any_nil, Bool.or_false, decide_eq_true_eq]; exact k_ct)]
    rfl
  have e3 : putK [((.inr "cells" : Key), V.ref c), (.inr "turn", .int t)] (.inr "left") (.int l) = penK c t l := by
    unfold putK
    rw [if_neg (by simp only [List.any_cons, List.any_nil, Bool.or_false, Bool.or_eq_true, decide_eq_true_eq]; exact fun z => z.elim k_cl k_tl)]
    rfl
  show putK (putK (putK ([] : List (Key × V)) (.inr "cells") (.ref c)) (.inr "turn") (.int t)) (.inr "left") (.int l) = _
  rw [e1, e2, e3]
section
variable {X : Cx} {O : List Nat} {E : XS} {k v : Expr} {ks : List (Option Expr)} {vs : List Expr} {f : Env → Mo (List (Key × D))} {pos : Pos}
theorem SR.penIn {K : PySem.W.Frag} {T : Hp} {ρ : Env} {g : Addr → Nat} {al : List Addr} {σ : L2.St} {H : Hp} {p c : Addr} {z : Objs2.U} {st : PenS} (h : SR K O (upd T p (.dK [])) ρ (Ob := penObjs) (none, z) g al σ H) (hT : T p = none) (hc : Rd (reg g H 1) c (.lst (st.cells.map V.int))) :
    ∃ g2 al2, SR K O T ρ (Ob := penObjs) (some st, z) g2 al2 σ (upd H p (.dK (penK c st.turn st.left))) ∧ Le g al H g2 al2 (upd H p (.dK (penK c st.turn st.left))) ∧ al2[0 + 1]? = some p := by
  have t3 := h.asideAt
  have t : g p = 3 := reg_tag t3
  have hp : H p = some (.dK []) := reg_le _ _ t3
  obtain ⟨y, ea, hat⟩ : ∃ y, al = [y] ∧ Objs2.at2 K (reg g H 1) (reg g H 2) [] z := h.ob
  subst ea
  let H' := upd H p (.dK (penK c st.turn st.left))
  have en : ∀ m, m ≠ 2 → m ≠ 3 → reg (put g p 2) H' m = reg g H m := fun m m2 m3 => by
    funext b
    show reg (put g p 2) (upd H p _) m b = _
    unfold reg put
    by_cases hb : b = p
    · rw [if_pos hb, if_neg (Ne.symm m2), hb, if_neg (by rw [t]; exact Ne.symm m3)]
    · rw [if_neg hb, upd_ne hb]
  have e3 : reg (put g p 2) H' 3 = T := by
    funext b
    have q : reg g H 3 b = upd T p (.dK []) b := by rw [h.fr]
    show reg (put g p 2) (upd H p _) 3 b = _
    unfold reg at q
    unfold reg put
    by_cases hb : b = p
    · rw [if_pos hb, if_neg (by decide), hb, hT]
    · rw [if_neg hb, upd_ne hb, q, upd_ne hb]
  have e2 : reg (put g p 2) H' 2 = upd (reg g H 2) p (.dK (penK c st.turn st.left)) := by
    funext b
    show reg (put g p 2) (upd H p _) 2 b = _
    unfold reg put
    by_cases hb : b = p
    · rw [if_pos hb, if_pos rfl, hb, upd_same, upd_same]
    · rw [if_neg hb, upd_ne hb, upd_ne hb]
  have n2 : reg g H 2 p = none := by
    unfold reg
    rw [if_neg (by rw [t]; decide)]
  have e1 := en 1 (by decide) (by decide)
  have e4 := en 4 (by decide) (by decide)
  have le : Le g [y] H (put g p 2) [y, p] H' := ⟨⟨by rw [e1]; exact .refl, ⟨[p], rfl⟩⟩, e4⟩
  refine ⟨put g p 2, [y, p], ⟨h.len, e3, ?_, fun i d e q => ?_, fun i d e q => ?_⟩, le, rfl⟩
  · refine ⟨p, c, y, [], rfl, by rw [e2, upd_same], by rw [e1]; exact hc, ?_⟩
    have hh : hideA (upd (reg g H 2) p (.dK (penK c st.turn st.left))) p = reg g H 2 := by
      funext b
      unfold hideA
      by_cases hb : b = p
      · rw [if_pos hb, hb, n2]
      · rw [if_neg hb, upd_ne hb]
    rw [e1, e2, hh]
    exact hat
  · obtain ⟨v, q1, q2⟩ := h.sl i d e q
    exact ⟨v, q1, q2.mono le.s le.p⟩
  · obtain ⟨a, w, q1, q2, q3, q4⟩ := h.ow i d e q
    exact ⟨a, w, q1, by rw [e4]; exact q2, q3.mono le.s le.p, q4⟩
theorem ve_pen (h : VPs X O E pos ks vs f) (hall : ks.all (·.isSome) = true := by rfl) (hl : ks.length = vs.length := by rfl) (h0 : ks ≠ [] := by exact fun z => nomatch z) (h15 : ks.length ≤ 15 := by decide) : VE X O E (.Dict ks vs pos) (fPen f) := by
  obtain ⟨trs, p, q⟩ := h
  refine PE.weak (pe_disp p hall hl h0 h15) fun σ H Q ⟨T, ρ, S, g, al, s, w⟩ pa np => q σ _ _ ?_
  unfold Post fPen at w
  rw [wp_bnd] at w
  have hT : T pa = none := by rw [← s.fr]; exact reg_none np
  refine ⟨upd T pa (.dK []), ρ, S, put g pa 3, al, s.aside np, wp_mono w (fun kvs S1 w1 us g1 al1 H1 s1 l1 r1 => ?_) fun C fs S1 k g1 al1 H1 dx s1 l1 x => ?_⟩
  · have e1 : H1 pa = some (.dK []) := reg_le _ _ s1.asideAt
    have w1 : wp (penNew kvs) _ _ S1 := w1
    unfold wp penNew at w1
    obtain ⟨o, z⟩ := S1
    dsimp only at w1
    cases hp : penOf kvs with
    | none => rw [hp] at w1; exact w1.elim
    | some st =>
      rw [hp] at w1
      cases o with
      | some _ => exact w1.elim
      | none =>
        dsimp only at w1
        unfold penOf at hp
        split at hp
        · next k1 xs k2 t k3 l =>
          split at hp
          · next hk =>
            obtain ⟨rfl, rfl, rfl⟩ := hk
            obtain ⟨ns, hn, rfl⟩ := Option.map_eq_some_iff.mp hp
            cases r1 with | cons a1 r1 =>
            cases r1 with | cons a2 r1 =>
            cases r1 with | cons a3 r1 =>
            cases r1
            cases a2
            cases a3
            cases a1 with | lst b1 b2 =>
            rename_i c vs
            have ev := ints_v b2 hn
            subst ev
            obtain ⟨g2, al2, s3, l3, h3⟩ := s1.penIn (st := ⟨ns, t, l⟩) hT b1
            refine ⟨e1, _, rfl, by show 3 ≤ 15; decide, ?_⟩
            rw [pen_merge]
            exact w1 (.ref pa) g2 al2 _ s3 (((Le.asideNew np).trans l1).trans l3) (.hnd h3)
          · cases hp
        · cases hp
  · obtain ⟨s3, l3⟩ := s1.forget hT
    have t1 : g1 pa = 3 := reg_tag s1.asideAt
    refine k _ al1 H1 dx s3 (((Le.asideNew np).trans l1).trans l3) ?_
    have e5 : reg (put g1 pa 5) H1 1 = reg g1 H1 1 := by
      funext b
      unfold reg put
      by_cases hb : b = pa
      · rw [if_pos hb, if_neg (by decide), hb, if_neg (by rw [t1]; decide)]
      · rw [if_neg hb]
    rw [e5]
    exact x
end
end Vl
set_option Elab.async false
set_option linter.all false
set_option maxRecDepth 100000
set_option maxHeartbeats 4000000
namespace Vl
open PySem PySem.Spec PyProof.Rows L2 Oc Os
theorem callR30 (env : PySem.Env) : Room 30 (callerA.deeper env) := ⟨rfl, (by decide : callerA.depth + 1 + 3 * 30 + 5 < recursionLimit), (by decide : callerA.units + 3 + 16 * 30 + 200 < cLine)⟩
theorem callG (env : PySem.Env) : (callerA.deeper env).guards = some [] := rfl
theorem hu100 {k : Nat} {A : PySem.Around} (hr : Room k A) : A.units + 100 < PySem.cLine := by
  have := hr.un
  omega
theorem in_nil {p : Str → Prop} : ∀ C ∈ ([] : List Str), p C := fun _ h => absurd h List.not_mem_nil
theorem in_cons {p : Str → Prop} {c : Str} {cs : List Str} (h : p c) (t : ∀ C ∈ cs, p C) : ∀ C ∈ c :: cs, p C := fun C hC => (List.mem_cons.mp hC).elim (fun e => e ▸ h) (t C)
section
variable [Ob : Objs] {P : Program} {w : World} {K : PySem.W.Frag} {mg : Str → Option Value} {base : Heap}
theorem VFn.mono {j k : Nat} {f : Addr} {F : List D → Mo D} (h : VFn P w K mg base j f F) (l : j ≤ k) : VFn P w K mg base k f F := by
  obtain ⟨fd, ps, a, b⟩ := h
  exact ⟨fd, ps, a.mono l, b⟩
theorem VIn.mono {j k : Nat} {C : Str} {F : List D → Mo D} (h : VIn P w K mg base j C F) (l : j ≤ k) : VIn P w K mg base k C F := by
  obtain ⟨f, a, b⟩ := h
  exact ⟨f, a, b.mono l⟩
theorem VCal.mono {j k : Nat} {x : Str} {ps : List Str} {F : List D → Mo D} (C : VCal P w K mg base j x ps F) (l : j ≤ k) : VCal P w K mg base k x ps F := by
  obtain ⟨f, fd, a, b⟩ := C.ex
  exact ⟨f, fd, a.mono l, b⟩
theorem pso_law {N : List Str} {qual : Str} {scope : Scope} {f : Addr} {cdv : Value} {s : Shared} {H : Hp} {E : XK} : PassesOwn (model (cxOf CX0 P w K mg base N qual scope f cdv callerA [] s H E).prog (cxOf CX0 P w K mg base N qual scope f cdv callerA [] s H E).w) (cxOf CX0 P w K mg base N qual scope f cdv callerA [] s H E).A (cxOf CX0 P w K mg base N qual scope f cdv callerA [] s H E).env (cxOf CX0 P w K mg base N qual scope f cdv callerA [] s H E).xe := passes_of rfl
end
theorem flat0 : Flat XS0 := fun _ _ _ _ _ h => h
end Vl
set_option Elab.async false
set_option linter.all false
set_option maxRecDepth 100000
set_option maxHeartbeats 4000000
namespace Vl
open PySem PySem.Spec PyProof.Rows L2 Oc Os
/-! ### sum(lists, start) -/
def lobj (js : List Value) (m : Nat) : Obj := { cls := .type "list", data := .seq js.toArray m }
def lens : List (List Value) → Nat
  | [] => 0
  | x :: xs => x.length + lens xs
section
variable {prog : Program} {w : World} {A : Around} {R : Result → Shared → Prop} {I : Addr} {fp wr : List Addr} {n : Nat} {P : Nat → Value → Prop} {St : Nat → Heap → Prop}
theorem sum_turns (W : Walks prog w A.in1 I fp wr n P St) (S N0 : Addr) (hSf : S ∉ fp) (hN : N0 ≤ S) (hfp : ∀ b ∈ fp, b < S) :
    ∀ (lss : List (List Value)) (i : Nat) (s : Shared) (acc : List Value) (L : Addr) (m c : Nat), lss.length + i = n → St i s.heap →
    (∀ (j : Nat) (v : Value) (js : List Value), P (i + j) v → lss[j]? = some js → ∃ b k, v = .ref b ∧ b ∉ wr ∧ b ≠ S ∧ s.heap.get? b = some (lobj js k)) →
    s.heap.get? S = some { cls := .type "list", dict := none, data := .seq #[.ref L] c, slots := #[] } → s.heap.get? L = some (lobj acc m) → L ≠ S → L ∉ wr → acc.length + lens lss ≤ sizeLine →
    (∀ h' tk L' k, (∀ b o, b ∉ wr → b ≠ S → s.heap.get? b = some o → h'.get? b = some o) → h'.get? L' = some (lobj (acc ++ lss.flatten) k) → (lss = [] ∧ L' = L ∨ N0 ≤ L') → R (.ok (.ret (.ref L'))) { s with heap := h', toks := tk }) →
    codeAny (model prog w) A (.builtin "sum.loop" ⟨[.ref I, .ref S, rawInt 2, rawInt 0], []⟩) R s := by
  intro lss
  induction lss with
  | nil =>
    intro i s acc L m c hn hst _ hS hL hne hw hz hR
    have hin : i = n := by simpa using hn
    subst hin
    refine codeAny_builtin F.entry_sum_loop ?_
    rw [Around.under_plainId F.plain_sum_loop _]
    show wpAny _ A.in1 (seqItems? (.ref S) >>= _) _ _ s
    refine wpAny_bind (wpAny_seqItems hS rfl ?_)
    show wpAny _ A.in1 (tryCatch (pyNext (.ref I)) _ >>= _) _ _ s
    refine wpAny_bind (wpAny_tryCatch (W.done s _ _ hst fun h' tk hk => ?_))
    exact wpAny_pure (hR h' tk L m (fun b o hb _ e => hk b o hb e) (by rw [List.flatten_nil, List.append_nil]; exact hk L _ hw hL) (.inl ⟨rfl, rfl⟩))
  | cons x lss ih =>
    intro i s acc L m c hn hst hP hS hL hne hw hz hR
    have hlt : i < n := by rw [List.length_cons] at hn; omega
    refine codeAny_builtin F.entry_sum_loop ?_
    rw [Around.under_plainId F.plain_sum_loop _]
    show wpAny _ A.in1 (seqItems? (.ref S) >>= _) _ _ s
    refine wpAny_bind (wpAny_seqItems hS rfl ?_)
    show wpAny _ A.in1 (tryCatch (pyNext (.ref I)) _ >>= _) _ _ s
    refine wpAny_bind (wpAny_tryCatch (W.item i s _ _ hlt hst fun v h' tk hv hst' hk => ?_))
    obtain ⟨b, k, ev, hbw, hbS, hb⟩ := hP 0 v x hv rfl
    subst ev
    have hSw : S ∉ wr := fun q => hSf (W.sub _ q)
    have hS1 := hk S _ hSw hS
    have hL1 := hk L _ hw hL
    have hb1 := hk b _ hbw hb
    have hz' : acc.length + (x.length + lens lss) ≤ sizeLine := hz
    show wpAny _ A.in1 ((holding [Value.ref b] (binaryOp .Add (.ref L) (.ref b))).attempt >>= _) _ _ _
    refine wpAny_bind (wpAny_attempt (wpAny_holding (PySem.P.add_list hL1 hb1 ?_ (by rw [List.size_toArray, List.size_toArray]; omega))))
    have ea : acc.toArray ++ x.toArray = (acc ++ x).toArray := by simp
    rw [ea]
    let h2 := h'.push { cls := .type "list", data := .seq (acc ++ x).toArray }
    have p2 : ∀ (q : Addr) (o : Obj), h'.get? q = some o → h2.get? q = some o := fun q o e => Heap.get?_push_of_some _ e
    have hS2 := p2 _ _ hS1
    have new2 : h2.get? h'.objs.size = some (lobj (acc ++ x) 0) := Heap.get?_push_size _ rfl
    show wpAny _ A.in1 (updateSeq S (fun _ => #[Value.ref h'.objs.size]) >>= _) _ _ _
    refine wpAny_bind (wpAny_updateSeq hS2 rfl ?_)
    have hS3 := Heap.get?_update_self (Obj.mapSeq fun _ => #[Value.ref h'.objs.size]) hS2 rfl
    refine wpAny_bind (wpAny_letGo ?_)
    have hSlt : S < h'.objs.size := Heap.lt_size hS1
    have hnS : S ≠ h'.objs.size := Nat.ne_of_lt hSlt
    have p3 : ∀ (q : Addr) (o : Obj), q ≠ S → h2.get? q = some o → (h2.update S (Obj.mapSeq fun _ => #[Value.ref h'.objs.size])).get? q = some o := fun q o ne e => (Heap.get?_update_other _ _ (Ne.symm ne)).trans e
    show wpAny _ A.in1 (updateSeq S (fun _ => #[Value.ref h'.objs.size]) >>= _) _ _ _
    refine wpAny_bind (wpAny_updateSeq hS3 rfl (wpAny_pure ⟨plainId_quiet F.plain_sum_loop _, ?_⟩))
    have hS4 := Heap.get?_update_self (Obj.mapSeq fun _ => #[Value.ref h'.objs.size]) hS3 rfl
    have p4 : ∀ (q : Addr) (o : Obj), q ≠ S → h2.get? q = some o → ((h2.update S (Obj.mapSeq fun _ => #[Value.ref h'.objs.size])).update S (Obj.mapSeq fun _ => #[Value.ref h'.objs.size])).get? q = some o := fun q o ne e => (Heap.get?_update_other _ _ (Ne.symm ne)).trans (p3 q o ne e)
    refine ih (i + 1) _ (acc ++ x) h'.objs.size 0 _ (by rw [List.length_cons] at hn; omega) (W.frame _ h' _ hst' fun q hq o e => p4 q o (fun z => hSf (by rw [← z]; exact hq)) (p2 q o e)) (fun j v js hv hj => ?_) hS4 (p4 _ _ (Ne.symm hnS) new2) (Ne.symm hnS) (fun z => Nat.lt_asymm (hfp _ (W.sub _ z)) hSlt) (by rw [List.length_append]; omega) fun h3 tk3 L' k3 q1 q2 q3 => ?_
    · obtain ⟨b', k', e1, e2, e3, e4⟩ := hP (j + 1) v js (by rw [show i + (j + 1) = i + 1 + j by omega]; exact hv) (by simpa using hj)
      exact ⟨b', k', e1, e2, e3, p4 _ _ e3 (p2 _ _ (hk _ _ e2 e4))⟩
    · refine hR h3 tk3 L' k3 (fun q o hq hqS e => q1 q o hq hqS (p4 _ _ hqS (p2 _ _ (hk _ _ hq e)))) (by rw [List.flatten_cons, ← List.append_assoc]; exact q2) (.inr ?_)
      rcases q3 with ⟨_, e⟩ | e
      · rw [e]; exact Nat.le_of_lt (Nat.lt_of_le_of_lt hN hSlt)
      · exact e
end
/-- lists of a list, one behind another, behind those of a start -/
def rSumL (K : PySem.W.Frag) : List V → Hp → VK → Prop := fun vs H Q => ∃ (a b : Addr) (xs : List V) (yss : List (List V)) (ys : List V), vs = [.ref a, .ref b] ∧ Rd H a (.lst xs) ∧ Paired (fun x zs => ∃ c, x = V.ref c ∧ Rd H c (.lst zs)) xs yss ∧ Rd H b (.lst ys) ∧ ys.length + (yss.map (·.length)).sum ≤ sizeLine ∧
  (xs = [] → Q (.ref b) H) ∧ ∀ p, H p = none → Q (.ref p) (upd H p (.lst (ys ++ yss.flatten)))
theorem lens_map : ∀ {yss : List (List V)} {lss : List (List Value)}, Paired Vals yss lss → lens lss = (yss.map (·.length)).sum
  | _, _, .nil => rfl
  | _, _, .cons r t => by rw [List.map_cons, List.sum_cons, lens, lens_map t, ← r.length]
theorem vals_flat : ∀ {yss : List (List V)} {lss : List (List Value)}, Paired Vals yss lss → Vals yss.flatten lss.flatten
  | _, _, .nil => .nil
  | _, _, .cons r t => by rw [List.flatten_cons, List.flatten_cons]; exact r.append (vals_flat t)
theorem lists_of {X : Cx} {pins : List (Addr × Obj)} {σ : L2.St} {H : Hp} {s : Shared} (I : Inv X pins σ H s) : ∀ {xs : List V} {us : List Value} {yss : List (List V)}, Vals xs us → Paired (fun x zs => ∃ c, x = V.ref c ∧ Rd H c (.lst zs)) xs yss →
    ∃ lss, Paired Vals yss lss ∧ lss.length = us.length ∧ ∀ (j : Nat) (v : Value) (js : List Value), us[j]? = some v → lss[j]? = some js → ∃ b k, v = .ref b ∧ s.heap.get? b = some (lobj js k)
  | _, _, _, .nil, .nil => ⟨[], .nil, rfl, fun j v js h => by simp at h⟩
  | _, _, _, .cons r t, .cons q p => by
    obtain ⟨lss, h1, h2, h3⟩ := lists_of I t p
    obtain ⟨c, e, hc⟩ := q
    subst e
    cases r
    obtain ⟨z, its, n, rv, e2⟩ := hc.ok I.hok
    refine ⟨its :: lss, .cons rv h1, by rw [List.length_cons, List.length_cons, h2], fun j v js hv hj => ?_⟩
    cases j with
    | zero => simp at hv hj; subst hv hj; exact ⟨c, n, rfl, e2⟩
    | succ j => exact h3 j v js (by simpa using hv) (by simpa using hj)
theorem args_sum2 (a b : Value) : argsOk "sum" ⟨[a, b], []⟩ := by unfold argsOk; kernel_rfl
theorem cr_sumL {X : Cx} (hc : X.calm = true) : CallR X (.builtin "sum") (rSumL X.K) := by
  intro pins s σ H vs us Q I r h
  obtain ⟨a, b, xs, yss, ys, rfl, ha, hp, hb, hz, q0, q1⟩ := h
  obtain ⟨u1, u2, rfl, r1, r2⟩ := vals2 r
  cases r1
  cases r2
  obtain ⟨za, its, na, rva, ea⟩ := ha.ok I.hok
  obtain ⟨zb, jts, nb, rvb, eb⟩ := hb.ok I.hok
  obtain ⟨lss, l1, l2, l3⟩ := lists_of I rva hp
  refine call_function_tree F.kind_sum F.plain_sum F.entry_sum (args_sum2 _ _) ?_
  unfold Builtin.«sum»
  simp only [List.length_cons, List.length_nil]
  rw [if_neg (by decide)]
  refine wpAny_bind (wpAny_of_eq (show Builtin.Builtins.bindParams "sum" ["start"] 0 ⟨[.ref b], []⟩ = pure [some (.ref b)] from rfl) ?_)
  have lA : s.heap.IsList a its.toArray := ⟨_, ea, rfl, na, rfl⟩
  refine wpAny_bind (iter_any lA fun s2 e2 st hne => ?_)
  have hb2 : s2.heap.get? b = some (lobj jts nb) := by rw [e2]; exact Heap.get?_push_of_some _ eb
  have tb : s2.TypeIs (.ref b) "list" := ⟨_, hb2, rfl⟩
  refine wpAny_bind (wpAny_pure ?_)
  simp only [List.forIn_cons, List.forIn_nil]
  refine wpAny_bind (wpAny_bind (wpAny_bind (wpAny_isInstance (T := "list") (b := false) tb (by rfl) ?_)))
  simp only [Bool.false_eq_true, if_false]
  refine wpAny_pure (wpAny_bind (wpAny_bind (wpAny_isInstance (T := "list") (b := false) tb (by rfl) ?_)))
  simp only [Bool.false_eq_true, if_false]
  refine wpAny_pure (wpAny_bind (wpAny_bind (wpAny_isInstance (T := "list") (b := false) tb (by rfl) ?_)))
  simp only [Bool.false_eq_true, if_false]
  refine wpAny_pure (wpAny_pure ?_)
  refine wpAny_bind (wpAny_newObj_type ?_)
  have sz : s.heap.objs.size < s2.heap.objs.size := by
    rw [e2]
    exact Heap.lt_size (Heap.get?_push_size _ rfl)
  have W : Walks X.prog X.w X.A.in1 s.heap.objs.size [s.heap.objs.size, a] [s.heap.objs.size] its.toArray.size (fun i v => its.toArray[i]? = some v) fun i h => h.IsListIter s.heap.objs.size a i ∧ h.IsList a its.toArray := Walks.list (A := X.A.in1) (I.ok.hd hc) _ a hne its.toArray
  have keep : ∀ (q : Addr) (o : Obj), s.heap.get? q = some o → s2.heap.get? q = some o := fun q o e => by rw [e2]; exact Heap.get?_push_of_some _ e
  have lt1 : ∀ {q : Addr} {o : Obj}, s.heap.get? q = some o → q < s.heap.objs.size := fun e => Heap.lt_size e
  have hn : lss.length + 0 = its.toArray.size := by rw [l2, List.size_toArray]; rfl
  refine wpAny_pure ⟨plainId_quiet F.plain_sum_loop _, sum_turns W s2.heap.objs.size s.heap.objs.size (fun z => ?_) (Nat.le_of_lt sz) (fun q hq => ?_) lss 0 _ jts b nb 0 hn (W.frame 0 s2.heap _ st fun q _ o e => Heap.get?_push_of_some _ e) (fun j v js hv hj => ?_) (Heap.get?_push_size _ rfl) (Heap.get?_push_of_some _ hb2) (Nat.ne_of_lt (Nat.lt_trans (lt1 eb) sz)) (fun z => ?_) (by rw [← rvb.length, lens_map l1]; exact hz) fun h' tk L' k q2 q3 q4 => ?_⟩
  · simp at z
    rcases z with z | z
    · exact absurd z (Nat.ne_of_gt sz)
    · exact absurd z (Nat.ne_of_gt (Nat.lt_trans (lt1 ea) sz))
  · simp at hq
    rcases hq with z | z
    · rw [z]; exact sz
    · rw [z]; exact Nat.lt_trans (lt1 ea) sz
  · obtain ⟨c, k, e1, e3⟩ := l3 j v js (by simpa using hv) hj
    exact ⟨c, k, e1, by simpa using Nat.ne_of_lt (lt1 e3), Nat.ne_of_lt (Nat.lt_trans (lt1 e3) sz), Heap.get?_push_of_some _ (keep _ _ e3)⟩
  · simp at z
    exact absurd z (Nat.ne_of_lt (lt1 eb))
  · have all : ∀ (q : Addr) (o : Obj), s.heap.get? q = some o → h'.get? q = some o := fun q o e => q2 q o (by simpa using Nat.ne_of_lt (lt1 e)) (Nat.ne_of_lt (Nat.lt_trans (lt1 e) sz)) (Heap.get?_push_of_some _ (keep _ _ e))
    subst e2
    rcases q4 with ⟨e, e3⟩ | le
    · subst e3
      have ex : xs = [] := by
        have z := rva.length
        rw [← l2, e] at z
        exact List.eq_nil_of_length_eq_zero z
      exact ⟨.ref L', H, I.kept all, rfl, q0 ex⟩
    · have rv : Vals (ys ++ yss.flatten) (jts ++ lss.flatten) := rvb.append (vals_flat l1)
      refine ⟨.ref L', _, I.laid (a := L') (o := .lst (ys ++ yss.flatten)) (t' := tk) all le ⟨?_, jts ++ lss.flatten, k, rv, q3⟩, rfl, q1 L' (I.hok.fresh le)⟩
      rw [List.length_append, List.length_flatten]
      exact hz
variable [Ob : Objs]
def lstsD : List D → Option (List (List D))
  | [] => some []
  | d :: ds => match lstD d, lstsD ds with
    | some b, some bs => some (b :: bs)
    | _, _ => none
theorem lsts_v {K : PySem.W.Frag} {g : Addr → Nat} {H : Hp} {al : List Addr} : ∀ {vs : List V} {ds : List D} {xss : List (List D)}, Reps K (reg g H 1) al vs ds → lstsD ds = some xss → ∃ yss : List (List V), Paired (fun x zs => ∃ c, x = V.ref c ∧ Rd H c (.lst zs)) vs yss ∧ Reps K (reg g H 1) al yss.flatten xss.flatten ∧ yss.map (·.length) = xss.map (·.length)
  | _, _, _, .nil, e => by cases e; exact ⟨[], .nil, .nil, rfl⟩
  | _, _, _, .cons (d := d) r t, e => by
    unfold lstsD at e
    split at e
    · next b bs e1 e2 =>
      cases e
      obtain ⟨yss, h1, h2, h3⟩ := lsts_v t e2
      cases d <;> first | cases e1 | skip
      cases r with | lst a q =>
      exact ⟨_ :: yss, .cons ⟨_, rfl, rd_reg a⟩ h1, by rw [List.flatten_cons, List.flatten_cons]; exact q.append h2, by rw [List.map_cons, List.map_cons, h3, q.len]⟩
    · cases e
def kSumL : List D → Mo D
  | [.lst ls, .lst st] => bnd (opt (lstsD ls)) fun xss => grd (decide (st.length + (xss.map (·.length)).sum ≤ LIM)) (ret (.lst (st ++ xss.flatten)))
  | _ => nop
section
variable {X : Cx} {O : List Nat} {E : XS}
theorem by_sumL : ∀ us xs T ρ S g al σ H Q, SR X.K O T ρ S g al σ H → Reps X.K (reg g H 1) al us xs → Post (RR X.K) X.K O E T ρ σ g al H (kSumL xs) S Q → rSumL X.K us H Q := fun us xs T ρ S g al σ H Q s r w => by
  unfold kSumL at w
  split at w
  · next ls st =>
    rw [bnd_opt] at w
    split at w
    · next xss e =>
      obtain ⟨c, w⟩ := w.gd
      cases r with | cons r1 r2 =>
      cases r2 with | cons r2 r3 =>
      cases r3
      cases r1 with | lst ha b1 =>
      cases r2 with | lst hb b2 =>
      obtain ⟨yss, h1, h2, h3⟩ := lsts_v b1 e
      refine ⟨_, _, _, yss, _, rfl, rd_reg ha, h1, rd_reg hb, by rw [h3, b2.len]; exact lim (of_decide_eq_true c), fun e0 => ?_, fun p np => ?_⟩
      · subst e0
        cases b1
        cases e
        rw [List.flatten_nil, List.append_nil] at w
        exact w.rt' s (.lst hb b2)
      · exact w.rt (s.alloc np) rfl (Le.alloc np) (.lst (.inl (alloc_at np)) ((b2.append h2).mono (Le.alloc (al := al) np).s List.prefix_rfl))
    · exact w.elim
  · exact w.elim
theorem ve_sumL {e : Expr} {es : List Expr} {fl : Env → Mo (List D)} {pos : Pos} {x : Str} {p : Pos} (hc : X.calm = true) (hx : x = "sum") (hg : Gl X x) (hm : X.mg x = none) (hv : bootBuiltins x = some (.builtin "sum")) (ha : VA X O E (e :: es) fl) (hn : x ≠ "__name__" := by decide) (hdb : (x == ("__debug__" : Str)) = false := by decide)
    (he : starEach (e :: es) X.env = (false, eval e X.env) :: starEach es X.env := by rfl) (hpl : (backTo pos (starEach es X.env)).any (·.1) = false := by rfl) : VE X O E (.Call (.Name x p) (e :: es) [] pos) (fN fl kSumL) :=
  PE.weak (pe_callB (cr_sumL hc) hg hm hv ha hn hdb he hpl) fun _ _ _ h => liftA by_sumL h
end
/-- a call with keywords, in order, no defaults -/
theorem kwN {K : PySem.W.Frag} {x qual : Str} {params : Arguments} {body : List Stmt} {scope : Scope} {kws : List (Str × V)} {f : Addr} {fd : FuncData} {ps : List Str} (F : FunD K x qual params body scope [] kws f fd) (n : Nat) (ks : List Str)
    (h : ∀ (kV doc pm cdv ct : Value) (an : Option Addr) (us ws : List Value), us.length = n → ws.length = ks.length → bindArgs (PySem.W.fnOf x qual params body scope .none kV doc pm an cdv ct) ⟨us, ks.zip ws⟩ = pure (ps.zip (us ++ ws))) (s : Shared) (us ws : List Value) (h1 : us.length = n) (h2 : ws.length = ks.length) : BindsTo s fd ⟨us, ks.zip ws⟩ (ps.zip (us ++ ws)) := by
  obtain ⟨oc, od, dV, kV, doc, pm, an, cdv, ct, osl, rfl, lk, hcd, hD, hK⟩ := F.ex
  rcases hD with ⟨_, rfl⟩ | ⟨e, _⟩
  · exact .of_eq (h kV doc pm cdv ct an us ws h1 h2)
  · exact absurd rfl e
end Vl
set_option Elab.async false
set_option linter.all false
set_option maxRecDepth 100000
set_option maxHeartbeats 4000000
namespace Vl
open PySem PySem.Spec PyProof.Rows L2 Oc Os
/-! ### what a function does, step by step -/
section
variable [Ob : Objs] {α β : Type} {Q : α → Objs.T → Prop} {E : Str → List (Str × D) → Objs.T → Prop} {S : Objs.T}
theorem w_bnd {m : Mo α} {f : α → Mo β} {Q : β → Objs.T → Prop} : wp (bnd m f) Q E S = wp m (fun a S1 => wp (f a) Q E S1) E S := propext wp_bnd
theorem w_ret {a : α} : wp (ret a) Q E S = Q a S := rfl
theorem w_nop : wp (nop : Mo α) Q E S = False := rfl
theorem w_some {a : α} : wp (opt (some a)) Q E S = Q a S := rfl
theorem w_none : wp (opt (none : Option α)) Q E S = False := rfl
theorem w_grd {b : Bool} {m : Mo α} : wp (grd b m) Q E S = (b = true ∧ wp m Q E S) := propext wp_grd
theorem w_grp {p : Prop} {m : Mo α} : wp (grp p m) Q E S = (p ∧ wp m Q E S) := propext wp_grp
theorem w_nox {m : Mo α} : wp (nox m) Q E S = wp m Q (fun _ _ _ => False) S := by
  unfold wp nox
  cases m S with
  | none => rfl
  | some p =>
    obtain ⟨o, S1⟩ := p
    cases o <;> rfl
theorem w_if {p : Prop} [Decidable p] {m n : Mo α} : wp (if p then m else n) Q E S = if p then wp m Q E S else wp n Q E S := by
  split <;> rfl
/-- from a word on what m does to what is wanted -/
theorem wp.to {m : Mo α} {Q' : α → Objs.T → Prop} (h : wp m Q' (fun _ _ _ => False) S) (k : ∀ a S1, Q' a S1 → Q a S1) : wp m Q E S := wp_mono h k fun _ _ _ z => z.elim
/-- for loops, by a word that holds ahead of each turn -/
theorem for_go {t : D → Env → Option Env} {body : MoS} {Q : Fl × Env → Objs.T → Prop} (Iv : Nat → Env → Objs.T → Prop) : ∀ (ds : List D) (i : Nat) (ρ : Env) (S : Objs.T), Iv i ρ S →
    (∀ (j : Nat) (d : D) (ρ1 : Env) (S1 : Objs.T), ds[j]? = some d → Iv (i + j) ρ1 S1 → ∃ ρ2, t d ρ1 = some ρ2 ∧ wp (body ρ2) (fun r S2 => match r.1 with | .nx => Iv (i + j + 1) r.2 S2 | .ct => Iv (i + j + 1) r.2 S2 | .bk => Q (.nx, r.2) S2 | .rt v => Q (.rt v, r.2) S2) E S1) →
    (∀ ρ1 S1, Iv (i + ds.length) ρ1 S1 → Q (.nx, ρ1) S1) → wp (forL t body ds ρ) Q E S
  | [], i, ρ, S, h, _, l => l ρ S h
  | d :: ds, i, ρ, S, h, b, l => by
    unfold forL
    obtain ⟨ρ2, e, w⟩ := b 0 d ρ S rfl h
    rw [e, w_bnd, w_some, w_bnd]
    refine wp_mono w (fun r S2 q => ?_) fun _ _ _ q => q
    obtain ⟨fl, ρ3⟩ := r
    have next : Iv (i + 0 + 1) ρ3 S2 → wp (forL t body ds ρ3) Q E S2 := fun q => for_go Iv ds (i + 1) ρ3 S2 q (fun j d' ρ1 S1 hj hi => by
      have z := b (j + 1) d' ρ1 S1 (by simpa using hj) (by rw [show i + (j + 1) = i + 1 + j by omega]; exact hi)
      rw [show i + (j + 1) = i + 1 + j by omega] at z
      exact z) fun ρ1 S1 hi => l ρ1 S1 (by rw [List.length_cons, show i + (ds.length + 1) = i + 1 + ds.length by omega]; exact hi)
    cases fl with
    | nx => exact next q
    | ct => exact next q
    | bk => exact q
    | rt v => exact q
/-- comprehensions, by a word that holds of what is made so far -/
theorem map_go {t : D → Env → Option Env} {tt : Env → Mo Bool} {fe : Env → Mo D} {ρ : Env} {Q : List D → Objs.T → Prop} (Iv : Nat → List D → Objs.T → Prop) : ∀ (ds : List D) (i : Nat) (acc : List D) (S : Objs.T), Iv i acc S →
    (∀ (j : Nat) (d : D) (acc : List D) (S1 : Objs.T), ds[j]? = some d → Iv (i + j) acc S1 → ∃ ρ2, t d ρ = some ρ2 ∧ wp (tt ρ2) (fun b S2 => if b = true then wp (fe ρ2) (fun y S3 => Iv (i + j + 1) (acc ++ [y]) S3) (fun _ _ _ => False) S2 else Iv (i + j + 1) acc S2) (fun _ _ _ => False) S1) →
    (∀ ys S1, Iv (i + ds.length) ys S1 → ∃ zs, ys = acc ++ zs ∧ Q zs S1) → wp (mapC t tt fe ρ ds) (fun ys S1 => Q ys S1) (fun _ _ _ => False) S := by
  have main : ∀ (ds : List D) (i : Nat) (acc : List D) (S : Objs.T), Iv i acc S →
      (∀ (j : Nat) (d : D) (acc : List D) (S1 : Objs.T), ds[j]? = some d → Iv (i + j) acc S1 → ∃ ρ2, t d ρ = some ρ2 ∧ wp (tt ρ2) (fun b S2 => if b = true then wp (fe ρ2) (fun y S3 => Iv (i + j + 1) (acc ++ [y]) S3) (fun _ _ _ => False) S2 else Iv (i + j + 1) acc S2) (fun _ _ _ => False) S1) →
      wp (mapC t tt fe ρ ds) (fun ys S1 => Iv (i + ds.length) (acc ++ ys) S1) (fun _ _ _ => False) S := by
    intro ds
    induction ds with
    | nil =>
      intro i acc S h _
      show Iv (i + 0) (acc ++ []) S
      rw [List.append_nil]
      exact h
    | cons d ds ih =>
      intro i acc S h b
      unfold mapC
      obtain ⟨ρ2, e, w⟩ := b 0 d acc S rfl h
      rw [e, w_bnd, w_some, w_bnd]
      refine wp_mono w (fun bb S2 q => ?_) fun _ _ _ q => q
      have next : ∀ (acc' : List D) (S2 : Objs.T), Iv (i + 0 + 1) acc' S2 → wp (mapC t tt fe ρ ds) (fun ys S1 => Iv (i + (ds.length + 1)) (acc' ++ ys) S1) (fun _ _ _ => False) S2 := fun acc' S2 q => by
        have z := ih (i + 1) acc' S2 q fun j d' a S1 hj hi => by
          have z := b (j + 1) d' a S1 (by simpa using hj) (by rw [show i + (j + 1) = i + 1 + j by omega]; exact hi)
          rw [show i + (j + 1) = i + 1 + j by omega] at z
          exact z
        rw [show i + (ds.length + 1) = i + 1 + ds.length by omega]
        exact z
      cases bb with
      | true =>
        rw [if_pos rfl] at q ⊢
        rw [w_bnd]
        refine wp_mono q (fun y S3 q => ?_) fun _ _ _ q => q
        rw [w_bnd]
        refine wp_mono (next _ _ q) (fun ys S1 q => ?_) fun _ _ _ q => q
        rw [w_ret, List.length_cons, ← List.singleton_append, ← List.append_assoc]
        exact q
      | false => exact next _ _ q
  intro ds i acc S h b l
  refine wp_mono (main ds i acc S h b) (fun ys S1 q => ?_) fun _ _ _ q => q
  obtain ⟨zs, e, q⟩ := l _ _ q
  rw [List.append_cancel_left e]
  exact q
end
/-! ### the pen -/
section
variable [O2 : Objs2] {st : PenS} {u : Objs2.U} {Q : D → Objs.T → Prop} {E : Str → List (Str × D) → Objs.T → Prop}
theorem ne_tc : ¬ (("turn" : Str) = "cells") := by decide +kernel
theorem ne_lc : ¬ (("left" : Str) = "cells") := by decide +kernel
theorem ne_lt : ¬ (("left" : Str) = "turn") := by decide +kernel
theorem w_cells : wp (kGet (.hnd 0) (.str "cells")) Q E (some st, u) = Q (.lst (st.cells.map D.int)) (some st, u) := rfl
theorem w_turn : wp (kGet (.hnd 0) (.str "turn")) Q E (some st, u) = Q (.int st.turn) (some st, u) := by
  show wp (penGet "turn") Q E (some st, u) = _
  unfold wp penGet
  dsimp only
  rw [if_neg ne_tc, if_pos rfl]
theorem w_left : wp (kGet (.hnd 0) (.str "left")) Q E (some st, u) = Q (.int st.left) (some st, u) := by
  show wp (penGet "left") Q E (some st, u) = _
  unfold wp penGet
  dsimp only
  rw [if_neg ne_lc, if_neg ne_lt, if_pos rfl]
theorem step_T {i : Int} : penStep "turn" (.int i) st = some { st with turn := i } := by
  unfold penStep
  dsimp only
  rw [if_pos rfl]
theorem step_L {i : Int} : penStep "left" (.int i) st = some { st with left := i } := by
  unfold penStep
  dsimp only
  rw [if_neg ne_lt, if_pos rfl]
theorem w_put {k : Str} {d : D} {s1 : PenS} {Q : Unit → Objs.T → Prop} (h : penStep k d st = some s1) : wp (penPut (.hnd 0) (.str k) d) Q E (some st, u) = Q () (some s1, u) := by
  have e : penPut (.hnd 0) (.str k) d (some st, u) = some (.ok (), (some s1, u)) := by
    show (match penStep k d st with | some s1 => some (Out.ok (), (some s1, u)) | none => none) = _
    rw [h]
  unfold wp
  rw [e]
theorem w_putT {i : Int} {Q : Unit → Objs.T → Prop} : wp (penPut (.hnd 0) (.str "turn") (.int i)) Q E (some st, u) = Q () (some { st with turn := i }, u) := w_put step_T
theorem w_putL {i : Int} {Q : Unit → Objs.T → Prop} : wp (penPut (.hnd 0) (.str "left") (.int i)) Q E (some st, u) = Q () (some { st with left := i }, u) := w_put step_L
end
end Vl
set_option Elab.async false
set_option linter.all false
set_option maxRecDepth 100000
set_option maxHeartbeats 4000000
namespace Vl
open PySem PySem.Spec PyProof.Rows L2 Oc Os
variable [Ob : Objs]
abbrev Ct (α : Type) := α → Objs.T → Prop
abbrev Ex := Str → List (Str × D) → Objs.T → Prop
section
variable {α β : Type} {E : Ex} {S : Objs.T} {ρ : Env} {fa fb fc : Env → Mo D} {fl : Env → Mo (List D)} {tc ta tb : Env → Mo Bool} {a b : MoS} {i j : Nat} {x y z : D} {xs : List D}
def kThen (b : MoS) (Q : Ct (Fl × Env)) (E : Ex) : Ct (Fl × Env) := fun r S => match r.1 with
  | .nx => wp (b r.2) Q E S
  | _ => Q r S
theorem g_c6 {Q : Ct (Fl × Env)} (h : wp (a ρ) (kThen b Q E) E S) : wp (sThen a b ρ) Q E S := by
  unfold sThen
  rw [w_bnd]
  refine wp_mono h (fun r S1 q => ?_) fun _ _ _ q => q
  obtain ⟨fl, ρ1⟩ := r
  cases fl <;> exact q
theorem g_l {Q : Ct (Fl × Env)} (h : wp (b ρ) Q E S) : kThen b Q E (.nx, ρ) S := h
theorem g_m {Q : Ct (Fl × Env)} (h : Q (.rt x, ρ) S) : kThen b Q E (.rt x, ρ) S := h
theorem g_n {Q : Ct (Fl × Env)} (h : Q (.bk, ρ) S) : kThen b Q E (.bk, ρ) S := h
theorem g_o {Q : Ct (Fl × Env)} (h : Q (.ct, ρ) S) : kThen b Q E (.ct, ρ) S := h
theorem g_p {Q : Ct (Fl × Env)} (h : Q (.nx, ρ) S) : wp (sNx ρ) Q E S := h
def kSet (i : Nat) (ρ : Env) (Q : Ct (Fl × Env)) : Ct D := fun d S => Q (.nx, ρ.set i (some d)) S
theorem g_q {Q : Ct (Fl × Env)} (h : wp (fa ρ) (kSet i ρ Q) E S) : wp (sSet i fa ρ) Q E S := by unfold sSet; rw [w_bnd]; exact h
theorem g_r {Q : Ct (Fl × Env)} (h : Q (.nx, ρ.set i (some x)) S) : kSet i ρ Q x S := h
def kRet (ρ : Env) (Q : Ct (Fl × Env)) : Ct D := fun d S => Q (.rt d, ρ) S
theorem g_s {Q : Ct (Fl × Env)} (h : wp (fa ρ) (kRet ρ Q) E S) : wp (sRet fa ρ) Q E S := by unfold sRet; rw [w_bnd]; exact h
theorem g_t {Q : Ct (Fl × Env)} (h : Q (.rt x, ρ) S) : kRet ρ Q x S := h
def kDrop (ρ : Env) (Q : Ct (Fl × Env)) : Ct D := fun _ S => Q (.nx, ρ) S
theorem g_u {Q : Ct (Fl × Env)} (h : wp (fa ρ) (kDrop ρ Q) E S) : wp (sDrop fa ρ) Q E S := by unfold sDrop; rw [w_bnd]; exact h
theorem g_v {Q : Ct (Fl × Env)} (h : Q (.nx, ρ) S) : kDrop ρ Q x S := h
def kIf (a b : MoS) (ρ : Env) (Q : Ct (Fl × Env)) (E : Ex) : Ct Bool := fun k S => if k = true then wp (a ρ) Q E S else wp (b ρ) Q E S
theorem g_c7 {Q : Ct (Fl × Env)} (h : wp (tc ρ) (kIf a b ρ Q E) E S) : wp (sIf tc a b ρ) Q E S := by unfold sIf; rw [w_bnd]; refine wp_mono h (fun k S1 q => ?_) (fun _ _ _ q => q); unfold kIf at q; cases k <;> exact q
theorem g_d {Q : Ct (Fl × Env)} (h : wp (a ρ) Q E S) : kIf a b ρ Q E true S := h
theorem g_a {Q : Ct (Fl × Env)} (h : wp (b ρ) Q E S) : kIf a b ρ Q E false S := h
theorem g_dy {k : Bool} {Q : Ct (Fl × Env)} (h1 : k = true → wp (a ρ) Q E S) (h2 : k = false → wp (b ρ) Q E S) : kIf a b ρ Q E k S := by
  cases k
  · exact h2 rfl
  · exact h1 rfl
theorem g_dw {p : Prop} [Decidable p] {Q : Ct (Fl × Env)} (h1 : p → wp (a ρ) Q E S) (h2 : ¬ p → wp (b ρ) Q E S) : kIf a b ρ Q E (decide p) S := g_dy (fun h => h1 (of_decide_eq_true h)) fun h => h2 (of_decide_eq_false h)
def kPar (is : List Nat) (ρ : Env) (Q : Ct (Fl × Env)) : Ct (List D) := fun ds S => ds.length = is.length ∧ Q (.nx, setAll ρ is ds) S
theorem g_w {is : List Nat} {Q : Ct (Fl × Env)} (h : wp (fl ρ) (kPar is ρ Q) E S) : wp (sPar is fl ρ) Q E S := by unfold sPar; rw [w_bnd]; refine wp_mono h (fun k S1 q => ?_) (fun _ _ _ q => q); rw [w_grd]; exact ⟨decide_eq_true q.1, q.2⟩
theorem g_x {is : List Nat} {Q : Ct (Fl × Env)} (hl : xs.length = is.length) (h : Q (.nx, setAll ρ is xs) S) : kPar is ρ Q xs S := ⟨hl, h⟩
def kAs2 (Q : Ct (Fl × Env)) (o : Option Env) (S : Objs.T) : Prop := match o with
  | some ρ1 => Q (.nx, ρ1) S
  | none => False
def kAsg (t : D → Env → Option Env) (ρ : Env) (Q : Ct (Fl × Env)) : Ct D := fun d S => kAs2 Q (t d ρ) S
theorem g_y {t : D → Env → Option Env} {Q : Ct (Fl × Env)} (h : wp (fa ρ) (kAsg t ρ Q) E S) : wp (sAsg fa t ρ) Q E S := by
  unfold sAsg
  rw [w_bnd]
  refine wp_mono h (fun k S1 q => ?_) (fun _ _ _ q => q)
  unfold kAsg kAs2 at q
  rw [w_bnd]
  split at q
  · next ρ1 e => rw [e, w_some]; exact q
  · exact q.elim
theorem g_fa {t : D → Env → Option Env} {Q : Ct (Fl × Env)} (h : kAs2 Q (t x ρ) S) : kAsg t ρ Q x S := h
theorem g_z {n : Nat} {t : List D → Env → Option Env} {Q : Ct (Fl × Env)} (hl : xs.length = n) (h : kAs2 Q (t xs ρ) S) : kAsg (gTp n t) ρ Q (.tup xs) S := by
  unfold kAsg gTp
  dsimp only
  rw [if_pos hl]
  exact h
theorem g_aa {n : Nat} {Q : Ct (Fl × Env)} (h : Q (.nx, ρ.set n (some x)) S) : kAsg (gN n) ρ Q x S := h
theorem g_fb {t : D → Env → Option Env} {u : List D → Env → Option Env} {ρ1 : Env} {Q : Ct (Fl × Env)} (e : t x ρ = some ρ1) (h : kAs2 Q (u xs ρ1) S) : kAs2 Q (gCn t u (x :: xs) ρ) S := by
  show kAs2 Q ((t x ρ).bind (u xs)) S
  rw [e]
  exact h
theorem g_ab {n : Nat} {u : List D → Env → Option Env} {Q : Ct (Fl × Env)} (h : kAs2 Q (u xs (ρ.set n (some x))) S) : kAs2 Q (gCn (gN n) u (x :: xs) ρ) S := h
theorem g_ac {Q : Ct (Fl × Env)} (h : Q (.nx, ρ) S) : kAs2 Q (gNl [] ρ) S := h
theorem g_fc {ρ1 : Env} {Q : Ct (Fl × Env)} (h : Q (.nx, ρ1) S) : kAs2 Q (some ρ1) S := h
def kFz (m : MoS) (ρ : Env) (Q : Ct (Fl × Env)) (E : Ex) (o : Option D) (S : Objs.T) : Prop := match o with
  | some (.lst _) => wp (m ρ) Q E S
  | some (.dic _) => wp (m ρ) Q E S
  | _ => False
theorem g_d9 {m : MoS} {Q : Ct (Fl × Env)} (h : kFz m ρ Q E ((ρ[i]?).join) S) : wp (sFrz i m ρ) Q E S := by
  unfold sFrz
  unfold kFz at h
  split at h
  · next e => first | exact h | (rw [e]; exact h)
  · next e => first | exact h | (rw [e]; exact h)
  · exact h.elim
theorem g_fd {m : MoS} {Q : Ct (Fl × Env)} (h : wp (m ρ) Q E S) : kFz m ρ Q E (some (.lst xs)) S := h
theorem g_fe {kvs : List (Key × D)} {m : MoS} {Q : Ct (Fl × Env)} (h : wp (m ρ) Q E S) : kFz m ρ Q E (some (.dic kvs)) S := h
theorem g_ad {m : MoS} {Q : Ct (Fl × Env)} (e : (ρ[i]?).join = some (.lst xs)) (h : wp (m ρ) Q E S) : wp (sFrz i m ρ) Q E S := g_d9 (by rw [e]; exact h)
theorem g_ae {kvs : List (Key × D)} {m : MoS} {Q : Ct (Fl × Env)} (e : (ρ[i]?).join = some (.dic kvs)) (h : wp (m ρ) Q E S) : wp (sFrz i m ρ) Q E S := g_d9 (by rw [e]; exact h)
def kApp (i : Nat) (ρ : Env) (xs : List D) (Q : Ct (Fl × Env)) : Ct D := fun d S => xs.length < LIM ∧ Q (.nx, ρ.set i (some (.lst (xs ++ [d])))) S
def kAp0 (i : Nat) (m : Env → Mo D) (ρ : Env) (Q : Ct (Fl × Env)) (E : Ex) (o : Option D) (S : Objs.T) : Prop := match o with
  | some (.lst xs) => wp (m ρ) (kApp i ρ xs Q) E S
  | _ => False
theorem g_ej {m : Env → Mo D} {Q : Ct (Fl × Env)} (h : kAp0 i m ρ Q E ((ρ[i]?).join) S) : wp (grd (hasOwn i ρ) (sApp i m ρ)) Q E S := by
  unfold kAp0 at h
  split at h
  · next xs e =>
    rw [w_grd]
    refine ⟨by unfold hasOwn; rw [e], ?_⟩
    unfold sApp
    rw [w_bnd]
    refine wp_mono h (fun d S1 q => ?_) fun _ _ _ q => q
    rw [e]
    dsimp only
    rw [w_grd]
    exact ⟨decide_eq_true q.1, q.2⟩
  · exact h.elim
theorem g_ff {m : Env → Mo D} {Q : Ct (Fl × Env)} (h : wp (m ρ) (kApp i ρ xs Q) E S) : kAp0 i m ρ Q E (some (.lst xs)) S := h
theorem g_af {m : Env → Mo D} {Q : Ct (Fl × Env)} (e : (ρ[i]?).join = some (.lst xs)) (h : wp (m ρ) (kApp i ρ xs Q) E S) : wp (grd (hasOwn i ρ) (sApp i m ρ)) Q E S := g_ej (by rw [e]; exact h)
theorem g_ek {Q : Ct (Fl × Env)} (hl : xs.length < LIM) (h : Q (.nx, ρ.set i (some (.lst (xs ++ [x])))) S) : kApp i ρ xs Q x S := ⟨hl, h⟩
def kFn (Q : Ct D) : Ct (Fl × Env) := fun r S => match r.1 with
  | .nx => Q .non S
  | .rt d => Q d S
  | _ => False
theorem g_c {k n : Nat} {m : MoS} {Q : Ct D} (e : xs.length = k) (h : wp (m (startD n xs)) (kFn Q) E S) : wp (fnM k n m xs) Q E S := by
  unfold fnM
  rw [if_pos e, w_bnd]
  refine wp_mono h (fun r S1 q => ?_) fun _ _ _ q => q
  obtain ⟨fl, ρ1⟩ := r
  cases fl <;> exact q
theorem g_ag {Q : Ct D} (h : Q x S) : kFn Q (.rt x, ρ) S := h
theorem g_ah {Q : Ct D} (h : Q .non S) : kFn Q (.nx, ρ) S := h
theorem g_ai {Q : Ct D} (h : Q x S) : wp (fC x ρ) Q E S := h
def kVar (Q : Ct D) (o : Option D) (S : Objs.T) : Prop := match o with
  | some d => Q d S
  | none => False
theorem g_el {Q : Ct D} (h : kVar Q ((ρ[i]?).join) S) : wp (fVar i ρ) Q E S := by
  unfold fVar
  unfold kVar at h
  split at h
  · next e => rw [e]; exact h
  · exact h.elim
theorem g_fg {Q : Ct D} (h : Q x S) : kVar Q (some x) S := h
theorem g_b {Q : Ct D} (e : (ρ[i]?).join = some x) (h : Q x S) : wp (fVar i ρ) Q E S := g_el (by rw [e]; exact h)
def kF1 (k : D → Mo D) (Q : Ct D) (E : Ex) : Ct D := fun x S => wp (k x) Q E S
theorem g_aj {k : D → Mo D} {Q : Ct D} (h : wp (fa ρ) (kF1 k Q E) E S) : wp (f1 fa k ρ) Q E S := by unfold f1; rw [w_bnd]; exact h
theorem g_ak {k : D → Mo D} {Q : Ct D} (h : wp (k x) Q E S) : kF1 k Q E x S := h
def kF2k (k : D → D → Mo D) (x : D) (Q : Ct D) (E : Ex) : Ct D := fun y S => wp (k x y) Q E S
def kF2 (fb : Env → Mo D) (k : D → D → Mo D) (ρ : Env) (Q : Ct D) (E : Ex) : Ct D := fun x S => wp (fb ρ) (kF2k k x Q E) E S
theorem g_al {k : D → D → Mo D} {Q : Ct D} (h : wp (fa ρ) (kF2 fb k ρ Q E) E S) : wp (f2 fa fb k ρ) Q E S := by unfold f2; rw [w_bnd]; refine wp_mono h (fun x S1 q => ?_) (fun _ _ _ q => q); rw [w_bnd]; exact q
theorem g_am {k : D → D → Mo D} {Q : Ct D} (h : wp (fb ρ) (kF2k k x Q E) E S) : kF2 fb k ρ Q E x S := h
theorem g_an {k : D → D → Mo D} {Q : Ct D} (h : wp (k x y) Q E S) : kF2k k x Q E y S := h
def kFN (k : List D → Mo D) (Q : Ct D) (E : Ex) : Ct (List D) := fun xs S => wp (k xs) Q E S
theorem g_ao {k : List D → Mo D} {Q : Ct D} (h : wp (fl ρ) (kFN k Q E) E S) : wp (fN fl k ρ) Q E S := by unfold fN; rw [w_bnd]; exact h
theorem g_ap {k : List D → Mo D} {Q : Ct D} (h : wp (k xs) Q E S) : kFN k Q E xs S := h
theorem g_aq {Q : Ct (List D)} (h : Q [] S) : wp (fNil ρ) Q E S := h
def kCok (x : D) (Q : Ct (List D)) : Ct (List D) := fun xs S => Q (x :: xs) S
def kCo (fl : Env → Mo (List D)) (ρ : Env) (Q : Ct (List D)) (E : Ex) : Ct D := fun x S => wp (fl ρ) (kCok x Q) E S
theorem g_ar {Q : Ct (List D)} (h : wp (fa ρ) (kCo fl ρ Q E) E S) : wp (fCons fa fl ρ) Q E S := by unfold fCons; rw [w_bnd]; refine wp_mono h (fun x S1 q => ?_) (fun _ _ _ q => q); rw [w_bnd]; exact q
theorem g_as {Q : Ct (List D)} (h : wp (fl ρ) (kCok x Q) E S) : kCo fl ρ Q E x S := h
theorem g_at {Q : Ct (List D)} (h : Q (x :: xs) S) : kCok x Q xs S := h
def kB {α β : Type} (f : α → Mo β) (Q : Ct β) (E : Ex) : Ct α := fun x S => wp (f x) Q E S
theorem g_au {m : Mo α} {f : α → Mo β} {Q : Ct β} (h : wp m (kB f Q E) E S) : wp (bnd m f) Q E S := by rw [w_bnd]; exact h
theorem g_av {c : α} {f : α → Mo β} {Q : Ct β} (h : wp (f c) Q E S) : kB f Q E c S := h
theorem g_aw {c : α} {Q : Ct α} (h : Q c S) : wp (Vl.ret c) Q E S := h
theorem g_ax {k : Bool} {Q : Ct Bool} (h : Q k S) : wp (kBl (.bl k)) Q E S := h
def kOb (Q : Ct Bool) (o : Option Bool) (S : Objs.T) : Prop := match o with
  | some k => Q k S
  | none => False
def kFt (Q : Ct Bool) : Ct D := fun x S => kOb Q (truD x) S
theorem g_ay {Q : Ct Bool} (h : wp (fa ρ) (kFt Q) E S) : wp (ft fa ρ) Q E S := by
  unfold ft
  rw [w_bnd]
  refine wp_mono h (fun x S1 q => ?_) (fun _ _ _ q => q)
  unfold kFt kOb at q
  unfold kTru
  split at q
  · next e => rw [e]; exact q
  · exact q.elim
theorem g_em {Q : Ct Bool} (h : kOb Q (truD x) S) : kFt Q x S := h
theorem g_fh {k : Bool} {Q : Ct Bool} (h : Q k S) : kOb Q (some k) S := h
theorem g_az {k : Bool} {Q : Ct Bool} (e : truD x = some k) (h : Q k S) : kFt Q x S := g_em (by rw [e]; exact h)
def kNt (Q : Ct Bool) : Ct Bool := fun k S => Q (!k) S
theorem g_a0 {Q : Ct Bool} (h : wp (ta ρ) (kNt Q) E S) : wp (tNt ta ρ) Q E S := by unfold tNt; rw [w_bnd]; exact h
theorem g_a1 {Q : Ct Bool} (h : Q false S) : kNt Q true S := h
theorem g_a2 {Q : Ct Bool} (h : Q true S) : kNt Q false S := h
theorem g_a3 {k : Bool} {Q : Ct Bool} (h : Q (!k) S) : kNt Q k S := h
def kAn (tb : Env → Mo Bool) (ρ : Env) (Q : Ct Bool) (E : Ex) : Ct Bool := fun k S => if k = true then wp (tb ρ) Q E S else Q false S
theorem g_a4 {Q : Ct Bool} (h : wp (ta ρ) (kAn tb ρ Q E) E S) : wp (tAn ta tb ρ) Q E S := by unfold tAn; rw [w_bnd]; refine wp_mono h (fun k S1 q => ?_) (fun _ _ _ q => q); unfold kAn at q; cases k <;> exact q
theorem g_a5 {Q : Ct Bool} (h : wp (tb ρ) Q E S) : kAn tb ρ Q E true S := h
theorem g_a6 {Q : Ct Bool} (h : Q false S) : kAn tb ρ Q E false S := h
theorem g_en {k : Bool} {Q : Ct Bool} (h1 : k = true → wp (tb ρ) Q E S) (h2 : k = false → Q false S) : kAn tb ρ Q E k S := by
  cases k
  · exact h2 rfl
  · exact h1 rfl
def kO (tb : Env → Mo Bool) (ρ : Env) (Q : Ct Bool) (E : Ex) : Ct Bool := fun k S => if k = true then Q true S else wp (tb ρ) Q E S
theorem g_a7 {Q : Ct Bool} (h : wp (ta ρ) (kO tb ρ Q E) E S) : wp (tO ta tb ρ) Q E S := by unfold tO; rw [w_bnd]; refine wp_mono h (fun k S1 q => ?_) (fun _ _ _ q => q); unfold kO at q; cases k <;> exact q
theorem g_a8 {Q : Ct Bool} (h : Q true S) : kO tb ρ Q E true S := h
theorem g_a9 {Q : Ct Bool} (h : wp (tb ρ) Q E S) : kO tb ρ Q E false S := h
theorem g_fi {k : Bool} {Q : Ct Bool} (h1 : k = true → Q true S) (h2 : k = false → wp (tb ρ) Q E S) : kO tb ρ Q E k S := by
  cases k
  · exact h2 rfl
  · exact h1 rfl
def kFI (fa fb : Env → Mo D) (ρ : Env) (Q : Ct D) (E : Ex) : Ct Bool := fun k S => if k = true then wp (fa ρ) Q E S else wp (fb ρ) Q E S
theorem g_ba {Q : Ct D} (h : wp (tc ρ) (kFI fa fb ρ Q E) E S) : wp (fIf tc fa fb ρ) Q E S := by unfold fIf; rw [w_bnd]; refine wp_mono h (fun k S1 q => ?_) (fun _ _ _ q => q); unfold kFI at q; cases k <;> exact q
theorem g_bb {Q : Ct D} (h : wp (fa ρ) Q E S) : kFI fa fb ρ Q E true S := h
theorem g_bc {Q : Ct D} (h : wp (fb ρ) Q E S) : kFI fa fb ρ Q E false S := h
theorem g_fj {k : Bool} {Q : Ct D} (h1 : k = true → wp (fa ρ) Q E S) (h2 : k = false → wp (fb ρ) Q E S) : kFI fa fb ρ Q E k S := by
  cases k
  · exact h2 rfl
  · exact h1 rfl
def kFA2 (fb : Env → Mo D) (ρ : Env) (Q : Ct D) (E : Ex) (x : D) (o : Option Bool) (S : Objs.T) : Prop := match o with
  | some true => wp (fb ρ) Q E S
  | some false => Q x S
  | none => False
def kFA (fb : Env → Mo D) (ρ : Env) (Q : Ct D) (E : Ex) : Ct D := fun x S => kFA2 fb ρ Q E x (truD x) S
theorem g_bd {Q : Ct D} (h : wp (fa ρ) (kFA fb ρ Q E) E S) : wp (fAn fa fb ρ) Q E S := by
  unfold fAn
  rw [w_bnd]
  refine wp_mono h (fun x S1 q => ?_) (fun _ _ _ q => q)
  unfold kFA kFA2 at q
  rw [w_bnd]
  unfold kTru
  split at q
  · next e => rw [e, w_some, if_pos rfl]; exact q
  · next e => rw [e, w_some, if_neg (by decide)]; exact q
  · exact q.elim
theorem g_ea {Q : Ct D} (h : kFA2 fb ρ Q E x (truD x) S) : kFA fb ρ Q E x S := h
theorem g_fk {Q : Ct D} (h : wp (fb ρ) Q E S) : kFA2 fb ρ Q E x (some true) S := h
theorem g_fl {Q : Ct D} (h : Q x S) : kFA2 fb ρ Q E x (some false) S := h
theorem g_e {Q : Ct D} (e : truD x = some true) (h : wp (fb ρ) Q E S) : kFA fb ρ Q E x S := g_ea (by rw [e]; exact h)
theorem g_f {Q : Ct D} (e : truD x = some false) (h : Q x S) : kFA fb ρ Q E x S := g_ea (by rw [e]; exact h)
theorem g_fm {k : Bool} {Q : Ct D} (h1 : k = true → wp (fb ρ) Q E S) (h2 : k = false → Q x S) : kFA2 fb ρ Q E x (some k) S := by
  cases k
  · exact h2 rfl
  · exact h1 rfl
def kFO2 (fb : Env → Mo D) (ρ : Env) (Q : Ct D) (E : Ex) (x : D) (o : Option Bool) (S : Objs.T) : Prop := match o with
  | some true => Q x S
  | some false => wp (fb ρ) Q E S
  | none => False
def kFO (fb : Env → Mo D) (ρ : Env) (Q : Ct D) (E : Ex) : Ct D := fun x S => kFO2 fb ρ Q E x (truD x) S
theorem g_be {Q : Ct D} (h : wp (fa ρ) (kFO fb ρ Q E) E S) : wp (fO fa fb ρ) Q E S := by
  unfold fO
  rw [w_bnd]
  refine wp_mono h (fun x S1 q => ?_) (fun _ _ _ q => q)
  unfold kFO kFO2 at q
  rw [w_bnd]
  unfold kTru
  split at q
  · next e => rw [e, w_some, if_pos rfl]; exact q
  · next e => rw [e, w_some, if_neg (by decide)]; exact q
  · exact q.elim
theorem g_eb {Q : Ct D} (h : kFO2 fb ρ Q E x (truD x) S) : kFO fb ρ Q E x S := h
theorem g_fn {Q : Ct D} (h : Q x S) : kFO2 fb ρ Q E x (some true) S := h
theorem g_fo {Q : Ct D} (h : wp (fb ρ) Q E S) : kFO2 fb ρ Q E x (some false) S := h
theorem g_bf {Q : Ct D} (e : truD x = some false) (h : wp (fb ρ) Q E S) : kFO fb ρ Q E x S := g_eb (by rw [e]; exact h)
theorem g_bg {Q : Ct D} (e : truD x = some true) (h : Q x S) : kFO fb ρ Q E x S := g_eb (by rw [e]; exact h)
theorem g_fp {k : Bool} {Q : Ct D} (h1 : k = true → Q x S) (h2 : k = false → wp (fb ρ) Q E S) : kFO2 fb ρ Q E x (some k) S := by
  cases k
  · exact h2 rfl
  · exact h1 rfl
def kCh (fb fc : Env → Mo D) (k1 k2 : D → D → Mo D) (ρ : Env) (Q : Ct D) (E : Ex) : Ct D := fun x S => wp (kChain k1 k2 fb fc x ρ) Q E S
theorem g_bh {k1 k2 : D → D → Mo D} {Q : Ct D} (h : wp (fa ρ) (kCh fb fc k1 k2 ρ Q E) E S) : wp (fCh fa fb fc k1 k2 ρ) Q E S := by unfold fCh; rw [w_bnd]; refine wp_mono h (fun x S1 q => ?_) (fun _ _ _ q => q); exact q
def kCh3 (fc : Env → Mo D) (k2 : D → D → Mo D) (y : D) (ρ : Env) (Q : Ct D) (E : Ex) : Ct D := fun z S => match z with
  | .bl true => wp (fc ρ) (kF2k k2 y Q E) E S
  | .bl false => Q (.bl false) S
  | _ => False
def kCh2 (fc : Env → Mo D) (k1 k2 : D → D → Mo D) (x : D) (ρ : Env) (Q : Ct D) (E : Ex) : Ct D := fun y S => wp (k1 x y) (kCh3 fc k2 y ρ Q E) E S
theorem g_bi {k1 k2 : D → D → Mo D} {Q : Ct D} (h : wp (fb ρ) (kCh2 fc k1 k2 x ρ Q E) E S) : kCh fb fc k1 k2 ρ Q E x S := by
  unfold kCh kChain
  rw [w_bnd]
  refine wp_mono h (fun y S1 q => ?_) fun _ _ _ q => q
  rw [w_bnd]
  refine wp_mono (show wp (k1 x y) (kCh3 fc k2 y ρ Q E) E S1 from q) (fun z S2 q => ?_) fun _ _ _ q => q
  cases z with
  | bl k =>
    cases k with
    | true =>
      show wp (bnd (fc ρ) fun u => k2 y u) Q E S2
      rw [w_bnd]
      exact q
    | false => exact q
  | _ => exact q.elim
theorem g_bj {k1 k2 : D → D → Mo D} {Q : Ct D} (h : wp (k1 x y) (kCh3 fc k2 y ρ Q E) E S) : kCh2 fc k1 k2 x ρ Q E y S := h
theorem g_bk {k2 : D → D → Mo D} {Q : Ct D} (h : wp (fc ρ) (kF2k k2 y Q E) E S) : kCh3 fc k2 y ρ Q E (.bl true) S := h
theorem g_bl {k2 : D → D → Mo D} {Q : Ct D} (h : Q (.bl false) S) : kCh3 fc k2 y ρ Q E (.bl false) S := h
theorem g_dz {k : Bool} {k2 : D → D → Mo D} {Q : Ct D} (h1 : k = true → wp (fc ρ) (kF2k k2 y Q E) E S) (h2 : k = false → Q (.bl false) S) : kCh3 fc k2 y ρ Q E (.bl k) S := by
  cases k
  · exact h2 rfl
  · exact h1 rfl
end
section
variable {E : Ex} {S : Objs.T} {i j : Int} {p q : Bool} {xs ys : List D} {x y : D} {s t : Str} {Q : Ct D}
theorem g_bm (h : Q (.bl (decide (j < i))) S) : wp (kGt (.int i) (.int j)) Q E S := h
theorem g_bn (h : Q (.bl (decide (j ≤ i))) S) : wp (kGe (.int i) (.int j)) Q E S := h
theorem g_bo (h : Q (.bl (decide (i < j))) S) : wp (kLt (.int i) (.int j)) Q E S := h
theorem g_bp (h : Q (.bl (decide (i ≤ j))) S) : wp (kLe (.int i) (.int j)) Q E S := h
theorem g_bq (h : Q (.int (i - j)) S) : wp (kSub (.int i) (.int j)) Q E S := h
theorem g_br (h : Q (.int (i + j)) S) : wp (kAdd (.int i) (.int j)) Q E S := h
theorem g_d0 (hl : s.length + t.length ≤ LIM) (h : Q (.str (s ++ t)) S) : wp (kAdd (.str s) (.str t)) Q E S := by
  show wp (grd _ _) Q E S
  rw [w_grd]
  exact ⟨decide_eq_true hl, h⟩
theorem g_fq (hl : xs.length + ys.length ≤ LIM) (h : Q (.lst (xs ++ ys)) S) : wp (kAdd (.lst xs) (.lst ys)) Q E S := by
  show wp (grd _ _) Q E S
  rw [w_grd]
  exact ⟨decide_eq_true hl, h⟩
theorem g_fr (hl : xs.length + ys.length ≤ LIM) (h : Q (.tup (xs ++ ys)) S) : wp (kAdd (.tup xs) (.tup ys)) Q E S := by
  show wp (grd _ _) Q E S
  rw [w_grd]
  exact ⟨decide_eq_true hl, h⟩
theorem g_do (h0 : 0 < j) (h : Q (.int (i % j)) S) : wp (kMod (.int i) (.int j)) Q E S := by
  show wp (opt (if 0 < j then some (.int (i % j)) else none)) Q E S
  rw [if_pos h0]
  exact h
theorem g_d1 (h0 : 0 < j) (h1 : j < 1073741824) (h : Q (.int (i / j)) S) : wp (kDiv (.int i) (.int j)) Q E S := by
  show wp (opt (if 0 < j ∧ j < 1073741824 then some (.int (i / j)) else none)) Q E S
  rw [if_pos ⟨h0, h1⟩]
  exact h
theorem g_dp (h0 : -(2 ^ 64) < i) (h1 : i < 2 ^ 64) (h : Q (.int (i * j)) S) : wp (kMulS (.int i) (.int j)) Q E S := by
  show wp (opt (if -(2 ^ 64) < i ∧ i < 2 ^ 64 then some (.int (i * j)) else none)) Q E S
  rw [if_pos ⟨h0, h1⟩]
  exact h
theorem g_eo (h0 : 0 ≤ i) (h1 : i ≤ 1000) (h2 : s.length ≤ 1000) (h : Q (.str (repS s i)) S) : wp (kMulS (.str s) (.int i)) Q E S := by
  show wp (grd _ _) Q E S
  rw [w_grd]
  exact ⟨by simp only [Bool.and_eq_true, decide_eq_true_eq]; exact ⟨⟨h0, h1⟩, h2⟩, h⟩
theorem g_d2 (h0 : 0 ≤ j) (h1 : j ≤ 1000000) (h2 : i.natAbs < 2 ^ 64) (h : Q (.int (i ^ j.toNat)) S) : wp (kPow (.int i) (.int j)) Q E S := by
  show wp (opt (if 0 ≤ j ∧ j ≤ 1000000 ∧ i.natAbs < 2 ^ 64 then some (.int (i ^ j.toNat)) else none)) Q E S
  rw [if_pos ⟨h0, h1, h2⟩]
  exact h
theorem g_bs (h : Q (.int (-i)) S) : wp (kNeg (.int i)) Q E S := h
theorem g_bt (h : Q (.int i) S) : wp (kInt1 [.int i]) Q E S := h
theorem g_bu (h : Q (.int (if p then 1 else 0)) S) : wp (kInt1 [.bl p]) Q E S := h
theorem g_bv (h : Q (.int (if i < 0 then -i else i)) S) : wp (kAbs [.int i]) Q E S := h
theorem g_bw (h : Q (.int xs.length) S) : wp (kLen [.lst xs]) Q E S := h
theorem g_bx (h : Q (.int xs.length) S) : wp (kLen [.tup xs]) Q E S := h
theorem g_d3 (hl : s.length ≤ LIM) (h : Q (.int s.length) S) : wp (kLen [.str s]) Q E S := by
  show wp (grd _ _) Q E S
  rw [w_grd]
  exact ⟨decide_eq_true hl, h⟩
theorem g_dc (hl : xs.length ≤ 1000) (h : Q (.lst xs) S) : wp (kLst xs) Q E S := by
  unfold kLst
  rw [w_grd]
  exact ⟨decide_eq_true hl, h⟩
theorem g_dq (hl : xs.length ≤ 1000) (h : Q (.tup xs) S) : wp (kTup xs) Q E S := by
  unfold kTup
  rw [w_grd]
  exact ⟨decide_eq_true hl, h⟩
theorem g_by (h : Q (.lst xs) S) : wp (kList [.lst xs]) Q E S := h
theorem g_bz (h : Q (.lst xs) S) : wp (kList [.tup xs]) Q E S := h
theorem g_b0 (h : Q (.tup xs) S) : wp (kTuple [.lst xs]) Q E S := h
theorem g_b1 (h : Q (.tup xs) S) : wp (kTuple [.tup xs]) Q E S := h
theorem g_b2 (h : Q (.bl (isN x)) S) : wp (kIsN x .non) Q E S := h
theorem g_b3 (h : Q (.bl (!isN x)) S) : wp (kNotN x .non) Q E S := h
theorem g_b4 (h : Q (.bl (decide (p = q))) S) : wp (kIsB (.bl p) (.bl q)) Q E S := h
theorem g_b5 (h : Q (.bl (!decide (p = q))) S) : wp (kNotB (.bl p) (.bl q)) Q E S := h
theorem g_dr {d e : PyData} (h1 : toE x = some d) (h2 : toE y = some e) (h3 : SeqAt.shaped d = true) (h4 : SeqAt.shaped e = true) (h : Q (.bl (PyData.eqv d e)) S) : wp (kEq x y) Q E S := by
  unfold kEq
  rw [h1, h2]
  dsimp only
  rw [w_grd, h3, h4]
  exact ⟨rfl, h⟩
theorem g_dx {d e : PyData} (h1 : toE x = some d) (h2 : toE y = some e) (h3 : SeqAt.shaped d = true) (h4 : SeqAt.shaped e = true) (h : Q (.bl (!PyData.eqv d e)) S) : wp (kNe x y) Q E S := by
  unfold kNe
  rw [h1, h2]
  dsimp only
  rw [w_grd, h3, h4]
  exact ⟨rfl, h⟩
theorem g_fs {b : Bool} (e : kInB x y = some b) (h : Q (.bl b) S) : wp (kIn x y) Q E S := by
  unfold kIn
  rw [w_bnd, e]
  exact h
theorem g_ft {b : Bool} (e : kInB x y = some b) (h : Q (.bl (!b)) S) : wp (kNin x y) Q E S := by
  unfold kNin
  rw [w_bnd, e]
  exact h
theorem g_dd {cs : List String} {ty : String} {b : Bool} (e : tyD x = some ty) (f : isAny ty cs = some b) (h : Q (.bl b) S) : wp (kIsT cs x) Q E S := by
  unfold kIsT
  rw [e]
  dsimp only
  rw [w_bnd, f]
  exact h
theorem g_du {bs : List Bool} (e : blsD xs = some bs) (h : Q (.bl (bs.all id)) S) : wp (kAll [.lst xs]) Q E S := by
  unfold kAll
  rw [w_bnd, e]
  exact h
end
end Vl
set_option Elab.async false
set_option linter.all false
set_option maxRecDepth 100000
set_option maxHeartbeats 4000000
namespace Vl
open PySem PySem.Spec PyProof.Rows L2 Oc Os
section
variable [O2 : Objs2] {E : Ex} {S : Option PenS × Objs2.U} {ρ : Env} {fa fb fc : Env → Mo D} {x y d : D} {i : Int} {k : Str} {st s1 : PenS} {u : Objs2.U} {xs : List D} {Q : Ct D} {R : Ct (Fl × Env)}
theorem g_b6 (h : Q (.int st.left) (some st, u)) : wp (kGet (.hnd 0) (.str "left")) Q E (some st, u) := by rw [w_left]; exact h
theorem g_b7 (h : Q (.int st.turn) (some st, u)) : wp (kGet (.hnd 0) (.str "turn")) Q E (some st, u) := by rw [w_turn]; exact h
theorem g_b8 (h : Q (.lst (st.cells.map D.int)) (some st, u)) : wp (kGet (.hnd 0) (.str "cells")) Q E (some st, u) := h
theorem g_g (e : atI xs i = some d) (h : Q d S) : wp (kGet (.lst xs) (.int i)) Q E S := by
  show wp (opt (atI xs i)) Q E S
  rw [e]
  exact h
theorem g_d4 (e : atI xs i = some d) (h : Q d S) : wp (kGet (.tup xs) (.int i)) Q E S := by
  show wp (opt (atI xs i)) Q E S
  rw [e]
  exact h
theorem g_ec {z : Str} {c : Nat} (hl : z.length ≤ LIM) (e : atI z.cps.toList i = some c) (h : Q (.str ⟨#[c]⟩) S) : wp (kGet (.str z) (.int i)) Q E S := by
  show wp (grd (decide (z.length ≤ LIM)) (opt ((atI z.cps.toList i).map fun c => .str ⟨#[c]⟩))) Q E S
  rw [w_grd, e]
  exact ⟨decide_eq_true hl, h⟩
def kPu3 (x d : D) (ρ : Env) (R : Ct (Fl × Env)) (E : Ex) : Ct D := fun y S => wp (penPut x y d) (fun _ S' => R (.nx, ρ) S') E S
def kPu2 (fb : Env → Mo D) (d : D) (ρ : Env) (R : Ct (Fl × Env)) (E : Ex) : Ct D := fun x S => wp (fb ρ) (kPu3 x d ρ R E) E S
def kPu (fa fb : Env → Mo D) (ρ : Env) (R : Ct (Fl × Env)) (E : Ex) : Ct D := fun d S => wp (fa ρ) (kPu2 fb d ρ R E) E S
theorem g_b9 (h : wp (fc ρ) (kPu fa fb ρ R E) E S) : wp (sPput fa fb fc ρ) R E S := by
  unfold sPput
  rw [w_bnd]
  refine wp_mono h (fun d S1 q => ?_) fun _ _ _ q => q
  rw [w_bnd]
  refine wp_mono q (fun x S2 q => ?_) fun _ _ _ q => q
  rw [w_bnd]
  refine wp_mono q (fun y S3 q => ?_) fun _ _ _ q => q
  rw [w_bnd]
  exact q
theorem g_ca (h : wp (fa ρ) (kPu2 fb d ρ R E) E S) : kPu fa fb ρ R E d S := h
theorem g_cb (h : wp (fb ρ) (kPu3 x d ρ R E) E S) : kPu2 fb d ρ R E x S := h
theorem g_cc (h : R (.nx, ρ) (some { st with turn := i }, u)) : kPu3 (.hnd 0) (.int i) ρ R E (.str "turn") (some st, u) := by
  show wp _ _ _ _
  rw [w_putT]
  exact h
theorem g_cd (h : R (.nx, ρ) (some { st with left := i }, u)) : kPu3 (.hnd 0) (.int i) ρ R E (.str "left") (some st, u) := by
  show wp _ _ _ _
  rw [w_putL]
  exact h
end
end Vl
set_option Elab.async false
set_option linter.all false
set_option maxRecDepth 100000
set_option maxHeartbeats 4000000
namespace Vl
open PySem PySem.Spec PyProof.Rows L2 Oc Os
section
variable [Ob : Objs] {α β : Type} {E : Ex} {S : Objs.T} {ρ : Vl.Env} {fa fb fc fk fe : Vl.Env → Mo D} {fl fi : Vl.Env → Mo (List D)} {tt : Vl.Env → Mo Bool} {t : D → Vl.Env → Option Vl.Env} {body : MoS} {vs : List Nat} {x y z d : D} {xs ys ds : List D} {i j : Int} {Q : Ct D} {R : Ct (Fl × Vl.Env)} {P : Ct (List D)}
/-! ### what is walked -/
theorem g_dv (h1 : -(2 ^ 62) ≤ j) (h2 : j < 2 ^ 62) (h : P (rangeD 0 j.toNat) S) : wp (opt (rg1 [.int j])) P E S := by
  have e : rg1 [.int j] = some (rangeD 0 j.toNat) := if_pos ⟨h1, h2⟩
  rw [e]
  exact h
theorem g_fu (h1 : -(2 ^ 62) ≤ i) (h2 : i < 2 ^ 62) (h3 : -(2 ^ 62) ≤ j) (h4 : j < 2 ^ 62) (h : P (rangeD i (j - i).toNat) S) : wp (opt (rg2 [.int i, .int j])) P E S := by
  have e : rg2 [.int i, .int j] = some (rangeD i (j - i).toNat) := if_pos ⟨h1, h2, h3, h4⟩
  rw [e]
  exact h
def kIA (P : Ct (List D)) : Ct D := fun d S => match seqV d with
  | some ds => P ds S
  | none => False
theorem g_ce (h : wp (fe ρ) (kIA P) E S) : wp (iAny fe ρ) P E S := by
  unfold iAny
  rw [w_bnd]
  refine wp_mono h (fun d S1 q => ?_) fun _ _ _ q => q
  unfold kIA at q
  split at q
  · next e => rw [e]; exact q
  · exact q.elim
theorem g_i (h : P xs S) : kIA P (.lst xs) S := h
theorem g_j (h : P xs S) : kIA P (.tup xs) S := h
theorem g_cf {s : Str} (h : P (Vl.signs s) S) : kIA P (.str s) S := h
theorem g_cg (h : P (pairs xs ys) S) : wp (opt (zipD [.tup xs, .tup ys])) P E S := h
theorem g_ch (h : P (pairs xs ys) S) : wp (opt (zipD [.lst xs, .lst ys])) P E S := h
/-! ### comprehensions, for loops -/
def kLc (t : D → Vl.Env → Option Vl.Env) (tt : Vl.Env → Mo Bool) (fe : Vl.Env → Mo D) (vs : List Nat) (ρ : Vl.Env) (Q : Ct D) : Ct (List D) := fun ds S => ds.length ≤ LIM ∧ wp (mapC t tt fe (wipeD ρ vs) ds) (fun ys S1 => Q (.lst ys) S1) (fun _ _ _ => False) S
theorem g_ci (h : wp (fi ρ) (kLc t tt fe vs ρ Q) E S) : wp (fLc fi t tt fe vs ρ) Q E S := by
  unfold fLc
  rw [w_bnd]
  refine wp_mono h (fun ds S1 q => ?_) fun _ _ _ q => q
  rw [w_grd]
  refine ⟨decide_eq_true q.1, ?_⟩
  rw [w_bnd, w_nox]
  exact q.2
theorem g_c8 (hl : ds.length ≤ LIM) (h : wp (mapC t tt fe (wipeD ρ vs) ds) (fun ys S1 => Q (.lst ys) S1) (fun _ _ _ => False) S) : kLc t tt fe vs ρ Q ds S := ⟨hl, h⟩
def kDc (t : D → Vl.Env → Option Vl.Env) (tt : Vl.Env → Mo Bool) (fk fe : Vl.Env → Mo D) (vs : List Nat) (ρ : Vl.Env) (Q : Ct D) : Ct (List D) := fun ds S => ds.length ≤ LIM ∧ wp (mapD t tt fk fe (wipeD ρ vs) ds []) (fun ys S1 => Q (.dic ys) S1) (fun _ _ _ => False) S
theorem g_cj (h : wp (fi ρ) (kDc t tt fk fe vs ρ Q) E S) : wp (fDc fi t tt fk fe vs ρ) Q E S := by
  unfold fDc
  rw [w_bnd]
  refine wp_mono h (fun ds S1 q => ?_) fun _ _ _ q => q
  rw [w_grd]
  refine ⟨decide_eq_true q.1, ?_⟩
  rw [w_bnd, w_nox]
  exact q.2
theorem g_ed (hl : ds.length ≤ LIM) (h : wp (mapD t tt fk fe (wipeD ρ vs) ds []) (fun ys S1 => Q (.dic ys) S1) (fun _ _ _ => False) S) : kDc t tt fk fe vs ρ Q ds S := ⟨hl, h⟩
def kFor (t : D → Vl.Env → Option Vl.Env) (body : MoS) (ρ : Vl.Env) (R : Ct (Fl × Vl.Env)) (E : Ex) : Ct (List D) := fun ds S => wp (forL t body ds ρ) R E S
theorem g_ck (h : wp (fi ρ) (kFor t body ρ R E) E S) : wp (sFor fi t body ρ) R E S := by
  unfold sFor
  rw [w_bnd]
  exact h
theorem g_cl (h : wp (forL t body ds ρ) R E S) : kFor t body ρ R E ds S := h
/-! ### slices, join, dicts, fields, methods -/
def kSlc (x : D) (lo : Option Int) (Q : Ct D) (E : Ex) : Ct (Option Int) := fun hi S => wp (kSl x lo hi) Q E S
def kSlb (fh : Vl.Env → Mo (Option Int)) (x : D) (ρ : Vl.Env) (Q : Ct D) (E : Ex) : Ct (Option Int) := fun lo S => wp (fh ρ) (kSlc x lo Q E) E S
def kSla (fl fh : Vl.Env → Mo (Option Int)) (ρ : Vl.Env) (Q : Ct D) (E : Ex) : Ct D := fun x S => wp (fl ρ) (kSlb fh x ρ Q E) E S
theorem g_cm {fl fh : Vl.Env → Mo (Option Int)} (h : wp (fa ρ) (kSla fl fh ρ Q E) E S) : wp (fSl fa fl fh ρ) Q E S := by
  unfold fSl
  rw [w_bnd]
  refine wp_mono h (fun x S1 q => ?_) fun _ _ _ q => q
  rw [w_bnd]
  refine wp_mono q (fun lo S1 q => ?_) fun _ _ _ q => q
  rw [w_bnd]
  exact q
theorem g_cn {fl fh : Vl.Env → Mo (Option Int)} (h : wp (fl ρ) (kSlb fh x ρ Q E) E S) : kSla fl fh ρ Q E x S := h
theorem g_co {fh : Vl.Env → Mo (Option Int)} {lo : Option Int} (h : wp (fh ρ) (kSlc x lo Q E) E S) : kSlb fh x ρ Q E lo S := h
theorem g_cp {lo hi : Option Int} (h : Q (.lst (cutD xs lo hi)) S) : kSlc (.lst xs) lo Q E hi S := h
theorem g_cq {lo hi : Option Int} (h : Q (.tup (cutD xs lo hi)) S) : kSlc (.tup xs) lo Q E hi S := h
theorem g_ee {s : Str} {lo hi : Option Int} (hl : s.length ≤ LIM) (h : Q (.str (cutS s lo hi)) S) : kSlc (.str s) lo Q E hi S := by
  show wp (grd _ _) Q E S
  rw [w_grd]
  exact ⟨decide_eq_true hl, h⟩
theorem g_cr {Z : Ct (Option Int)} (h : Z (some i) S) : wp (kOi (.int i)) Z E S := h
def kJo2 (s : Str) (Q : Ct D) (E : Ex) : Ct D := fun y S => wp (kJoin s y) Q E S
def kJo (fb : Vl.Env → Mo D) (ρ : Vl.Env) (Q : Ct D) (E : Ex) : Ct D := fun x S => match strD x with
  | some s => wp (fb ρ) (kJo2 s Q E) E S
  | none => False
theorem g_cs (h : wp (fa ρ) (kJo fb ρ Q E) E S) : wp (fJoin fa fb ρ) Q E S := by
  unfold fJoin
  rw [w_bnd]
  refine wp_mono h (fun x S1 q => ?_) fun _ _ _ q => q
  unfold kJo at q
  rw [w_bnd]
  split at q
  · next e =>
    rw [e, w_some, w_bnd]
    exact q
  · exact q.elim
theorem g_ct {s : Str} (h : wp (fb ρ) (kJo2 s Q E) E S) : kJo fb ρ Q E (.str s) S := h
theorem g_ep {s : Str} {ss : List Str} (e : strsD xs = some ss) (hl : (ss.map (·.length)).sum + ss.length * s.length ≤ LIM) (h : Q (.str (Txt.join s ss)) S) : kJo2 s Q E (.lst xs) S := by
  show wp (bnd (opt (strsD xs)) fun ys => grd (joinB ys s) (Vl.ret (.str (Txt.join s ys)))) Q E S
  rw [w_bnd, e, w_some, w_grd]
  exact ⟨decide_eq_true hl, h⟩
def kG3 (x y : D) (Q : Ct D) (E : Ex) : Ct D := fun z S => wp (getD2 x y z) Q E S
def kG2 (fc : Vl.Env → Mo D) (x : D) (ρ : Vl.Env) (Q : Ct D) (E : Ex) : Ct D := fun y S => wp (fc ρ) (kG3 x y Q E) E S
def kG1 (fb fc : Vl.Env → Mo D) (ρ : Vl.Env) (Q : Ct D) (E : Ex) : Ct D := fun x S => isDic x = true ∧ wp (fb ρ) (kG2 fc x ρ Q E) E S
theorem g_cu (h : wp (fa ρ) (kG1 fb fc ρ Q E) E S) : wp (fGet2 fa fb fc ρ) Q E S := by
  unfold fGet2
  rw [w_bnd]
  refine wp_mono h (fun x S1 q => ?_) fun _ _ _ q => q
  rw [w_grd]
  refine ⟨q.1, ?_⟩
  rw [w_bnd]
  refine wp_mono q.2 (fun y S1 q => ?_) fun _ _ _ q => q
  rw [w_bnd]
  exact q
theorem g_cv {kvs : List (Key × D)} (h : wp (fb ρ) (kG2 fc (.dic kvs) ρ Q E) E S) : kG1 fb fc ρ Q E (.dic kvs) S := ⟨rfl, h⟩
theorem g_cw (h : wp (fc ρ) (kG3 x y Q E) E S) : kG2 fc x ρ Q E y S := h
theorem g_fv {kvs : List (Key × D)} {k : Key} (e : keyD y = some k) (h : Q ((valD kvs k).getD z) S) : kG3 (.dic kvs) y Q E z S := by
  show wp (bnd (opt (keyD y)) fun k => match valD kvs k with | some d => Vl.ret d | none => Vl.ret z) Q E S
  rw [w_bnd, e, w_some]
  cases q : valD kvs k with
  | none => rw [q] at h; exact h
  | some d => rw [q] at h; exact h
def kAf (f : Str) (fs : List (Str × D)) (Q : Ct D) (S : Objs.T) : Prop := match fs.lookup f with
  | some d => Q d S
  | none => False
theorem g_cx {f C : Str} {fs : List (Str × D)} {r : List (Str × AtK)} (h : kAf f fs Q S) : wp (kAttr f ((C, .fld) :: r) (.ins C fs)) Q E S := by
  show wp (bnd (opt (findC C ((C, AtK.fld) :: r))) (kAt1 f C fs)) Q E S
  have e : findC C ((C, AtK.fld) :: r) = some .fld := by
    unfold findC
    rw [if_pos rfl]
  rw [w_bnd, e, w_some]
  unfold kAf at h
  show wp (opt (fs.lookup f)) Q E S
  split at h
  · next e => rw [e]; exact h
  · exact h.elim
theorem g_ds {f : Str} {fs : List (Str × D)} {d : D} (e : fs.lookup f = some d) (h : Q d S) : kAf f fs Q S := by
  unfold kAf
  rw [e]
  exact h
def kMt2 (F : List D → Mo D) (x : D) (Q : Ct D) (E : Ex) : Ct (List D) := fun xs S => wp (F (x :: xs)) Q E S
def kMt (m : Str) (t : List (Str × (List D → Mo D))) (fl : Vl.Env → Mo (List D)) (ρ : Vl.Env) (Q : Ct D) (E : Ex) : Ct D := fun x S => match mtD m t x with
  | some F => wp (fl ρ) (kMt2 F x Q E) E S
  | none => False
theorem g_cy {m : Str} {t : List (Str × (List D → Mo D))} (h : wp (fa ρ) (kMt m t fl ρ Q E) E S) : wp (fMt m t fa fl ρ) Q E S := by
  unfold fMt
  rw [w_bnd]
  refine wp_mono h (fun x S1 q => ?_) fun _ _ _ q => q
  unfold kMt at q
  rw [w_bnd]
  split at q
  · next e =>
    rw [e, w_some, w_bnd]
    exact q
  · exact q.elim
theorem g_ef {m C : Str} {F : List D → Mo D} {t : List (Str × (List D → Mo D))} {fs : List (Str × D)} (e : (fs.lookup m).isNone = true) (h : wp (fl ρ) (kMt2 F (.ins C fs) Q E) E S) : kMt m ((C, F) :: t) fl ρ Q E (.ins C fs) S := by
  unfold kMt
  have e2 : mtD m ((C, F) :: t) (.ins C fs) = some F := by
    show (if (fs.lookup m).isNone = true then findC C ((C, F) :: t) else none) = some F
    rw [if_pos e]
    unfold findC
    rw [if_pos rfl]
  rw [e2]
  exact h
theorem g_h {F : List D → Mo D} (h : wp (F (x :: xs)) Q E S) : kMt2 F x Q E xs S := h
/-! ### the rest of the built-ins -/
theorem g_eq {es : List PyData} (e : toQ xs = some es) (ok : SortOk es) (h : Q (.lst (sortD xs es)) S) : wp (kSort [.lst xs]) Q E S := by
  show wp (bnd (opt (toQ xs)) fun es => grp (SortOk es) (Vl.ret (.lst (sortD xs es)))) Q E S
  rw [w_bnd, e, w_some, w_grp]
  exact ⟨ok, h⟩
theorem g_eg {ss : List Str} (e : strsD xs = some ss) (hl : ss.length ≤ 4000) (h : Q (.int ((fm ss).length : Nat)) S) : wp (kDiff (.lst xs)) Q E S := by
  show wp (bnd (opt (strsD xs)) fun ys => grd (decide (ys.length ≤ 4000)) (Vl.ret (.int ((fm ys).length : Nat)))) Q E S
  rw [w_bnd, e, w_some, w_grd]
  exact ⟨decide_eq_true hl, h⟩
theorem g_fw {xss : List (List D)} (e : lstsD xs = some xss) (hl : ys.length + (xss.map (·.length)).sum ≤ LIM) (h : Q (.lst (ys ++ xss.flatten)) S) : wp (kSumL [.lst xs, .lst ys]) Q E S := by
  show wp (bnd (opt (lstsD xs)) fun xss => grd (decide (ys.length + (xss.map (·.length)).sum ≤ LIM)) (Vl.ret (.lst (ys ++ xss.flatten)))) Q E S
  rw [w_bnd, e, w_some, w_grd]
  exact ⟨decide_eq_true hl, h⟩
theorem g_fx {e : PyData} (e1 : toR x = some e) (e2 : shownB e = true) (h : Q (.str e.shown) S) : wp (kRepr [x]) Q E S := by
  show wp (bnd (opt (toR x)) fun e => grd (shownB e) (Vl.ret (.str e.shown))) Q E S
  rw [w_bnd, e1, w_some, w_grd]
  exact ⟨e2, h⟩
/-! ### dicts written -/
def kP3 (k : Key) (y : D) (Z : Ct (List (Key × D))) : Ct (List (Key × D)) := fun r S => Z ((k, y) :: r) S
def kP2 (f : Vl.Env → Mo (List (Key × D))) (k : Key) (ρ : Vl.Env) (Z : Ct (List (Key × D))) (E : Ex) : Ct D := fun y S => wp (f ρ) (kP3 k y Z) E S
def kP1 (fv : Vl.Env → Mo D) (f : Vl.Env → Mo (List (Key × D))) (ρ : Vl.Env) (Z : Ct (List (Key × D))) (E : Ex) : Ct D := fun x S => match keyD x with
  | some k => wp (fv ρ) (kP2 f k ρ Z E) E S
  | none => False
theorem g_cz {f : Vl.Env → Mo (List (Key × D))} {Z : Ct (List (Key × D))} (h : wp (fk ρ) (kP1 fe f ρ Z E) E S) : wp (fPs fk fe f ρ) Z E S := by
  unfold fPs
  rw [w_bnd]
  refine wp_mono h (fun x S1 q => ?_) fun _ _ _ q => q
  unfold kP1 at q
  rw [w_bnd]
  split at q
  · next e =>
    rw [e, w_some, w_bnd]
    refine wp_mono q (fun y S1 q => ?_) fun _ _ _ q => q
    rw [w_bnd]
    exact q
  · exact q.elim
theorem g_c0 {s : Str} {f : Vl.Env → Mo (List (Key × D))} {Z : Ct (List (Key × D))} (h : wp (fe ρ) (kP2 f (.inr s) ρ Z E) E S) : kP1 fe f ρ Z E (.str s) S := h
theorem g_c1 {f : Vl.Env → Mo (List (Key × D))} {Z : Ct (List (Key × D))} (h : wp (fe ρ) (kP2 f (.inl i) ρ Z E) E S) : kP1 fe f ρ Z E (.int i) S := h
theorem g_c2 {k : Key} {f : Vl.Env → Mo (List (Key × D))} {Z : Ct (List (Key × D))} (h : wp (f ρ) (kP3 k y Z) E S) : kP2 f k ρ Z E y S := h
theorem g_c3 {k : Key} {r : List (Key × D)} {Z : Ct (List (Key × D))} (h : Z ((k, y) :: r) S) : kP3 k y Z r S := h
def kDi (Q : Ct D) : Ct (List (Key × D)) := fun kvs S => kvs.length ≤ 15 ∧ Q (.dic (mergeD [] kvs)) S
theorem g_c4 {f : Vl.Env → Mo (List (Key × D))} (h : wp (f ρ) (kDi Q) E S) : wp (fDisp f ρ) Q E S := by
  unfold fDisp
  rw [w_bnd]
  refine wp_mono h (fun x S1 q => ?_) fun _ _ _ q => q
  rw [w_grd]
  exact ⟨decide_eq_true q.1, q.2⟩
theorem g_eh {kvs : List (Key × D)} (hl : kvs.length ≤ 15) (h : Q (.dic (mergeD [] kvs)) S) : kDi Q kvs S := ⟨hl, h⟩
/-! ### __init__ -/
theorem g_fy {n : Nat} {F : List D → Mo D} (h1 : n ≤ xs.length) (h2 : xs.length ≤ LIM) (h : wp (F (xs.take n ++ [.tup (xs.drop n)])) Q E S) : wp (starI n F xs) Q E S := by
  unfold starI
  rw [w_grd]
  exact ⟨by simp only [Bool.and_eq_true, decide_eq_true_eq]; exact ⟨h1, h2⟩, h⟩
def kFnI (Q : Ct D) (E : Ex) : Ct (Fl × Vl.Env) := fun r S => wp (endI r) Q E S
theorem g_er {C : Str} {k n : Nat} {m : MoS} (e : xs.length + 1 = k) (h : wp (m (startD n (.ins C [] :: xs))) (kFnI Q E) E S) : wp (fnI C k n m xs) Q E S := by
  unfold fnI
  rw [if_pos e, w_bnd]
  exact h
def kEI (Q : Ct D) (E : Ex) (o : Option D) (S : Objs.T) : Prop := wp (insD o) Q E S
theorem g_es (h : kEI Q E ((ρ[0]?).join) S) : kFnI Q E (.nx, ρ) S := h
theorem g_fz {C : Str} {fs : List (Str × D)} (h : Q (.ins C fs) S) : kEI Q E (some (.ins C fs)) S := h
theorem g_k {C : Str} {fs : List (Str × D)} (e : (ρ[0]?).join = some (.ins C fs)) (h : Q (.ins C fs) S) : kFnI Q E (.nx, ρ) S := g_es (by rw [e]; exact h)
def kFd (i : Nat) (f : Str) (t : List Str) (ρ : Vl.Env) (R : Ct (Fl × Vl.Env)) (E : Ex) : Ct D := fun d S => wp (fldD i f t ρ d (ρ[i]?).join) R E S
theorem g_c5 {i : Nat} {f : Str} {t : List Str} (h : wp (fe ρ) (kFd i f t ρ R E) E S) : wp (sFldS i f t fe ρ) R E S := by
  unfold sFldS
  rw [w_bnd]
  exact h
def kFd2 (i : Nat) (f : Str) (t : List Str) (ρ : Vl.Env) (d : D) (R : Ct (Fl × Vl.Env)) (E : Ex) (o : Option D) (S : Objs.T) : Prop := wp (fldD i f t ρ d o) R E S
theorem g_et {i : Nat} {f : Str} {t : List Str} (h : kFd2 i f t ρ d R E ((ρ[i]?).join) S) : kFd i f t ρ R E d S := h
theorem g_eu {i : Nat} {f C : Str} {t : List Str} {fs : List (Str × D)} (h1 : t.contains C = true) (h2 : fs.length < 1000) (h : R (.nx, ρ.set i (some (.ins C (putD f d fs)))) S) : kFd2 i f t ρ d R E (some (.ins C fs)) S := by
  show wp (grd _ _) R E S
  rw [w_grd]
  exact ⟨by simp only [Bool.and_eq_true, decide_eq_true_eq]; exact ⟨h1, h2⟩, h⟩
/-! ### while -/
theorem g_ev {tc : Vl.Env → Mo Bool} (Iv : Nat → Vl.Env → Objs.T → Prop) : ∀ (n m : Nat) (ρ : Vl.Env) (S : Objs.T), m < n → Iv m ρ S →
    (∀ (m : Nat) (ρ : Vl.Env) (S : Objs.T), Iv m ρ S → wp (tc ρ) (fun k S1 => if k = true then wp (body ρ) (fun r S2 => match r.1 with | .nx => ∃ m', m' < m ∧ Iv m' r.2 S2 | .ct => ∃ m', m' < m ∧ Iv m' r.2 S2 | .bk => R (.nx, r.2) S2 | .rt v => R (.rt v, r.2) S2) E S1 else R (.nx, ρ) S1) E S) → wp (whl tc body n ρ) R E S
  | 0, m, ρ, S, h, _, _ => absurd h (Nat.not_lt_zero _)
  | n + 1, m, ρ, S, h, iv, b => by
    unfold whl
    rw [w_bnd]
    refine wp_mono (b m ρ S iv) (fun k S1 q => ?_) fun _ _ _ q => q
    cases k with
    | false => exact q
    | true =>
      rw [if_pos rfl] at q ⊢
      rw [w_bnd]
      refine wp_mono q (fun r S2 q => ?_) fun _ _ _ q => q
      obtain ⟨fl, ρ2⟩ := r
      have next : (∃ m', m' < m ∧ Iv m' ρ2 S2) → wp (whl tc body n ρ2) R E S2 := fun ⟨m', hm, iv'⟩ => g_ev Iv n m' ρ2 S2 (by omega) iv' b
      cases fl with
      | nx => exact next q
      | ct => exact next q
      | bk => exact q
      | rt v => exact q
/-- x.append(y.pop(e)) -/
def kAPo (i j : Nat) (ρ : Vl.Env) (R : Ct (Fl × Vl.Env)) (E : Ex) : Ct D := fun d S => wp (appPop i j ρ d) R E S
theorem g_f0 {i j : Nat} (h1 : hasOwn i ρ = true) (h2 : hasOwn j ρ = true) (h : wp (fe ρ) (kAPo i j ρ R E) E S) : wp (sAppPop i j fe ρ) R E S := by
  unfold sAppPop
  rw [w_grd, h1, h2]
  refine ⟨rfl, ?_⟩
  rw [w_bnd]
  exact h
theorem g_f1 {i j n : Nat} {k : Int} (e1 : (ρ[i]?).join = some (.lst xs)) (e2 : (ρ[j]?).join = some (.lst ys)) (h1 : xs.length < LIM) (h2 : -(2 ^ 63) ≤ k) (h3 : k < 2 ^ 63) (e3 : seqIndex? k ys.length = some n) (e4 : ys[n]? = some y)
    (h : R (.nx, (ρ.set j (some (.lst (ys.eraseIdx n)))).set i (some (.lst (xs ++ [y])))) S) : kAPo i j ρ R E (.int k) S := by
  unfold kAPo appPop
  rw [e1, e2]
  dsimp only
  rw [w_grd, e3]
  dsimp only
  rw [e4]
  exact ⟨by simp only [Bool.and_eq_true, decide_eq_true_eq]; exact ⟨⟨h1, h2⟩, h3⟩, h⟩
end
end Vl
set_option Elab.async false
set_option linter.all false
set_option maxRecDepth 100000
set_option maxHeartbeats 4000000
/-! != by an own __eq__: object.__ne__ asks it and turns the answer round. -/
namespace PySem.W
open PySem PySem.Spec PyProof.Rows
section
variable {prog : Program} {w : World} {A A₀ : Around} {E : Value → Shared → Prop} {s : Shared} {K : Frag} {x C L f : Addr} {h₀ : Heap} {m : Str → Option Value} {ox : Obj} {od : Option Obj} {name : Str} {b tb : Value}
theorem ifBound_ne {M : Model} {args : List Value} {Q : Option Value → Shared → Prop} (X : K.In s.heap) (I : InstAt s.heap x ox C od) (hs : findIn K (.ref C) "__ne__" = some (some (.builtin "object.__ne__")))
    (h : wpAny M A (call (.builtin "object.__ne__") (.ref x :: args)) (fun v => Q (some v)) E s) : wpAny M A (callSpecialIfBound? (.ref x) "__ne__" args) Q E s := by
  simp only [callSpecialIfBound?, bindSpecialIfBound?]
  refine wpAny_holding (wpAny_bind (wpAny_bind (wpAny_bind (I.type.here ((looks_findIn X hs).here ?_)))))
  simp only [F.cmp_object.ne.bind]
  refine wpAny_bind (wpAny_askSetting (wpAny_ite ?_))
  have fin : wpAny M A (call (.builtin "object.__ne__") ([.ref x] ++ args) >>= fun v => pure (some v)) Q E s := wpAny_bind (wpAny_mono h (fun v s' h' => wpAny_pure h') fun _ _ h' => h')
  split
  · first | exact wpAny_bind (wpAny_pure (wpAny_pure fin)) | exact wpAny_bind (wpAny_pure fin)
  · first | exact wpAny_tryCatch (wpAny_bind (wpAny_pure (wpAny_pure fin))) | exact wpAny_tryCatch (wpAny_bind (wpAny_pure fin))
theorem objNe_K {Q : Fin → Shared → Prop} (hu : A.units < cLine) (X : K.In s.heap) (I : InstAt s.heap x ox C od) (hs : findIn K (.ref C) "__eq__" = some (some (.ref f))) (hf : isFn K (.ref f) = true)
    (hcall : wpAny (model prog w) A (call (.ref f) [.ref x, b]) (fun v s' => ∃ r, v = .bool r ∧ Q (.done (.ret (.bool (!r)))) s') E s) : wpAny (model prog w) A (Builtin.«object.__ne__» ⟨[.ref x, b], []⟩) Q E s := by
  unfold Builtin.«object.__ne__»
  repeat (first
    | with_reducible refine wpAny_cRoomFor hu ?_
    | (refine wpAny_bind (m := callSpecialIfBound? (.ref x) (Str.ofString "__eq__") [b])
        (ifBound_K X I hs hf (wpAny_mono hcall (fun r s' hr => by
          obtain ⟨b, rfl, hq⟩ := hr
          repeat (first | exact hq | exact wpAny_pure hq | exact wpAny_truthy_bool hq | (refine wpAny_bind (m := truthy (.bool _)) (wpAny_truthy_bool ?_)) | wp_step)) fun _ _ e => e)))
    | wp_step)
theorem ne_K {Q : Value → Shared → Prop} (hu : A.units + 1 < cLine) (R : Fr h₀ L s.heap m) (X₀ : K.In h₀) (I : InstAt s.heap x ox C od) (hb : Looks (model prog w) s.heap (typeOf b) tb) (hn : notFirst K C tb = true)
    (hne : findIn K (.ref C) "__ne__" = some (some (.builtin "object.__ne__"))) (hm : mroIn K C (.type "object") = some true) (hs : findIn K (.ref C) "__eq__" = some (some (.ref f))) (hf : isFn K (.ref f) = true)
    (h : wpAny (model prog w) A.in1 (call (.ref f) [.ref x, b]) (fun v s' => ∃ r, v = .bool r ∧ Q (.bool (!r)) s') E s) : wpAny (model prog w) A (richCompare .NotEq (.ref x) b) Q E s := by
  have X := X₀.keeps R.keep
  have one : wpAny (model prog w) A (tryCompare (.ref x) "__ne__" b) (fun r s' => ∃ v, r = some v ∧ Q v s') E s := by
    unfold tryCompare
    have sub : Looks (model prog w) s.heap (isInstance (.ref x) (.type "object")) true := I.type.andThen (looks_mroIn X hm)
    refine wpAny_bind (ifBound_ne X I hne (wpAny_call (codeAny_call_builtin F.cmp_object.ne.plain F.cmpEntry_ne
      (@check_slot (model prog w) _ _ s "object.__ne__" "object" "__ne__" (.ref x) [b] [] _ F.cmpKind_ne F.cmpSplit_ne sub (F.cmpArgs_ne _ _) (objNe_K (A := A.in1) (by show A.units + 1 < cLine; exact hu) X I hs hf (wpAny_mono h (fun v s' hv => ?_) fun _ _ e => e))))))
    obtain ⟨r, rfl, hq⟩ := hv
    first | exact ⟨r, rfl, wpAny_pure ⟨_, rfl, hq⟩⟩ | exact ⟨r, rfl, _, rfl, hq⟩
  unfold richCompare
  simp only [oneThing_ref]
  refine wpAny_holding (wpAny_bind (wpAny_cRoomFor (Nat.lt_of_succ_lt hu) ?_))
  refine wpAny_bind (I.type.here (wpAny_bind (hb.here ?_)))
  split
  · rename_i q
    have e : subIn K tb (.ref C) = some false := by
      rcases Bool.or_eq_true_iff.mp hn with e | e
      · rw [beq_iff_eq.mp e] at q; simp at q
      · exact beq_iff_eq.mp e
    refine wpAny_bind ((looks_subIn X e).here ?_)
    simp only [Bool.false_eq_true, if_false]
    refine wpAny_bind (wpAny_mono one (fun r s' z => ?_) fun _ _ e => e)
    obtain ⟨v, rfl, hq⟩ := z
    exact wpAny_pure hq
  · refine wpAny_bind (wpAny_pure ?_)
    simp only [Bool.false_eq_true, if_false]
    refine wpAny_bind (wpAny_mono one (fun r s' z => ?_) fun _ _ e => e)
    obtain ⟨v, rfl, hq⟩ := z
    exact wpAny_pure hq
end
end PySem.W
set_option Elab.async false
set_option linter.all false
set_option maxRecDepth 100000
set_option maxHeartbeats 4000000
/-! == of tuples item by item with an early end, the state may change. -/
namespace GX
open PySem PySem.SeqAt
open AutoSeq1 (wpAny_loadPart')
open MeetsSeq MeetsSeq2 MeetsSeq3 SeqRoads2
section
variable {prog : Program} {w : World} {A : Around} {R : Result → Shared → Prop}
theorem tuple_eqX (l b : Addr) (items items2 : Array Value) (n n2 : Nat) (dd dd2 : Option Addr) (sl sl2 : Array (Option Value)) (I : Nat → Shared → Prop)
    (turn : ∀ i (h1 : i < items.size) (h2 : i < items2.size) s, I i s → wpAny (model prog w) A.in1 (eqBool items[i] items2[i]) (fun r s' => (r = true → I (i + 1) s') ∧ (r = false → R (.ok (.ret (.bool false))) s')) (fun e s' => R (.error e) s') s)
    (fin : ∀ s, I (min items.size items2.size) s → R (.ok (.ret (.bool (items.size == items2.size)))) s) {s : Shared} (hl1 : s.heap.get? l = some { cls := .type "tuple", dict := dd, data := .seq items n, slots := sl }) (hb1 : s.heap.get? b = some { cls := .type "tuple", dict := dd2, data := .seq items2 n2, slots := sl2 }) (h : I 0 s) :
    wpAny (model prog w) A.in1 (Builtin.«tuple.__eq__» ⟨[.ref l, .ref b], []⟩) (GQ.FinOf prog w A R) (fun e s' => R (.error e) s') s := by
  have f2 := AutoSeq1.sub_tuple_tuple
  have hZ : (items.toList.zip items2.toList).length = min items.size items2.size := by simp
  have h0 := h
  obtain ⟨hp, g, d, tk, os⟩ := s
  wp_walk using wpAny_loadPart' hl1, wpAny_loadPart' hb1, wpAny_forIn_list _ (fun rest b s' => b.1 = none ∧ ∃ i, rest = (items.toList.zip items2.toList).drop i ∧ i ≤ min items.size items2.size ∧ I i s') _
  case turn =>
    rintro ⟨y, x⟩ rest b s' ⟨hb', i, hz, hi, hI⟩
    have hlt : i < (items.toList.zip items2.toList).length := by
      rcases Nat.lt_or_ge i (items.toList.zip items2.toList).length with h' | h'
      · exact h'
      · rw [List.drop_of_length_le h'] at hz; cases hz
    have hm : i < min items.size items2.size := hZ ▸ hlt
    have h1 : i < items.size := Nat.lt_of_lt_of_le hm (Nat.min_le_left _ _)
    have h2 : i < items2.size := Nat.lt_of_lt_of_le hm (Nat.min_le_right _ _)
    rw [List.drop_eq_getElem_cons hlt] at hz
    injection hz with hyx hrest
    have hy : y = items[i] := by have := congrArg Prod.fst hyx; simpa using this
    have hx : x = items2[i] := by have := congrArg Prod.snd hyx; simpa using this
    subst hy hx
    refine wpAny_bind (wpAny_mono (turn i h1 h2 s' hI) (fun r s2 q2 => ?_) fun _ _ x => x)
    obtain ⟨q1, q2⟩ := q2
    cases r with
    | true =>
      have q3 := q1 rfl
      wp_walk
      exact ⟨rfl, i + 1, hrest, hm, q3⟩
    | false =>
      have q3 := q2 rfl
      wp_walk
      simpa using q3
  case fin =>
    rintro ⟨b1, b2⟩ s' ⟨hb', i, hz, hi, hI⟩
    simp only at hb'
    subst hb'
    have hge : min items.size items2.size ≤ i := by
      rcases Nat.lt_or_ge i (items.toList.zip items2.toList).length with h' | h'
      · rw [List.drop_eq_getElem_cons h'] at hz; cases hz
      · exact hZ ▸ h'
    have ei : i = min items.size items2.size := by omega
    rw [ei] at hI
    have fq := fin s' hI
    wp_walk
    simpa [Builtin.Tuple.tupleCompareSizes] using fq
  case h =>
    exact ⟨rfl, 0, rfl, Nat.zero_le _, h0⟩
end
section
variable {prog : Program} {w : World} {A : Around} {E : Value → Shared → Prop} {s : Shared}
theorem rc_tupX {l b : Addr} {items items2 : Array Value} {Q : Value → Shared → Prop} (hu : A.units < cLine) (I : Nat → Shared → Prop)
    (hl : s.heap.IsTuple l items) (hb : s.heap.IsTuple b items2)
    (turn : ∀ i (h1 : i < items.size) (h2 : i < items2.size) s, I i s → wpAny (model prog w) A.in1 (eqBool items[i] items2[i]) (fun r s' => (r = true → I (i + 1) s') ∧ (r = false → Q (.bool false) s')) E s)
    (fin : ∀ s, I (min items.size items2.size) s → Q (.bool (items.size == items2.size)) s) (h : I 0 s) : wpAny (model prog w) A (richCompare .Eq (.ref l) (.ref b)) Q E s := by
  obtain ⟨⟨cls, dd, data, sl⟩, ho, hc, n, hd⟩ := id hl
  obtain ⟨⟨cls2, dd2, data2, sl2⟩, ho2, hc2, n2, hd2⟩ := id hb
  simp only at hc hd hc2 hd2
  subst hc hd hc2 hd2
  refine wpAny_richCompare_same_room (op := .Eq) ⟨_, ho, rfl⟩ ⟨_, ho2, rfl⟩ F.slot_tuple_eq (GQ.call_here F.slot_tuple_eq ⟨_, ho, rfl⟩ F.entry_tuple_eq (F.args_tuple_eq_2 _ _) ?_) hu
  exact tuple_eqX (R := wants (fun v s' => v ≠ .notImplemented ∧ Q v s') E) l b items items2 n n2 dd dd2 sl sl2 I (fun i h1 h2 s' q => wpAny_mono (turn i h1 h2 s' q) (fun r s2 z => ⟨z.1, fun e => ⟨(fun x => nomatch x), z.2 e⟩⟩) fun _ _ x => x) (fun s' q => ⟨(fun x => nomatch x), fin s' q⟩) ho ho2 h
end
end GX
set_option Elab.async false
set_option linter.all false
set_option maxRecDepth 100000
set_option maxHeartbeats 4000000
namespace Vl
open PySem PySem.Spec PyProof.Rows L2 Oc
variable [Ob : Objs]
/-! ### == of plain trees, also of dicts of them, and of tuples with such dicts in them -/
/-- dict-free trees -/
def eqL (d e : D) : Option Bool := match toE d, toE e with
  | some x, some y => if SeqAt.shaped x = true ∧ SeqAt.shaped y = true then some (PyData.eqv x y) else none
  | _, _ => none
def eqGo (ls : List (Key × D)) : List (Key × D) → Option Bool
  | [] => some true
  | (k, d) :: r => match valD ls k with
    | none => some false
    | some e => match eqL d e, eqGo ls r with
      | some b, some b' => some (b && b')
      | _, _ => none
/-- one level: a plain tree, or a dict -/
def eqD1 (d e : D) : Option Bool := match d, e with
  | .dic ks, .dic ls => if (ks.map (·.1)).Nodup then (eqGo ls ks).map fun b => ks.length == ls.length && b else none
  | d, e => eqL d e
section
variable {X : Cx} {pins : List (Addr × Obj)} {σ : L2.St} {g : Addr → Nat} {H : Hp} {s : Shared} {al : List Addr}
theorem exRel (v : V) {d : D} {K : PySem.W.Frag} {I : Hp} (r : Rep K I al v d) : ∃ u, RelV v u := by
  cases r with
  | non => exact ⟨.none, rfl⟩
  | bl b => exact ⟨.bool b, rfl⟩
  | int i => exact ⟨.int i default, default, rfl⟩
  | str x => exact ⟨.str x default, default, rfl⟩
  | lst a b => exact ⟨.ref _, rfl⟩
  | tup a b => exact ⟨.ref _, rfl⟩
  | dic a b => exact ⟨.ref _, rfl⟩
  | ins a b => exact ⟨.ref _, rfl⟩
  | hnd a => exact ⟨.ref _, rfl⟩
theorem lay0 {x : PyData} (h : SeqAt.shaped x = true) : x.canLay0 = true := SeqAt.canLay_of_shaped h
/-- the same value seen as two plain trees -/
theorem eqL_same (I : Inv X pins σ H s) {v : V} {d e : D} {b : Bool} (r1 : RepQ X.K g H al v d) (r2 : RepQ X.K g H al v e) {u : Value} (rv : RelV v u) (h : eqL d e = some b) : b = true := by
  unfold eqL at h
  split at h
  · next x y q1 q2 =>
    split at h
    · next c =>
      obtain ⟨as, z1⟩ := Dp.reads I x v u (r1.dp q1) rv
      obtain ⟨bs, z2⟩ := Dp.reads I y v u (r2.dp q2) rv
      have e := SeqAt.Reads.unique x y _ _ _ (lay0 c.1) z1 z2
      cases h
      rw [e]
      exact SeqAt.eqv_refl _ (lay0 c.2)
    · cases h
  · cases h
theorem eqL_at (I : Inv X pins σ H s) {v v' : V} {d e : D} {b : Bool} (r1 : RepQ X.K g H al v d) (r2 : RepQ X.K g H al v' e) {u u' : Value} (rv : RelV v u) (rv' : RelV v' u') (h : eqL d e = some b) (A : Around) (hu : A.units + 64 < cLine) : SeqAt.EqAt A s u u' b := by
  unfold eqL at h
  split at h
  · next x y q1 q2 =>
    split at h
    · next c =>
      obtain ⟨as, z1⟩ := Dp.reads I x v u (r1.dp q1) rv
      obtain ⟨bs, z2⟩ := Dp.reads I y v' u' (r2.dp q2) rv'
      cases h
      exact SeqAt.eqAt_reads x y A s u u' as bs z1 z2 (lay0 c.1) (lay0 c.2) (SeqAt.room_of_shaped c.1 hu)
    · cases h
  · cases h
/-- a dict among the values -/
theorem rd_dict (I : Inv X pins σ H s) {a : Addr} {kvs : List (Key × V)} (h : Rd H a (.dK kvs)) : ∃ va, KV kvs va ∧ (a == sysModules) = false ∧ s.heap.DictOf (mixKind X.prog X.w) a va := by
  rcases h with h | ⟨o, h⟩
  · obtain ⟨_, ya, va, ra, da⟩ := (show ObjOk X.prog X.w H s.heap a (.dK kvs) from I.hok a _ h)
    exact ⟨va, ra, ya, da⟩
  · obtain ⟨_, _, ya, va, ra, da⟩ := (show ObjOk X.prog X.w H s.heap a (.frz o (.dK kvs)) from I.hok a _ h)
    exact ⟨va, ra, ya, da⟩
theorem rd_one {a : Addr} {u u' : HO} (h : Rd H a u) (h' : Rd H a u') (n : ∀ o w, u ≠ .frz o w) (n' : ∀ o w, u' ≠ .frz o w) : u = u' := by
  rcases h with h | ⟨o, h⟩ <;> rcases h' with h' | ⟨o', h'⟩ <;> rw [h] at h' <;> cases h'
  · rfl
  · exact absurd rfl (n _ _)
  · exact absurd rfl (n' _ _)
  · rfl
theorem g_d5 (I : Inv X pins σ H s) {A : Around} (hu : A.units + 64 < cLine) {vs' : List (Key × V)} {ls : List (Key × D)} {vb : List (Key × Value)} (r' : RepKv X.K (reg g H 1) al vs' ls) (rb : KV vs' vb) :
    ∀ {ks : List (Key × D)} {vs : List (Key × V)} {va : List (Key × Value)} {b : Bool}, RepKv X.K (reg g H 1) al vs ks → KV vs va → eqGo ls ks = some b → PySem.W.KeqHitsIn X.prog X.w A s vb va b
  | [], _, _, b, r, ra, h => by
    cases r
    cases ra
    cases h
    exact .nil
  | (k, d) :: ks, _, _, b, r, ra, h => by
    cases r with
    | cons r1 r2 =>
      cases ra with
      | @cons p q ps qs h1 t =>
        obtain ⟨k', y⟩ := q
        obtain ⟨e1, e2⟩ := h1
        have e1' : k = k' := e1
        subst e1'
        have vo := r'.valO (k := k)
        unfold eqGo at h
        have rr := rb.val k
        cases q : valD ls k with
        | none =>
          rw [q] at h vo
          cases h
          rw [show valV vs' k = none from vo] at rr
          exact .miss (RelO.none_of rr)
        | some e =>
          rw [q] at h vo
          obtain ⟨v0, hv, re⟩ := vo
          rw [hv] at rr
          obtain ⟨z, hz, rz⟩ := RelO.some_of rr
          dsimp only at h
          split at h
          · next b1 b2 q1 q2 =>
            cases h
            exact .hit hz ((eqL_at I (.val r1) (.val re) e2 rz q1 A hu).inModel _ _) (g_d5 I hu r' rb r2 t q2)
          · cases h
theorem g_d6 (I : Inv X pins σ H s) {vs' : List (Key × V)} {ls : List (Key × D)} (r' : RepKv X.K (reg g H 1) al vs' ls) :
    ∀ {ks : List (Key × D)} {vs : List (Key × V)} {b : Bool}, (∀ p ∈ vs, valV vs' p.1 = some p.2) → RepKv X.K (reg g H 1) al vs ks → eqGo ls ks = some b → b = true
  | [], _, b, hm, r, h => by
    cases r
    cases h
    rfl
  | (k, d) :: ks, _, b, hm, r, h => by
    cases r with
    | @cons _ v0 vs _ _ r1 r2 =>
      have vo := r'.valO (k := k)
      unfold eqGo at h
      have hk : valV vs' k = some v0 := hm (k, v0) List.mem_cons_self
      cases q : valD ls k with
      | none =>
        rw [q] at h vo
        rw [show valV vs' k = none from vo] at hk
        cases hk
      | some e =>
        rw [q] at h vo
        obtain ⟨v1, hv, re⟩ := vo
        rw [hk] at hv
        cases hv
        dsimp only at h
        split at h
        · next b1 b2 q1 q2 =>
          cases h
          obtain ⟨u, ru⟩ := exRel v0 r1
          rw [eqL_same I (.val r1) (.val re) ru q1, g_d6 I r' (fun p hp => hm p (List.mem_cons_of_mem _ hp)) r2 q2]
          rfl
        · cases h
theorem RepKv.keys {K : PySem.W.Frag} {J : Hp} : ∀ {vs : List (Key × V)} {ds : List (Key × D)}, RepKv K J al vs ds → vs.map (·.1) = ds.map (·.1)
  | _, _, .nil => rfl
  | _, _, .cons r t => by rw [List.map_cons, List.map_cons, RepKv.keys t]
/-- one level -/
theorem eqD1_in (I : Inv X pins σ H s) {v v' : V} {d e : D} {b : Bool} (r1 : RepQ X.K g H al v d) (r2 : RepQ X.K g H al v' e) {u u' : Value} (rv : RelV v u) (rv' : RelV v' u') (h : eqD1 d e = some b) (A : Around) (hu : A.units + 65 < cLine) : SeqAt.EqIn X.prog X.w A s u u' b := by
  unfold eqD1 at h
  split at h
  · next ks ls =>
    split at h
    · next nd =>
      obtain ⟨b1, q, rfl⟩ := Option.map_eq_some_iff.mp h
      obtain ⟨a, vs, rfl, h1, k1⟩ := r1.dic
      obtain ⟨a', vs', rfl, h2, k2⟩ := r2.dic
      cases rv
      cases rv'
      obtain ⟨va, ra, ya, da⟩ := rd_dict I h1
      obtain ⟨vb, rb, yb, db⟩ := rd_dict I h2
      have e1 : va.length = ks.length := by rw [← ra.length, k1.len]
      have e2 : vb.length = ls.length := by rw [← rb.length, k2.len]
      by_cases hab : a = a'
      · subst hab
        have ev : (HO.dK vs) = HO.dK vs' := rd_one h1 h2 (fun o w z => by cases z) fun o w z => by cases z
        cases ev
        have nv : (vs.map (·.1)).Nodup := by rw [k1.keys]; exact nd
        have eb := g_d6 I k2 (fun p hp => val_nodup nv p hp) k1 q
        rw [eb, show (ks.length == ls.length) = true from by rw [← k1.len, ← k2.len]; simp]
        exact (SeqAt.EqAt.same _).inModel _ _
      · refine SeqAt.EqIn.of_refs hab fun E Q hq => PySem.W.keq_eqIn ya yb da db (by omega) (fun _ => g_d5 I (A := A.in1) (by show A.units + 1 + 64 < cLine; omega) k2 rb k1 ra q) ?_
        rw [e1, e2]
        exact hq
    · cases h
  · exact (eqL_at I r1 r2 rv rv' h A (by omega)).inModel _ _
end
end Vl
set_option Elab.async false
set_option linter.all false
set_option maxRecDepth 100000
set_option maxHeartbeats 4000000
namespace Vl
open PySem PySem.Spec PyProof.Rows L2 Oc
variable [Ob : Objs]
/-! ### == of tuples with dicts in them -/
def eqZ : List D → List D → Option Bool
  | d :: ds, e :: es => match eqD1 d e, eqZ ds es with
    | some b, some b' => some (b && b')
    | _, _ => none
  | _, _ => some true
def eqN2 : D → D → Option Bool
  | .tup ds, .tup es => (eqZ ds es).map fun b => b && ds.length == es.length
  | d, e => eqD1 d e
def eqN (d e : D) : Option Bool := match eqL d e with
  | some b => some b
  | none => eqN2 d e
section
variable {X : Cx} {pins : List (Addr × Obj)} {σ : L2.St} {g : Addr → Nat} {H : Hp} {s : Shared} {al : List Addr}
theorem eqD1_same (I : Inv X pins σ H s) {v : V} {d e : D} {b : Bool} (r1 : RepQ X.K g H al v d) (r2 : RepQ X.K g H al v e) {u : Value} (rv : RelV v u) (h : eqD1 d e = some b) : b = true := by
  unfold eqD1 at h
  split at h
  · next ks ls =>
    split at h
    · next nd =>
      obtain ⟨b1, q, rfl⟩ := Option.map_eq_some_iff.mp h
      obtain ⟨a, vs, rfl, h1, k1⟩ := r1.dic
      obtain ⟨a', vs', e2, h2, k2⟩ := r2.dic
      cases e2
      have ev : (HO.dK vs) = HO.dK vs' := rd_one h1 h2 (fun o w z => by cases z) fun o w z => by cases z
      cases ev
      have nv : (vs.map (·.1)).Nodup := by rw [k1.keys]; exact nd
      rw [g_d6 I k2 (fun p hp => val_nodup nv p hp) k1 q, show (ks.length == ls.length) = true from by rw [← k1.len, ← k2.len]; simp]
      rfl
    · cases h
  · exact eqL_same I r1 r2 rv h
theorem eqZ_at : ∀ {ds es : List D} {b : Bool} (i : Nat), eqZ (ds.drop i) (es.drop i) = some b → ∀ (h1 : i < ds.length) (h2 : i < es.length), ∃ b1 b2, eqD1 ds[i] es[i] = some b1 ∧ eqZ (ds.drop (i + 1)) (es.drop (i + 1)) = some b2 ∧ b = (b1 && b2) := by
  intro ds es b i h h1 h2
  rw [List.drop_eq_getElem_cons h1, List.drop_eq_getElem_cons h2] at h
  unfold eqZ at h
  split at h
  · next b1 b2 q1 q2 => cases h; exact ⟨b1, b2, q1, q2, rfl⟩
  · cases h
theorem eqZ_end {ds es : List D} {b : Bool} {i : Nat} (h : eqZ (ds.drop i) (es.drop i) = some b) (hi : min ds.length es.length ≤ i) : b = true := by
  rcases Nat.le_total ds.length es.length with hl | hl
  · rw [List.drop_of_length_le (by omega)] at h
    unfold eqZ at h
    cases h
    rfl
  · rw [List.drop_of_length_le (l := es) (by omega)] at h
    unfold eqZ at h
    split at h
    · next e => cases e
    · cases h; rfl
def kEqN : D → D → Mo D := fun x y => bnd (opt (eqN x y)) fun b => ret (.bl b)
def rEqN (K : PySem.W.Frag) : R2 := fun x y H Q => ∃ g al d e b, RepQ K g H al x d ∧ RepQ K g H al y e ∧ eqN d e = some b ∧ Q (.bl b) H
theorem tup_at (I : Inv X pins σ H s) {a : Addr} {vs : List V} {ds : List D} (h : SqT X.K H a vs) (r : Reps X.K (reg g H 1) al vs ds) : ∃ its : List Value, Vals vs its ∧ IsTup s.heap a its.toArray ∧ its.length = ds.length := by
  obtain ⟨its, r1, e, z⟩ := I.tuple h
  exact ⟨its, r1, e, by rw [← r1.length, r.len]⟩
theorem item_at {vs : List V} {its : List Value} {ds : List D} (r1 : Vals vs its) (r : Reps X.K (reg g H 1) al vs ds) (i : Nat) (h1 : i < its.toArray.size) (h2 : i < ds.length) : ∃ v, RelV v its.toArray[i] ∧ Rep X.K (reg g H 1) al v ds[i] := by
  have h1' : i < its.length := by simpa using h1
  obtain ⟨v, hv, rv⟩ := r.get (List.getElem?_eq_getElem h2)
  obtain ⟨u, hu, ru⟩ := r1.get hv
  rw [List.getElem?_eq_getElem h1'] at hu
  cases hu
  exact ⟨v, by simpa using ru, rv⟩
theorem op_leaf (hu : X.A.units + 68 < cLine) {x y : V} {v u : Value} {Q : VK} (I : Inv X pins σ H s) (rx : RelV x v) (ry : RelV y u) {d e : D} {b : Bool} (r1 : RepQ X.K g H al x d) (r2 : RepQ X.K g H al y e) (q : eqL d e = some b) (hq : Q (.bl b) H) :
    wpAny (model X.prog X.w) X.A (compareOp .Eq v u) (EP X pins σ Q) X.xe s := by
  unfold eqL at q
  split at q
  · next dx dy q1 q2 =>
    split at q
    · next c =>
      obtain ⟨as, z1⟩ := Dp.reads I dx x v (r1.dp q1) rx
      obtain ⟨bs, z2⟩ := Dp.reads I dy y u (r2.dp q2) ry
      cases q
      exact SeqAt.compareEq_shaped z1 z2 c.1 c.2 (by omega) ⟨.bl _, H, I, rfl, hq⟩
    · cases q
  · cases q
theorem op_dict (hu : X.A.units + 68 < cLine) {x y : V} {v u : Value} {Q : VK} (I : Inv X pins σ H s) (rx : RelV x v) (ry : RelV y u) {ks ls : List (Key × D)} {b : Bool} (r1 : RepQ X.K g H al x (.dic ks)) (r2 : RepQ X.K g H al y (.dic ls)) (q : eqGo ls ks = some b) (hq : Q (.bl (ks.length == ls.length && b)) H) :
    wpAny (model X.prog X.w) X.A (compareOp .Eq v u) (EP X pins σ Q) X.xe s := by
  obtain ⟨a, vs, rfl, h1, k1⟩ := r1.dic
  obtain ⟨a', vs', rfl, h2, k2⟩ := r2.dic
  cases rx
  cases ry
  obtain ⟨va, ra, ya, da⟩ := rd_dict I h1
  obtain ⟨vb, rb, yb, db⟩ := rd_dict I h2
  refine PySem.W.keq_eqIn ya yb da db (by omega) (fun _ => g_d5 I (A := X.A.in1) (by show X.A.units + 1 + 64 < cLine; omega) k2 rb k1 ra q) ⟨.bl _, H, I, ?_, hq⟩
  show Value.bool _ = Value.bool _
  rw [show va.length = ks.length from by rw [← ra.length, k1.len], show vb.length = ls.length from by rw [← rb.length, k2.len]]
theorem op_tups (hu : X.A.units + 68 < cLine) {x y : V} {v u : Value} {Q : VK} (I : Inv X pins σ H s) (rx : RelV x v) (ry : RelV y u) {ds es : List D} {b : Bool} (r1 : RepQ X.K g H al x (.tup ds)) (r2 : RepQ X.K g H al y (.tup es)) (q : eqZ ds es = some b) (hq : Q (.bl (b && ds.length == es.length)) H) :
    wpAny (model X.prog X.w) X.A (compareOp .Eq v u) (EP X pins σ Q) X.xe s := by
  obtain ⟨a1, vs1, rfl, _, t1, k1⟩ := r1.tup
  obtain ⟨a2, vs2, rfl, _, t2, k2⟩ := r2.tup
  cases rx
  cases ry
  obtain ⟨its, z1, e1, l1⟩ := tup_at I t1 k1
  obtain ⟨its2, z2, e2, l2⟩ := tup_at I t2 k2
  show wpAny (model X.prog X.w) X.A (richCompare .Eq _ _) _ _ _
  refine GX.rc_tupX (by omega) (fun i s' => s' = s ∧ eqZ (ds.drop i) (es.drop i) = some b) e1 e2 (fun i h1 h2 s' hI => ?_) (fun s' hI => ?_) ⟨rfl, q⟩
  · obtain ⟨rfl, hI⟩ := hI
    have h1' : i < ds.length := by rw [← l1]; simpa using h1
    have h2' : i < es.length := by rw [← l2]; simpa using h2
    obtain ⟨b1, b2, p1, p2, rfl⟩ := eqZ_at i hI h1' h2'
    obtain ⟨v1, ra, rb⟩ := item_at z1 k1 i h1 h1'
    obtain ⟨v2, ra2, rb2⟩ := item_at z2 k2 i h2 h2'
    refine eqD1_in I (.val rb) (.val rb2) ra ra2 p1 X.A.in1 (by show X.A.units + 1 + 65 < cLine; omega) _ _ ⟨fun e => ⟨rfl, ?_⟩, fun e => ?_⟩
    · rw [e]
      exact p2
    · rw [e] at hq
      exact ⟨.bl false, H, I, rfl, hq⟩
  · obtain ⟨rfl, hI⟩ := hI
    have ee : b = true := eqZ_end hI (by simp [l1, l2])
    rw [ee] at hq
    refine ⟨.bl _, H, I, ?_, hq⟩
    show Value.bool _ = Value.bool _
    simp [l1, l2]
theorem op_eqN (hu : X.A.units + 68 < cLine) : OpR X (compareOp .Eq) (rEqN X.K) := by
  intro pins s σ H x y v u Q I rx ry h
  obtain ⟨g, al, d, e, b, r1, r2, q, hq⟩ := h
  unfold eqN at q
  split at q
  · next b' q' =>
    cases q
    exact op_leaf hu I rx ry r1 r2 q' hq
  · unfold eqN2 at q
    split at q
    · next ds es =>
      obtain ⟨b', q', rfl⟩ := Option.map_eq_some_iff.mp q
      exact op_tups hu I rx ry r1 r2 q' hq
    · unfold eqD1 at q
      split at q
      · next ks ls _ =>
        split at q
        · obtain ⟨b', q', rfl⟩ := Option.map_eq_some_iff.mp q
          exact op_dict hu I rx ry r1 r2 q' hq
        · cases q
      · exact op_leaf hu I rx ry r1 r2 q hq
theorem by_eqN {O : List Nat} {E : XS} : By2 X O E (rEqN X.K) kEqN := fun u v x y T ρ S g al σ H Q s r1 r2 w => by
  unfold kEqN at w
  rw [bnd_opt] at w
  split at w
  · next b q => exact ⟨g, al, x, y, b, r1, r2, q, w.rt' s (.bl _)⟩
  · exact w.elim
end
end Vl
set_option Elab.async false
set_option linter.all false
set_option maxRecDepth 100000
set_option maxHeartbeats 4000000
namespace Vl
open PySem PySem.Spec PyProof.Rows L2 Oc
variable [Ob : Objs]
/-! ### == and != of instances with an own __eq__, of tuples of them -/
abbrev FT := List (Str × (List D → Mo D))
structure EqOk (X : Cx) (k : Nat) (C : Str) (F : List D → Mo D) : Prop where
  cls : Cls X.K (He.ga X.K C)
  eq : ∃ f, Meth X.K (He.ga X.K C) "__eq__" f ∧ VFn X.prog X.w X.K X.mg X.base k f F
  ne : PySem.W.findIn X.K (.ref (He.ga X.K C)) "__ne__" = some (some (.builtin "object.__ne__"))
  ob : PySem.W.mroIn X.K (He.ga X.K C) (.type "object") = some true
def EqOks (X : Cx) (k : Nat) : FT → Prop
  | [] => True
  | (C, F) :: r => EqOk X k C F ∧ EqOks X k r
theorem EqOks.at_ {X : Cx} {k : Nat} {C : Str} {F : List D → Mo D} : ∀ {t : FT}, EqOks X k t → findC C t = some F → EqOk X k C F
  | [], _, e => by cases e
  | (B, b) :: r, h, e => by
    unfold findC at e
    split at e
    · next eq => cases e; subst eq; exact h.1
    · exact EqOks.at_ h.2 e
/-- none of the built-in types is below the class -/
def NotSub (X : Cx) (C : Str) (ts : List String) : Prop := ∀ t ∈ ts, PySem.W.subIn X.K (.type t) (.ref (He.ga X.K C)) = some false
def NotSubs (X : Cx) (ts : List String) : FT → Prop
  | [] => True
  | (C, _) :: r => NotSub X C ts ∧ NotSubs X ts r
theorem NotSubs.at_ {X : Cx} {C : Str} {ts : List String} {F : List D → Mo D} : ∀ {t : FT}, NotSubs X ts t → findC C t = some F → NotSub X C ts
  | [], _, e => by cases e
  | (B, b) :: r, h, e => by
    unfold findC at e
    split at e
    · next eq => cases e; subst eq; exact h.1
    · exact NotSubs.at_ h.2 e
/-- what may stand on the other side -/
def tyOk (C : Str) (ts : List String) : D → Bool
  | .ins B _ => decide (B = C)
  | d => match tyD d with
    | some t => ts.contains t
    | none => false
def kOB : D → Mo D
  | .bl b => ret (.bl b)
  | _ => nop
def kONB : D → Mo D
  | .bl b => ret (.bl (!b))
  | _ => nop
def difFs (fs gs : List (Str × D)) : Bool := (fs.zip gs).any fun p => decide (p.1.1 = p.2.1) && decide (eqD1 p.1.2 p.2.2 = some false)
open Classical in
noncomputable def eqPair (t : FT) : D → D → Mo Bool
  | .ins C fs, .ins B gs => fun S => if C = B then match findC C t with
    | some F => match nox (F [.ins C fs, .ins B gs]) S with
      | some (.ok (.bl b), S2) => if S2 = S ∧ (b = true ∨ difFs fs gs = true) then some (.ok b, S) else none
      | _ => none
    | none => none else none
  | _, _ => nop
noncomputable def eqZip (t : FT) : List D → List D → Mo Bool
  | d :: ds, e :: es => bnd (eqPair t d e) fun b => if b = true then eqZip t ds es else ret false
  | _, _ => ret true
noncomputable def kEqO (t : FT) (ts : List String) : D → D → Mo D
  | .ins C fs, e => bnd (opt (findC C t)) fun F => grd (tyOk C ts e) (bnd (nox (F [.ins C fs, e])) kOB)
  | .tup ds, .tup es => match eqN (.tup ds) (.tup es) with
    | some b => ret (.bl b)
    | none => bnd (eqZip t ds es) fun b => ret (.bl (b && ds.length == es.length))
  | d, e => kEqN d e
noncomputable def kNeO (t : FT) (ts : List String) : D → D → Mo D
  | .ins C fs, e => bnd (opt (findC C t)) fun F => grd (tyOk C ts e) (bnd (nox (F [.ins C fs, e])) kONB)
  | d, e => kNe d e
/-- an operation that does G, nothing is raised -/
def rFun (K : PySem.W.Frag) (G : D → D → Mo D) : R2 := fun x y H Q => spF K (fun ds => match ds with | [d, e] => G d e | _ => nop) [x, y] H Q fun _ _ _ => False
section
variable {X : Cx} {pins : List (Addr × Obj)} {σ : L2.St} {g : Addr → Nat} {H : Hp} {s : Shared} {al : List Addr}
/-- a def called somewhere below, nothing is raised -/
theorem run_at {A : Around} {k : Nat} {f : Addr} {F : List D → Mo D} {us : List Value} {vs : List V} {Q : VK} {E' : Value → Shared → Prop} (Fn : VFn X.prog X.w X.K X.mg X.base k f F) (hr : Room k A) (hfr : A.frames = X.A.frames) (I : Inv X pins σ H s) (r : Vals vs us)
    (h : spF X.K F vs H Q fun _ _ _ => False) : wpAny (model X.prog X.w) A (call (.ref f) us) (EP X pins σ Q) E' s := by
  obtain ⟨fd, ps, G, b⟩ := Fn
  have hl : us.length = ps.length := by rw [← r.length]; exact G.len _ _ _ _ h
  have e0 : Env0 X.prog X.w X.K X.mg X.base A X.stack s H := by
    have e := I.env0
    exact ⟨by rw [hfr]; exact e.frames, e.mod, e.bs, e.bsz, e.funs, e.frf, e.hok, e.bare⟩
  refine wpAny_call (codeAny_mono (G.run A X.stack s H ⟨us, []⟩ us vs Q _ hr e0 (by
    have := b s us I.kIn (by simpa using hl)
    simpa using this) r h) fun r s' hq => ?_)
  cases r with
  | error e => exact ((passes_call (X := X.nox) (E := fun _ _ _ => False) takes0 fun _ _ _ _ h => h) pins σ H s e s' (I.wish _) hq).elim
  | ok fl =>
    cases fl with
    | ret w => exact I.after hq
    | next => exact False.elim hq
    | brk => exact False.elim hq
    | cont => exact False.elim hq
theorem looksTy (I : Inv X pins σ H s) {v : V} {u : Value} {d : D} {C : Str} {ts : List String} (r : Rep X.K (reg g H 1) al v d) (rv : RelV v u) (n : NotSub X C ts) (h : tyOk C ts d = true) : ∃ tb, PySem.W.Looks (model X.prog X.w) s.heap (typeOf u) tb ∧ PySem.W.notFirst X.K (He.ga X.K C) tb = true := by
  cases hd : d with
  | ins B fs =>
    subst hd
    have e : B = C := of_decide_eq_true h
    subst e
    cases r with
    | ins h1 h2 =>
      cases rv
      obtain ⟨mB, J', _⟩ := ins_get I.hok (reg_le _ _ h1)
      obtain ⟨od', J', _⟩ := J'.look
      exact ⟨_, J'.type, by simp [PySem.W.notFirst]⟩
  | _ =>
    subst hd
    unfold tyOk at h
    dsimp only at h
    split at h
    · next t e =>
      obtain ⟨P, Z, p, _⟩ := kit_of I rv (RepQ.ty (.val r) e)
      exact ⟨_, Z.ty _ _ I.kIn p, by
        unfold PySem.W.notFirst
        rw [n t (by simpa using h)]
        simp⟩
    · cases h
theorem difFs_same (I : Inv X pins σ H s) : ∀ {fs gs : List (Str × D)} {vs : List (Str × V)}, RepFs X.K (reg g H 1) al vs fs → RepFs X.K (reg g H 1) al vs gs → difFs fs gs = false
  | _, _, _, .nil, .nil => rfl
  | _, _, _, .cons (v := v) r1 t1, .cons r2 t2 => by
    unfold difFs
    rw [List.zip_cons_cons, List.any_cons]
    have ih := difFs_same I t1 t2
    unfold difFs at ih
    rw [ih, Bool.or_false]
    obtain ⟨u, ru⟩ := exRel v r1
    rw [Bool.and_eq_false_iff]
    exact .inr (decide_eq_false fun e => by have := eqD1_same I (.val r1) (.val r2) ru e; cases this)
/-- one side an instance: its own __eq__ -/
theorem own_parts {t : FT} {ts : List String} {C : Str} {fs : List (Str × D)} {e : D} {k : D → Mo D} {Q : D → Objs.T → Prop} {E : Str → List (Str × D) → Objs.T → Prop} {S : Objs.T}
    (w : wp (bnd (opt (findC C t)) fun F => grd (tyOk C ts e) (bnd (nox (F [.ins C fs, e])) k)) Q E S) : ∃ F, findC C t = some F ∧ tyOk C ts e = true ∧ wp (F [.ins C fs, e]) (fun r S1 => wp (k r) Q E S1) (fun _ _ _ => False) S := by
  rw [bnd_opt] at w
  split at w
  · next F q =>
    obtain ⟨c, w⟩ := wp_grd.mp w
    rw [wp_bnd] at w
    exact ⟨F, q, c, wp_none w⟩
  · exact w.elim
theorem op_insO {t : FT} {ts : List String} {k : Nat} (ht : EqOks X k t) (hn : NotSubs X ts t) (hr : Room k X.A) {x y : V} {v u : Value} {Q : VK} (I : Inv X pins σ H s) (rx : RelV x v) (ry : RelV y u) {C : Str} {fs : List (Str × D)} {e : D} {T : Hp} {S : Objs.T} (sr : SR X.K [] T [] S g al [] H) (n4 : ∀ a, g a ≠ 4)
    (r1 : Rep X.K (reg g H 1) al x (.ins C fs)) (r2 : Rep X.K (reg g H 1) al y e) {F : List D → Mo D} (hF : findC C t = some F) (ho : tyOk C ts e = true)
    {E1 : Str → List (Str × D) → Objs.T → Prop} (w : wp (F [.ins C fs, e]) (fun r S1 => wp (kOB r) (fun d S' => ∀ v g' al' H', SR X.K [] T [] S' g' al' [] H' → Lw g al H g' al' H' → Rep X.K (reg g' H' 1) al' v d → Q v H') E1 S1) (fun _ _ _ => False) S) :
    wpAny (model X.prog X.w) X.A (richCompare .Eq v u) (EP X pins σ Q) X.xe s := by
  have ok := ht.at_ hF
  obtain ⟨f, hm, Fn⟩ := ok.eq
  obtain ⟨tb, lk, nf⟩ := looksTy I r2 ry (hn.at_ hF) ho
  cases r1 with
  | ins h1 h2 =>
    obtain rfl : v = Value.ref _ := rx
    obtain ⟨mA, J, _⟩ := ins_get I.hok (reg_le _ _ h1)
    obtain ⟨od, J, _⟩ := J.look
    obtain ⟨m, fr⟩ := I.fr
    refine PySem.W.cmp_K (op := .Eq) hr.units0 fr I.ok.mod.kin J lk nf hm.at_ hm.fn ?_
    refine wpAny_mono (run_at (us := [.ref _, u]) (vs := [.ref _, y]) (Q := fun v H' => ∃ b, v = .bl b ∧ Q (.bl b) H') Fn hr rfl I (.cons rfl (.cons ry .nil)) ⟨T, [.ins C fs, e], S, g, al, sr, n4, .cons (.ins h1 h2) (.cons r2 .nil), wp_mono w (fun d S' q v' g' al' H' s' l r' => ?_) fun _ _ _ q => q.elim⟩) (fun z s' q => ?_) fun _ _ q => q
    · cases d <;> first | exact q.elim | skip
      cases r'
      exact ⟨_, rfl, q _ g' al' H' s' l (.bl _)⟩
    · obtain ⟨v', H', I', rv, b, rfl, q⟩ := q
      cases (show z = Value.bool b from rv)
      exact ⟨.bl b, H', I', rfl, q⟩
theorem op_insN {t : FT} {ts : List String} {k : Nat} (ht : EqOks X k t) (hn : NotSubs X ts t) (hr : Room (k + 1) X.A) {x y : V} {v u : Value} {Q : VK} (I : Inv X pins σ H s) (rx : RelV x v) (ry : RelV y u) {C : Str} {fs : List (Str × D)} {e : D} {T : Hp} {S : Objs.T} (sr : SR X.K [] T [] S g al [] H) (n4 : ∀ a, g a ≠ 4)
    (r1 : Rep X.K (reg g H 1) al x (.ins C fs)) (r2 : Rep X.K (reg g H 1) al y e) {F : List D → Mo D} (hF : findC C t = some F) (ho : tyOk C ts e = true)
    {E1 : Str → List (Str × D) → Objs.T → Prop} (w : wp (F [.ins C fs, e]) (fun r S1 => wp (kONB r) (fun d S' => ∀ v g' al' H', SR X.K [] T [] S' g' al' [] H' → Lw g al H g' al' H' → Rep X.K (reg g' H' 1) al' v d → Q v H') E1 S1) (fun _ _ _ => False) S) :
    wpAny (model X.prog X.w) X.A (richCompare .NotEq v u) (EP X pins σ Q) X.xe s := by
  have ok := ht.at_ hF
  obtain ⟨f, hm, Fn⟩ := ok.eq
  obtain ⟨tb, lk, nf⟩ := looksTy I r2 ry (hn.at_ hF) ho
  cases r1 with
  | ins h1 h2 =>
    obtain rfl : v = Value.ref _ := rx
    obtain ⟨mA, J, _⟩ := ins_get I.hok (reg_le _ _ h1)
    obtain ⟨od, J, _⟩ := J.look
    obtain ⟨m, fr⟩ := I.fr
    refine PySem.W.ne_K (by have := hr.in1.units0; exact this) fr I.ok.mod.kin J lk nf ok.ne ok.ob hm.at_ hm.fn ?_
    refine wpAny_mono (run_at (us := [.ref _, u]) (vs := [.ref _, y]) (A := X.A.in1) (Q := fun v H' => ∃ b, v = .bl b ∧ Q (.bl (!b)) H') Fn hr.in1 rfl I (.cons rfl (.cons ry .nil)) ⟨T, [.ins C fs, e], S, g, al, sr, n4, .cons (.ins h1 h2) (.cons r2 .nil), wp_mono w (fun d S' q v' g' al' H' s' l r' => ?_) fun _ _ _ q => q.elim⟩) (fun z s' q => ?_) fun _ _ q => q
    · cases d <;> first | exact q.elim | skip
      cases r'
      exact ⟨_, rfl, q _ g' al' H' s' l (.bl _)⟩
    · obtain ⟨v', H', I', rv, b, rfl, q⟩ := q
      cases (show z = Value.bool b from rv)
      exact ⟨b, rfl, .bl _, H', I', rfl, q⟩
end
end Vl
set_option Elab.async false
set_option linter.all false
set_option maxRecDepth 100000
set_option maxHeartbeats 4000000
namespace Vl
open PySem PySem.Spec PyProof.Rows L2 Oc
variable [Ob : Objs]
section
variable {X : Cx} {pins : List (Addr × Obj)} {σ : L2.St} {g : Addr → Nat} {H : Hp} {s : Shared} {al : List Addr}
theorem eqPair_parts {t : FT} {d e : D} {Q : Bool → Objs.T → Prop} {E : Str → List (Str × D) → Objs.T → Prop} {S : Objs.T} (w : wp (eqPair t d e) Q E S) :
    ∃ C fs gs F b, d = .ins C fs ∧ e = .ins C gs ∧ findC C t = some F ∧ nox (F [.ins C fs, .ins C gs]) S = some (.ok (.bl b), S) ∧ (b = true ∨ difFs fs gs = true) ∧ Q b S := by
  cases d with
  | ins C fs =>
    cases e with
    | ins B gs =>
      unfold wp at w
      have key : ∀ r, eqPair t (.ins C fs) (.ins B gs) S = r → (match r with | some (.ok a, S') => Q a S' | some (.ex C' fs', S') => E C' fs' S' | none => False) → ∃ C' fs' gs' F b, (D.ins C fs) = .ins C' fs' ∧ (D.ins B gs) = .ins C' gs' ∧ findC C' t = some F ∧ nox (F [.ins C' fs', .ins C' gs']) S = some (.ok (.bl b), S) ∧ (b = true ∨ difFs fs' gs' = true) ∧ Q b S := by
        intro r hr hw
        unfold eqPair at hr
        dsimp only at hr
        split at hr
        · next ec =>
          subst ec
          split at hr
          · next F hF =>
            split at hr
            · next b S2 hq =>
              split at hr
              · next c =>
                obtain ⟨rfl, c⟩ := c
                subst hr
                exact ⟨_, _, _, F, b, rfl, rfl, hF, hq, c, hw⟩
              · subst hr; exact hw.elim
            · subst hr; exact hw.elim
          · subst hr; exact hw.elim
        · subst hr; exact hw.elim
      exact key _ rfl (by
        cases q : eqPair t (.ins C fs) (.ins B gs) S with
        | none => rw [q] at w; exact w
        | some r =>
          rw [q] at w
          obtain ⟨o, S'⟩ := r
          cases o <;> exact w)
    | _ => exact w.elim
  | _ => exact w.elim
theorem op_tupO {t : FT} {ts : List String} {k : Nat} (ht : EqOks X k t) (hn : NotSubs X ts t) (hr : Room (k + 1) X.A) {x y : V} {v u : Value} {Q : VK} (I : Inv X pins σ H s) (rx : RelV x v) (ry : RelV y u) {ds es : List D} {T : Hp} {S : Objs.T} (sr : SR X.K [] T [] S g al [] H)
    (r1 : Rep X.K (reg g H 1) al x (.tup ds)) (r2 : Rep X.K (reg g H 1) al y (.tup es))
    {E1 : Str → List (Str × D) → Objs.T → Prop} (w : wp (eqZip t ds es) (fun b S' => ∀ v g' al' H', SR X.K [] T [] S' g' al' [] H' → Lw g al H g' al' H' → Rep X.K (reg g' H' 1) al' v (.bl (b && ds.length == es.length)) → Q v H') E1 S) :
    wpAny (model X.prog X.w) X.A (richCompare .Eq v u) (EP X pins σ Q) X.xe s := by
  obtain ⟨a1, vs1, rfl, t1', t1, k1⟩ := (RepQ.val r1).tup
  obtain ⟨a2, vs2, rfl, t2', t2, k2⟩ := (RepQ.val r2).tup
  cases rx
  cases ry
  obtain ⟨its, z1, e1, l1⟩ := tup_at I t1 k1
  obtain ⟨its2, z2, e2, l2⟩ := tup_at I t2 k2
  refine GX.rc_tupX hr.units0 (fun i s' => ∃ g' al' H', Inv X pins σ H' s' ∧ SR X.K [] T [] S g' al' [] H' ∧ Lw g al H g' al' H' ∧
    wp (eqZip t (ds.drop i) (es.drop i)) (fun b S' => ∀ v g' al' H', SR X.K [] T [] S' g' al' [] H' → Lw g al H g' al' H' → Rep X.K (reg g' H' 1) al' v (.bl (b && ds.length == es.length)) → Q v H') E1 S) e1 e2 (fun i h1 h2 s' hI => ?_) (fun s' hI => ?_) ⟨g, al, H, I, sr, .refl, w⟩
  · obtain ⟨g', al', H', I', sr', lw, w'⟩ := hI
    have h1' : i < ds.length := by rw [← l1]; simpa using h1
    have h2' : i < es.length := by rw [← l2]; simpa using h2
    rw [List.drop_eq_getElem_cons h1', List.drop_eq_getElem_cons h2'] at w'
    unfold eqZip at w'
    rw [wp_bnd] at w'
    obtain ⟨C, fs, gs, F, b, ed, ee, hF, hq, hb, w'⟩ := eqPair_parts w'
    obtain ⟨v1, ra, rb⟩ := item_at z1 k1 i h1 h1'
    obtain ⟨v2, ra2, rb2⟩ := item_at z2 k2 i h2 h2'
    rw [ed] at rb
    rw [ee] at rb2
    have rb' := rb.mono lw.s lw.p
    have rb2' := rb2.mono lw.s lw.p
    have fin : ∀ g2 al2 H2 s2, Inv X pins σ H2 s2 → SR X.K [] T [] S g2 al2 [] H2 → Lw g al H g2 al2 H2 → (b = true → ∃ g' al' H', Inv X pins σ H' s2 ∧ SR X.K [] T [] S g' al' [] H' ∧ Lw g al H g' al' H' ∧ wp (eqZip t (ds.drop (i + 1)) (es.drop (i + 1))) (fun b S' => ∀ v g' al' H', SR X.K [] T [] S' g' al' [] H' → Lw g al H g' al' H' → Rep X.K (reg g' H' 1) al' v (.bl (b && ds.length == es.length)) → Q v H') E1 S) ∧
        (b = false → EP X pins σ Q (.bool false) s2) := fun g2 al2 H2 s2 I2 sr2 lw2 => ⟨fun e => by
      rw [if_pos e] at w'
      exact ⟨g2, al2, H2, I2, sr2, lw2, w'⟩, fun e => by
      rw [if_neg (by rw [e]; decide)] at w'
      exact ⟨.bl false, H2, I2, rfl, w' _ g2 al2 H2 sr2 lw2 (.bl _)⟩⟩
    have sr3 := sr'
    cases rb' with
    | @ins p1 dx1 _ ws1 _ hp1 kf1 =>
      cases rb2' with
      | @ins p2 dx2 _ ws2 _ hp2 kf2 =>
        have ea1 : its.toArray[i] = Value.ref p1 := ra
        have ea2 : its2.toArray[i] = Value.ref p2 := ra2
        rw [ea1, ea2]
        by_cases hp : p1 = p2
        · subst hp
          rw [hp1] at hp2
          cases hp2
          have hb' : b = true := hb.resolve_right fun z => by rw [difFs_same I' kf1 kf2] at z; cases z
          subst hb'
          exact (SeqAt.EqAt.same (A := X.A.in1) (s := s') (Value.ref p1)) X.prog X.w X.xe _ ⟨(fin g' al' H' s' I' sr' lw).1, fun z => by cases z⟩
        · refine GQ.eqBool_refG hp ?_
          have ok := ht.at_ hF
          have hw : Post (RR X.K) X.K [] XS0 T [] [] g' al' H' (nox (F [.ins C fs, .ins C gs])) S (fun v H2 => v = .bl b ∧ ∃ g2 al2, SR X.K [] T [] S g2 al2 [] H2 ∧ Lw g al H g2 al2 H2) := by
            show wp _ _ _ S
            unfold wp
            rw [hq]
            exact fun v g2 al2 H2 s2 l2 r2 => by
              cases r2
              exact ⟨rfl, g2, al2, s2, lw.trans l2.w⟩
          have sp := call_nox (us := [.ref p1, .ref p2]) sr' (.cons (.ins hp1 kf1) (.cons (.ins hp2 kf2) .nil)) hw
          obtain ⟨T2, ds2, S2, g2, al2, srr, n4, rr, ww⟩ := sp
          cases rr with
          | cons q1 q2 =>
            cases q2 with
            | cons q3 q4 =>
              cases q4
              rename_i dd1 dd2
              obtain ⟨f, hm, Fn⟩ := ok.eq
              obtain ⟨mA, J, _⟩ := ins_get I'.hok (reg_le _ _ hp1)
              obtain ⟨od, J, _⟩ := J.look
              obtain ⟨mB, J', _⟩ := ins_get I'.hok (reg_le _ _ hp2)
              obtain ⟨od', J', _⟩ := J'.look
              obtain ⟨m, fr⟩ := I'.fr
              refine PySem.W.cmp_K (op := .Eq) hr.in1.units0 fr I'.ok.mod.kin J J'.type (by simp [PySem.W.notFirst]) hm.at_ hm.fn ?_
              refine wpAny_mono (run_at (us := [.ref p1, .ref p2]) (vs := [.ref p1, .ref p2]) (A := X.A.in1) Fn hr.in1 rfl I' (.cons rfl (.cons rfl .nil)) ⟨T2, [dd1, dd2], S2, g2, al2, srr, n4, .cons q1 (.cons q3 .nil), ww⟩) (fun z s2 q => ?_) fun _ _ q => q
              obtain ⟨v', H2, I2, rv, rfl, g3, al3, s3, l3⟩ := q
              cases (show z = Value.bool b from rv)
              exact ⟨b, rfl, fin g3 al3 H2 s2 I2 s3 l3⟩
  · obtain ⟨g', al', H', I', sr', lw, w'⟩ := hI
    have hl : eqZip t (ds.drop (min its.toArray.size its2.toArray.size)) (es.drop (min its.toArray.size its2.toArray.size)) = ret true := by
      have e1 : its.toArray.size = ds.length := by simpa using l1
      have e2 : its2.toArray.size = es.length := by simpa using l2
      rw [e1, e2]
      rcases Nat.le_total ds.length es.length with h | h
      · rw [Nat.min_eq_left h, List.drop_of_length_le (Nat.le_refl _)]
        rfl
      · rw [Nat.min_eq_right h, List.drop_of_length_le (l := es) (Nat.le_refl _)]
        unfold eqZip
        split
        · next e => cases e
        · rfl
    rw [hl] at w'
    refine ⟨.bl _, H', I', ?_, w' (.bl _) g' al' H' sr' lw (.bl _)⟩
    show Value.bool _ = Value.bool _
    simp [l1, l2]
end
end Vl
set_option Elab.async false
set_option linter.all false
set_option maxRecDepth 100000
set_option maxHeartbeats 4000000
namespace Vl
open PySem PySem.Spec PyProof.Rows L2 Oc
variable [Ob : Objs]
section
variable {X : Cx} {O : List Nat} {E : XS} {a b e : Expr} {es : List Expr} {fa fb : Env → Mo D} {fl : Env → Mo (List D)} {pos : Pos}
theorem room68 {k : Nat} {A : Around} (hr : Room k A) : A.units + 68 < cLine := by have := hr.un; omega
theorem op_eqO {t : FT} {ts : List String} {k : Nat} (ht : EqOks X k t) (hn : NotSubs X ts t) (hr : Room (k + 1) X.A) : OpR X (compareOp .Eq) (rFun X.K (kEqO t ts)) := by
  intro pins s σ H x y v u Q I rx ry h
  obtain ⟨T, ds, S, g, al, sr, n4, r, w⟩ := h
  cases r with
  | cons r1 r =>
    cases r with
    | cons r2 r =>
      cases r
      rename_i d e
      have w : wp (kEqO t ts d e) _ _ S := w
      unfold kEqO at w
      split at w
      · next C fs e =>
        obtain ⟨F, hF, ho, w⟩ := own_parts w
        exact op_insO ht hn (hr.mono (Nat.le_succ _)) I rx ry sr n4 r1 r2 hF ho w
      · next ds es =>
        split at w
        · next b q => exact op_eqN (room68 hr) pins s σ H x y v u Q I rx ry ⟨g, al, _, _, b, .val r1, .val r2, q, w _ g al H sr .refl (.bl _)⟩
        · rw [wp_bnd] at w
          exact op_tupO (E1 := fun _ _ _ => True) ht hn hr I rx ry sr r1 r2 (wp_mono w (fun b S1 q => q) fun _ _ _ _ => trivial)
      · unfold kEqN at w
        rw [bnd_opt] at w
        split at w
        · next b q => exact op_eqN (room68 hr) pins s σ H x y v u Q I rx ry ⟨g, al, _, _, b, .val r1, .val r2, q, w _ g al H sr .refl (.bl _)⟩
        · exact w.elim
theorem op_neO {t : FT} {ts : List String} {k : Nat} (ht : EqOks X k t) (hn : NotSubs X ts t) (hr : Room (k + 1) X.A) : OpR X (compareOp .NotEq) (rFun X.K (kNeO t ts)) := by
  intro pins s σ H x y v u Q I rx ry h
  obtain ⟨T, ds, S, g, al, sr, n4, r, w⟩ := h
  cases r with
  | cons r1 r =>
    cases r with
    | cons r2 r =>
      cases r
      rename_i d e
      have w : wp (kNeO t ts d e) _ _ S := w
      unfold kNeO at w
      split at w
      · next C fs e =>
        obtain ⟨F, hF, ho, w⟩ := own_parts w
        exact op_insN ht hn hr I rx ry sr n4 r1 r2 hF ho w
      · unfold kNe at w
        split at w
        · next d' e' q1 q2 =>
          obtain ⟨c, w⟩ := wp_grd.mp w
          rw [Bool.and_eq_true] at c
          exact op_neD hr.units pins s σ H x y v u Q I rx ry ⟨d', e', (RepQ.val r1).dp q1, (RepQ.val r2).dp q2, c.1, c.2, w _ g al H sr .refl (.bl _)⟩
        · exact w.elim
/-! ### operations whose operands are values -/
theorem liftV {G : D → D → Mo D} {σ : L2.St} {H : Hp} {Q : VK} (h : lift (RR X.K) X.K O E (f2 fa fb fun x y => nox (G x y)) σ H Q) : lift (RR X.K) X.K O E fa σ H fun u H1 => lift (RR X.K) X.K O E fb σ H1 fun v H2 => rFun X.K G u v H2 Q := by
  obtain ⟨T, ρ, S, g, al, s, w⟩ := h
  exact ⟨T, ρ, S, g, al, s, w.bn fun v d S' g' al' H' s' l r w' => ⟨T, ρ, S', g', al', s', w'.bn fun v2 d2 S2 g2 al2 H2 s2 l2 r2 w2 => call_nox (F := fun ds => match ds with | [d, e] => G d e | _ => nop) (xs := [d, d2]) s2 (.cons (r.mono l2.s l2.p) (.cons r2 .nil)) w2⟩⟩
theorem ve_cmpV {op : CmpOp} {G : D → D → Mo D} (ho : OpR X (compareOp op) (rFun X.K G)) (ha : VE X O E a fa) (hb : VE X O E b fb) (hm : behindInMarks op b = false) : VE X O E (.Compare a [op] [b] pos) (f2 fa fb fun x y => nox (G x y)) := PE.weak (pe_cmpR ho ha hb hm) fun _ _ _ h => liftV h
theorem vt_cmpV {op : CmpOp} {G : D → D → Mo D} (ho : OpR X (compareOp op) (rFun X.K G)) (ha : VE X O E a fa) (hb : VE X O E b fb) (hm : behindInMarks op b = false) : VT X O E (.Compare a [op] [b] pos) (fun ρ => bnd (f2 fa fb (fun x y => nox (G x y)) ρ) kBl) :=
  PT.weak (pt_cmpR ho ha hb hm) fun σ H Q ⟨T, ρ, S, g, al, s, w⟩ => liftV ⟨T, ρ, S, g, al, s, w.bn (R := RR X.K) fun v d S' g' al' H' s' l r w' => by
    cases d with
    | bl b => cases r; exact ⟨b, rfl, w'.rt' s' rfl⟩
    | _ => exact w'.elim⟩
/-! ### in by an own __contains__ -/
structure SpOk (X : Cx) (k : Nat) (m C : Str) (F : List D → Mo D) : Prop where
  ex : ∃ f, Meth X.K (He.ga X.K C) m f ∧ VFn X.prog X.w X.K X.mg X.base k f F ∧ PySem.W.fnIn X.K f = true
def SpOks (X : Cx) (k : Nat) (m : Str) : FT → Prop
  | [] => True
  | (C, F) :: r => SpOk X k m C F ∧ SpOks X k m r
theorem SpOks.at_ {X : Cx} {k : Nat} {m C : Str} {F : List D → Mo D} : ∀ {t : FT}, SpOks X k m t → findC C t = some F → SpOk X k m C F
  | [], _, e => by cases e
  | (B, b) :: r, h, e => by
    unfold findC at e
    split at e
    · next eq => cases e; subst eq; exact h.1
    · exact SpOks.at_ h.2 e
omit Ob in
theorem FunD.fnIn {K : PySem.W.Frag} {x qual : Str} {params : Arguments} {body : List Stmt} {scope : Scope} {f : Addr} {fd : FuncData} {dvs : List V} {kws : List (Str × V)} (F : FunD K x qual params body scope dvs kws f fd) : PySem.W.fnIn K f = true := by
  obtain ⟨oc, od, dV, kV, doc, pm, an, cdv, ct, osl, rfl, lk, _⟩ := F.ex
  unfold PySem.W.fnIn
  rw [lk]
def kInO (t : FT) : D → D → Mo D := fun x y => match y with
  | .ins C fs => bnd (opt (findC C t)) fun F => bnd (F [.ins C fs, x]) kOB
  | _ => nop
theorem op_inO {t : FT} {k : Nat} (ht : SpOks X k "__contains__" t) (hr : Room k X.A) : OpR X (compareOp .In) (rFun X.K (kInO t)) := by
  intro pins s σ H x y v u Q I rx ry h
  obtain ⟨T, ds, S, g, al, sr, n4, r, w⟩ := h
  cases r with
  | cons r1 r =>
    cases r with
    | cons r2 r =>
      cases r
      rename_i d e
      have w : wp (kInO t d e) _ _ S := w
      cases he : e with
      | ins C fs =>
        subst he
        unfold kInO at w
        dsimp only at w
        rw [bnd_opt] at w
        split at w
        · next F hF =>
          rw [wp_bnd] at w
          obtain ⟨f, hm, Fn, _⟩ := (ht.at_ hF).ex
          cases r2 with
          | ins h1 h2 =>
            obtain rfl : u = Value.ref _ := ry
            obtain ⟨mA, J, _⟩ := ins_get I.hok (reg_le _ _ h1)
            obtain ⟨od, J, _⟩ := J.look
            obtain ⟨m, fr⟩ := I.fr
            refine PySem.W.in_K fr I.ok.mod.kin J hm.at_ hm.fn ?_
            refine wpAny_mono (run_at (us := [.ref _, v]) (vs := [.ref _, x]) (Q := fun v H' => ∃ b, v = .bl b ∧ Q (.bl b) H') Fn hr rfl I (.cons rfl (.cons rx .nil)) ⟨T, [.ins C fs, d], S, g, al, sr, n4, .cons (.ins h1 h2) (.cons r1 .nil), wp_mono w (fun d S' q v' g' al' H' s' l r' => ?_) fun _ _ _ q => q⟩) (fun z s' q => ?_) fun _ _ q => q
            · cases d <;> first | exact q.elim | skip
              cases r'
              exact ⟨_, rfl, q _ g' al' H' s' l (.bl _)⟩
            · obtain ⟨v', H', I', rv, b, rfl, q⟩ := q
              cases (show z = Value.bool b from rv)
              exact wpAny_truthy_bool ⟨.bl b, H', I', rfl, q⟩
        · exact w.elim
      | _ => subst he; exact w.elim
/-! ### len by an own __len__ -/
def rFunN (K : PySem.W.Frag) (G : List D → Mo D) : List V → Hp → VK → Prop := fun xs H Q => spF K G xs H Q fun _ _ _ => False
def kNat : D → Mo D
  | .int n => grd (decide (0 ≤ n) && decide (n < 2 ^ 60)) (ret (.int n))
  | _ => nop
def kLenO (t : FT) : List D → Mo D
  | [.ins C fs] => bnd (opt (findC C t)) fun F => bnd (F [.ins C fs]) kNat
  | _ => nop
theorem call_lenO {t : FT} {k : Nat} (ht : SpOks X k "__len__" t) (hr : Room (k + 1) X.A) : CallR X (.builtin "len") (rFunN X.K (kLenO t)) := by
  intro pins s σ H xs us Q I r h
  obtain ⟨T, ds, S, g, al, sr, n4, rr, w⟩ := h
  unfold kLenO at w
  split at w
  · next C fs =>
    cases rr with
    | cons r1 rr =>
      cases rr
      obtain ⟨u, rfl, ru⟩ : ∃ u, us = [u] ∧ RelV _ u := by cases r with | cons a b => cases b; exact ⟨_, rfl, a⟩
      rw [bnd_opt] at w
      split at w
      · next F hF =>
        rw [wp_bnd] at w
        obtain ⟨f, hm, Fn, _⟩ := (ht.at_ hF).ex
        cases r1 with
        | ins h1 h2 =>
          obtain rfl : u = Value.ref _ := ru
          obtain ⟨mA, J, _⟩ := ins_get I.hok (reg_le _ _ h1)
          obtain ⟨od, J, _⟩ := J.look
          obtain ⟨m, fr⟩ := I.fr
          refine PySem.W.len_K fr I.ok.mod.kin J hm.at_ hm.fn ?_
          refine wpAny_mono (run_at (us := [.ref _]) (vs := [.ref _]) (A := X.A.in1) (Q := fun v H' => ∃ n, v = .int n ∧ 0 ≤ n ∧ n < 2 ^ 60 ∧ Q (.int n) H') Fn hr.in1 rfl I (.cons rfl .nil) ⟨T, [.ins C fs], S, g, al, sr, n4, .cons (.ins h1 h2) .nil, wp_mono w (fun d S' q v' g' al' H' s' l r' => ?_) fun _ _ _ q => q⟩) (fun z s' q => ?_) fun _ _ q => q
          · cases d <;> first | exact q.elim | skip
            obtain ⟨c, q⟩ := wp_grd.mp q
            rw [Bool.and_eq_true, decide_eq_true_eq, decide_eq_true_eq] at c
            cases r'
            exact ⟨_, rfl, c.1, c.2, q _ g' al' H' s' l (.int _)⟩
          · obtain ⟨v', H', I', rv, n, rfl, h0, h1, q⟩ := q
            obtain ⟨t, hz⟩ := (show ∃ t, z = Value.int n t from rv)
            subst hz
            exact ⟨⟨h0, Int.lt_trans h1 (by decide)⟩, ⟨.int n, H', I'.tok _, ⟨_, rfl⟩, q⟩⟩
      · exact w.elim
  · exact w.elim
theorem ve_lenO {x : Str} {p : Pos} {t : FT} {k : Nat} (ht : SpOks X k "__len__" t) (hr : Room (k + 1) X.A) (hg : Gl X x) (hm : X.mg x = none) (hv : bootBuiltins x = some (.builtin "len")) (ha : VA X O E [e] fl) (hn : x ≠ "__name__" := by decide) (hdb : (x == ("__debug__" : Str)) = false := by decide)
    (he : starEach [e] X.env = (false, eval e X.env) :: starEach [] X.env := by rfl) (hpl : (backTo pos (starEach [] X.env)).any (·.1) = false := by rfl) : VE X O E (.Call (.Name x p) [e] [] pos) (fN fl fun xs => nox (kLenO t xs)) :=
  PE.weak (pe_callB (call_lenO ht hr) hg hm hv ha hn hdb he hpl) fun σ H Q ⟨T, ρ, S, g, al, s, w⟩ => ⟨T, ρ, S, g, al, s, w.bn fun v d S' g' al' H' s' l r w' => call_nox s' r w'⟩
end
end Vl
set_option Elab.async false
set_option linter.all false
set_option maxRecDepth 100000
set_option maxHeartbeats 4000000
namespace L2
open PySem PySem.Spec PyProof.Rows Oc
/-! ### an own exception of any base, made for raise -/
section
variable {X : Cx} {CX : CXT} {k : Nat} {fI C : Addr} {fd : FuncData} {ps : List Str} {sp : Sp} {x : Str} {p pos : Pos} {e : Expr} {es : List Expr} {ta : TA} {newId : String} {bm : List Value}
theorem pmk_mkE (T : ExCl X.K C newId bm) (ty : PySem.W.typeIn X.K (.ref C) = some (.type "type")) (iC : PySem.W.findIn X.K (.ref C) "__init__" = some (some (.ref fI))) (tI : PySem.W.typeIn X.K (.ref fI) = some (.type "function"))
    (F1 : FnOk X.prog X.w X.K X.mg X.base CX k fI fd ps sp) (hr : Room (k + 1) X.A) (hb : Binds X.K fd ps []) (hx : Passes CX X (fun _ _ _ => False)) (hg : Gl X x) (hm : X.mg x = some (.ref C)) (ha : PA X (e :: es) ta)
    (hdb : (x == ("__debug__" : Str)) = false := by decide) (he : starEach (e :: es) X.env = (false, eval e X.env) :: starEach es X.env := by rfl) (hpl : (backTo pos (starEach es X.env)).any (·.1) = false := by rfl) :
    PMk X (.Call (.Name x p) (e :: es) [] pos) (tMkO C sp [] ta) := by
  intro pins s σ H Q I h
  obtain ⟨nm, q, N, bs, sn, sub, ab, col, dd, k0, k1, k2, k3, k5, hC⟩ := T.cls
  obtain ⟨B, initId, Fb, _⟩ := T.base.fac
  refine wpAny_Call_Name_kw (ld_glob I hg hm ?_ hdb)
  refine PySem.W.callWith_K (h₀ := X.base) I.ok.mod.kin T.kC (thn (ha.run pos pins s σ H _ I h) fun us s1 ⟨vs, H1, I1, r1, hz, q1⟩ => ⟨I1.kIn, ?_⟩) he hpl
  show wpAny _ _ (call (.ref C) us) _ _ _
  obtain ⟨hp, g, dr, tk, os⟩ := s1
  have hsz : hp.objs.size ≤ hp.objs.size + 1 := Nat.le_succ _
  have hn : H1 (hp.objs.size + 1) = none := I1.hok.fresh hsz
  have hq := q1 (hp.objs.size + 1) hn
  have kk : ∀ b o, hp.get? b = some o → ((hp.push (PySem.W.kdv_tup us)).push (PySem.HandSPX.excO C hp.objs.size)).get? b = some o := fun b o e => Heap.get?_push_of_some _ (Heap.get?_push_of_some _ e)
  have hget : ((hp.push (PySem.W.kdv_tup us)).push (PySem.HandSPX.excO C hp.objs.size)).get? (hp.objs.size + 1) = some (PySem.HandSPX.excO C hp.objs.size) := by heap_get
  have I2 : Inv X pins σ (upd H1 (hp.objs.size + 1) (exo (hp.objs.size + 1) C none)) ⟨(hp.push (PySem.W.kdv_tup us)).push (PySem.HandSPX.excO C hp.objs.size), g, dr, tk, os⟩ :=
    I1.laid (t' := tk) (a := hp.objs.size + 1) (o := exo (hp.objs.size + 1) C none) (h' := (hp.push (PySem.W.kdv_tup us)).push (PySem.HandSPX.excO C hp.objs.size)) kk hsz (exo_ok hget)
  have r2 : Vals (V.ref (hp.objs.size + 1) :: (vs ++ [])) (Value.ref (hp.objs.size + 1) :: us) := by rw [List.append_nil]; exact .cons rfl r1
  have hl : (Value.ref (hp.objs.size + 1) :: us).length = ps.length := by
    have e := r2.length
    rw [F1.len _ _ _ _ hq] at e
    exact e.symm
  have hus : us.length ≤ sizeLine := by
    rw [← Paired.length r1, sizeLine_eq]
    omega
  refine wpAny_call (Ox.made_kw Fb (I1.kIn _ _ hC) (PySem.W.looks_findIn I1.kIn iC) (fun self => PySem.W.bind_fn I1.kIn self tI) hus
    (codeAny_mono (F1.run _ X.stack _ _ ⟨Value.ref (hp.objs.size + 1) :: us, []⟩ (Value.ref (hp.objs.size + 1) :: us) _ _ (fun _ _ _ => False) (hr.make C us []) (I2.env0.make C us []) (by have z := hb _ (Value.ref (hp.objs.size + 1) :: us) I2.kIn (by rw [List.append_nil]; exact hl); rw [List.append_nil] at z; exact z) r2 hq) fun r s' hq' => ?_))
  cases r with
  | error er => exact hx pins σ _ _ er s' I2 hq'
  | ok fl =>
    cases fl with
    | ret u =>
      obtain ⟨v, H2, os2, bare2, un2, hok2, rv, ev, d, fs, ea, ed, hd1, q2⟩ := hq'
      subst ev
      obtain ⟨h2, g2, d2, t2, os'⟩ := s'
      exact ⟨rv, mk_end (raises_own T.hs ty) I1 hsz kk un2 hok2 os2 bare2 ea ed hd1 q2⟩
    | next => exact False.elim hq'
    | brk => exact False.elim hq'
    | cont => exact False.elim hq'
/-- what C(e) asks behind its argument, C with one field -/
theorem ans_x1 {f : Str} {y : V} {H1 : Hp} {Q : XK} (k : ∀ dx, H1 dx = none → Q (.ref C) (some dx) (upd H1 dx (.xd [(f, y)]))) : [y].length ≤ 1000 ∧ ∀ a, H1 a = none → spI1 C f (.ref a :: ([y] ++ [])) (upd H1 a (exo a C none))
    (fun v H2 => v = .non ∧ ∃ (d : Addr) (fs : List (Str × V)), H2 a = some (exo a C (some d)) ∧ H2 d = some (exd d fs) ∧ H1 d = none ∧ Q (.ref C) (some d) (upd (del H2 a) d (.xd fs))) (fun _ _ _ => False) := by
  refine ⟨by show 1 ≤ 1000; omega, fun a na => ⟨a, y, rfl, upd_same, fun dx nd ne => ⟨rfl, dx, [(f, y)], upd_same, by rw [upd_ne ne, upd_same], ?_, ?_⟩⟩⟩
  · rw [upd_ne ne] at nd
    exact nd
  · rw [upd_ne ne] at nd
    have e : upd (del (upd (upd (upd H1 a (exo a C none)) dx (exd dx [(f, y)])) a (exo a C (some dx))) a) dx (HO.xd [(f, y)]) = upd H1 dx (.xd [(f, y)]) := by
      funext b
      by_cases hb : b = dx
      · rw [hb, upd_same, upd_same]
      · rw [upd_ne hb, upd_ne hb]
        by_cases ha : b = a
        · rw [ha, del_same, na]
        · rw [del_ne ha, upd_ne ha, upd_ne hb, upd_ne ha]
    rw [e]
    exact k dx nd
theorem pmk_ex1 {f : Str} {te : TE} (E : Ex1 X.prog X.w X.K X.mg X.base x f C newId bm) (ty : PySem.W.typeIn X.K (.ref C) = some (.type "type")) (hr : Room 2 X.A) (he : PE X e te) (hg : Gl X x := by rfl) (hdb : (x == ("__debug__" : Str)) = false := by decide) (hs : starEach [e] X.env = (false, eval e X.env) :: starEach [] X.env := by rfl) :
    PMk X (.Call (.Name x p) [e] [] pos) (tMkO C (spI1 C f) [] (tCons te tNil)) := by
  obtain ⟨fI, fd, ⟨cl, ini, fn, g⟩, F, b, _⟩ := E.ex
  exact pmk_mkE (e := e) (es := []) (p := p) (pos := pos) cl ty ini fn F hr b pass0 hg g (pa_cons he pa_nil hs) hdb hs rfl
/-- C(), a class without an __init__ of its own -/
theorem pmk_0 {B initId : String} (Fb : ExcBaseFacts B newId initId bm) (q : PySem.W.excIn X.K C bm newId = true) (kC : PySem.W.keepIn X.K (.ref C) = true) (r : Raises X (.ref C)) (gC : X.mg x = some (.ref C)) (hg : Gl X x)
    (hdb : (x == ("__debug__" : Str)) = false := by decide) : PMk X (.Call (.Name x p) [] [] pos) (fun _ H Q => Q (.ref C) none H) := by
  intro pins s σ H Q I h
  refine wpAny_Call_Name_kw (ld_glob I hg gC ?_ hdb)
  refine PySem.W.callWith_K0 I.kIn kC ?_
  obtain ⟨bm', N, nm, qn, bs, hdct, sn, sub, ab, col, dd, k0, k1, k2, k3, k5, mN, hC, hN, hni, Tt⟩ := exc_obj I.kIn q
  show wpAny _ _ (call (.ref C) []) _ _ _
  refine wpAny_call_exc_subT Fb Tt hC hN hni (fun h' a hm => ?_) (by show 0 ≤ sizeLine; exact Nat.zero_le _)
  exact mk_of I hm r h (I.hok.gone hm.new)
/-- isinstance of the error that a suite holds, whatever its fields -/
theorem call_isX {a : Addr} {oe : Obj} {d : Option Addr} {pn : List (Addr × Obj)} (T : ExCl X.K C newId bm) (hz : Zc (.ref C) d oe) (hf : ∃ vs, oe.data = .fields vs) :
    CallR (X.suite a ((a, oe) :: pn)) (.builtin "isinstance") (fun xs H Q => ∃ (c : V) (cv : Value) (b : Bool), xs = [.ref a, c] ∧ ClsV c cv ∧ PySem.W.kitOne X.K (.ref C) cv = some b ∧ (∀ dd, d = some dd → ∃ fs, H dd = some (.xd fs)) ∧ Q (.bl b) H) := by
  intro pins s σ H xs us Q I r h
  obtain ⟨c, cv, b, rfl, hcv, e, hd, q⟩ := h
  obtain ⟨u1, u2, rfl, r1, r2⟩ := vals2 r
  obtain rfl : u1 = Value.ref a := r1
  have ec := hcv.eq r2
  subst ec
  obtain ⟨hget, _⟩ := I.pin (a, oe) (List.mem_append.mpr (.inl List.mem_cons_self))
  obtain ⟨vs, hv⟩ := hf
  have J : ∃ od, PySem.W.InstAt s.heap a oe C od := by
    cases d with
    | none =>
      obtain ⟨oc, od, oda, osl⟩ := oe
      obtain ⟨h1, h2⟩ := hz
      dsimp only at h1 h2 hv
      subst h1 h2 hv
      exact ⟨none, hget, rfl, rfl, trivial⟩
    | some dd =>
      obtain ⟨fs, ea⟩ := hd dd rfl
      have hx : ObjOk X.prog X.w H s.heap dd (.xd fs) := I.hok dd _ ea
      obtain ⟨mA, hns, hr⟩ := hx
      obtain ⟨od, ho, hl⟩ := lookIn_ns hns
      exact ⟨some od, hget, hz.1, by unfold PySem.W.notCls; rw [hv] <;> rfl, by rw [hz.2]; exact ho⟩
  obtain ⟨od, J⟩ := J
  exact PySem.W.kia_one (ExCl.kit T) I.kIn J e (fun z => nomatch z) fun tk => ⟨.bl b, H, I.kept (t' := tk) fun _ _ z => z, rfl, q⟩
end
end L2
set_option Elab.async false
set_option linter.all false
set_option maxRecDepth 100000
set_option maxHeartbeats 4000000
namespace Vl
open PySem PySem.Spec PyProof.Rows L2 Oc
variable [Ob : Objs]
/-! ### raise -/
section
variable {X : Cx} {O O' OL : List Nat} {E : XS} {a b e : Expr} {es : List Expr} {fa fb fe : Env → Mo D} {fl : Env → Mo (List D)} {pos pos' : Pos} {C f : Str} {newId : String} {bm : List Value} {p : Pos}
def sRaise1 (C f : Str) (fe : Env → Mo D) : MoS := fun ρ => bnd (fe ρ) fun d => thr C [(f, d)]
theorem vs_raise1 (hc : X.calm = true) (tk : Tk X E) (fE : Flat E) (Ec : Ex1 X.prog X.w X.K X.mg X.base C f (He.ga X.K C) newId bm) (ty : PySem.W.typeIn X.K (.ref (He.ga X.K C)) = some (.type "type")) (hr : Room 2 X.A) (he : VE X O E e fe) (hg : Gl X C := by rfl) (hdb : (C == ("__debug__" : Str)) = false := by decide)
    (hs : starEach [e] X.env = (false, eval e X.env) :: starEach [] X.env := by rfl) : VS X O O' OL E (.Raise (some (.Call (.Name C p) [e] [] pos)) none pos') (sRaise1 C f fe) :=
  PS.weak (ps_raise hc tk (pmk_ex1 Ec ty hr he hg hdb hs)) fun Dn σ H ⟨T, ρ, S, g, al, s, w⟩ => ⟨T, ρ, S, g, al, s, PostS.bn fE w fun y d S' g' al' H' s' l r w' => ans_x1 fun dx nd => by
    have w' : Exs X.K E T g' al' H' C [(f, d)] S' := w'
    exact w' σ _ al' _ (some dx) (s'.alloc (o := .xd [(f, y)]) nd).base (Le.alloc nd).w ⟨[(f, y)], alloc_at nd, .cons (r.mono (Le.alloc (al := al') nd).s List.prefix_rfl) .nil⟩⟩
theorem vs_raise0 (hc : X.calm = true) (tk : Tk X E) (fE : Flat E) (hb : ∃ B i, ExcBaseFacts B newId i bm ∧ StoreFacts B bm "object.__setattr__" "object") (q : PySem.W.excIn X.K (He.ga X.K C) bm newId = true) (cl : ExCl X.K (He.ga X.K C) newId bm) (ty : PySem.W.typeIn X.K (.ref (He.ga X.K C)) = some (.type "type")) (gC : X.mg C = some (.ref (He.ga X.K C))) (hg : Gl X C := by rfl) (hdb : (C == ("__debug__" : Str)) = false := by decide) :
    VS X O O' OL E (.Raise (some (.Call (.Name C p) [] [] pos)) none pos') (fun _ => thr C []) := by
  obtain ⟨B, initId, Fb, _⟩ := hb
  exact PS.weak (ps_raise hc tk (pmk_0 Fb q cl.kC (raises_own cl.hs ty) gC hg hdb)) fun Dn σ H ⟨T, ρ, S, g, al, s, w⟩ => by
    have w : Exs X.K E T g al H C [] S := w
    exact w σ g al H none s.base .refl rfl
end
/-! ### try: one statement; except C as n: return something plain of the error -/
structure SX (K : PySem.W.Frag) (O : List Nat) (a : Addr) (dx : Option Addr) (i : Nat) (fs : List (Str × D)) (T : Hp) (ρ : Env) (S : Objs.T) (g : Addr → Nat) (al : List Addr) (σ : L2.St) (H : Hp) : Prop where
  sr : SR K O T ρ S g al σ H
  ex : ExF K (reg g H 1) al fs dx
  nm : σ[i]? = some (some (.ref a))
/-- in the suite: an expression whose value is d, nothing is made -/
def VXa (X : Cx) (K : PySem.W.Frag) (O : List Nat) (a : Addr) (dx : Option Addr) (i : Nat) (fs : List (Str × D)) (e : Expr) (d : D) : Prop := PE X e (fun σ H Q => ∃ T ρ S g al, SX K O a dx i fs T ρ S g al σ H ∧ ∀ v, Rep K (reg g H 1) al v d → Q v H)
def VXs (X : Cx) (K : PySem.W.Frag) (O : List Nat) (a : Addr) (dx : Option Addr) (i : Nat) (fs : List (Str × D)) (es : List Expr) (ds : List D) : Prop := PA X es (fun σ H Q => ∃ T ρ S g al, SX K O a dx i fs T ρ S g al σ H ∧ ∀ vs, Reps K (reg g H 1) al vs ds → Q vs H)
/-- the suite returns d -/
def VXr (X : Cx) (K : PySem.W.Frag) (O : List Nat) (a : Addr) (dx : Option Addr) (i : Nat) (fs : List (Str × D)) (st : List Stmt) (d : D) : Prop := PSs X st (fun Dn σ H => ∃ T ρ S g al, SX K O a dx i fs T ρ S g al σ H ∧
  ∀ v g' al' H', SR K [] T [] S g' al' [] H' → Lw g al H g' al' H' → Rep K (reg g' H' 1) al' v d → Dn.rt v H')
section
variable {X : Cx} {K : PySem.W.Frag} {O : List Nat} {a : Addr} {oe : Obj} {dx : Option Addr} {i : Nat} {fs : List (Str × D)} {pn : List (Addr × Obj)} {C f : Str} {d : D} {e : Expr} {es : List Expr} {ds : List D} {n : Str} {p1 pos : Pos} {newId : String} {bm : List Value}
theorem vxa_fld (T : ExCl X.K (He.ga X.K C) newId bm) (hno : PySem.W.findIn X.K (.ref (He.ga X.K C)) f = some none) (hz : Zc (.ref (He.ga X.K C)) dx oe) (hf : ∃ vs, oe.data = .fields vs) (hl : fs.lookup f = some d) (hn : PE (X.suite a ((a, oe) :: pn)) (.Name n p1) (tVar i))
    (hb : attributeBase (.Name n p1) f X.env (eval (.Name n p1) X.env) = eval (.Name n p1) X.env := by rfl) : VXa (X.suite a ((a, oe) :: pn)) X.K O a dx i fs (.Attribute (.Name n p1) f pos) d :=
  PE.weak (pe_xf ⟨T.hg, T.hk, T.hs, T.hd⟩ hno hz hf hn hb) fun σ H Q ⟨T', ρ, S, g, al, sx, w⟩ => by
    refine ⟨_, sx.nm, rfl, rfl, ?_⟩
    have ex := sx.ex
    cases dx with
    | none =>
      have ex : fs = [] := ex
      subst ex
      cases hl
    | some dd =>
      obtain ⟨vs, h1, h2⟩ := ex
      have z := h2.lookup (x := f)
      rw [hl] at z
      obtain ⟨v, hv, rv⟩ := z
      exact ⟨dd, vs, v, rfl, reg_le _ _ h1, hv, w v rv⟩
theorem vxa_isi {c : Str} {cs : String} {x : Str} {p p2 : Pos} {b : Bool} (T : ExCl X.K (He.ga X.K C) newId bm) (hk : PySem.W.kitOne X.K (.ref (He.ga X.K C)) (.type cs) = some b) (hz : Zc (.ref (He.ga X.K C)) dx oe) (hf : ∃ vs, oe.data = .fields vs) (hn : PE (X.suite a ((a, oe) :: pn)) (.Name n p1) (tVar i))
    (hx : x = "isinstance") (hg : Gl X x) (hm : X.mg x = none) (hv : bootBuiltins x = some (.builtin "isinstance")) (hgc : Gl X c) (hmc : X.mg c = none) (hvc : bootBuiltins c = some (.type cs))
    (hnc : c ≠ "__name__" := by decide) (hdc : (c == ("__debug__" : Str)) = false := by decide) (hnn : x ≠ "__name__" := by decide) (hdb : (x == ("__debug__" : Str)) = false := by decide)
    (he : starEach [.Name n p1, .Name c p2] X.env = (false, eval (.Name n p1) X.env) :: starEach [.Name c p2] X.env := by rfl) (he2 : starEach [.Name c p2] X.env = (false, eval (.Name c p2) X.env) :: starEach [] X.env := by rfl) (hpl : (backTo pos (starEach [.Name c p2] X.env)).any (·.1) = false := by rfl) :
    VXa (X.suite a ((a, oe) :: pn)) X.K O a dx i fs (.Call (.Name x p) [.Name n p1, .Name c p2] [] pos) (.bl b) :=
  PE.weak (pe_callB (X := X.suite a ((a, oe) :: pn)) (call_isX T hz hf) hg hm hv (pa_cons hn (pa_cons (pe_bltn (X := X.suite a ((a, oe) :: pn)) (v := .ty cs) hgc hmc hvc rfl hnc hdc) pa_nil he2) he) hnn hdb he hpl) fun σ H Q ⟨T', ρ, S, g, al, sx, w⟩ => by
    refine ⟨_, sx.nm, .ty cs, .type cs, b, rfl, .ty cs, hk, fun dd hd => ?_, w _ (.bl _)⟩
    have ex := sx.ex
    subst hd
    obtain ⟨vs, h1, h2⟩ := ex
    exact ⟨vs, reg_le _ _ h1⟩
theorem vxa_c {v : V} (h : PE X e (tC v)) (r : ∀ I al, Rep K I al v d) : VXa X K O a dx i fs e d := PE.weak h fun σ H Q ⟨T', ρ, S, g, al, sx, w⟩ => w v (r _ _)
theorem vxs_nil : VXs X K O a dx i fs [] [] := PA.weak pa_nil fun σ H Q ⟨T', ρ, S, g, al, sx, w⟩ => w [] .nil
theorem vxs_cons (h : VXa X K O a dx i fs e d) (hl : VXs X K O a dx i fs es ds) (hs : starEach (e :: es) X.env = (false, eval e X.env) :: starEach es X.env := by rfl) : VXs X K O a dx i fs (e :: es) (d :: ds) :=
  PA.weak (pa_cons h hl hs) fun σ H Q ⟨T', ρ, S, g, al, sx, w⟩ => ⟨T', ρ, S, g, al, sx, fun v r => ⟨T', ρ, S, g, al, sx, fun vs rs => w _ (.cons r rs)⟩⟩
theorem vxr_a (h : VXa X K O a dx i fs e d) : VXr X K O a dx i fs [.Return (some e) pos] d := PSs.weak (pss_one (ps_ret h)) fun Dn σ H ⟨T', ρ, S, g, al, sx, w⟩ => ⟨T', ρ, S, g, al, sx, fun v r => w v g al H sx.sr.base .refl r⟩
theorem vxr_l {p : Pos} (h : VXs X K O a dx i fs es ds) (hz : ds.length ≤ LIM := by decide) : VXr X K O a dx i fs [.Return (some (.List es p)) pos] (.lst ds) := PSs.weak (pss_one (ps_ret (pe_lst h))) fun Dn σ H ⟨T', ρ, S, g, al, sx, w⟩ => ⟨T', ρ, S, g, al, sx, fun vs r => ⟨by rw [r.len]; exact lim hz, fun q nq =>
  w _ _ al _ (sx.sr.alloc nq).base (Le.alloc nq).w (.lst (.inl (alloc_at nq)) (r.mono (Le.alloc (al := al) nq).s List.prefix_rfl))⟩⟩
end
def sTry (bk : D → Env → Fl × Env) (fe : Env → Mo D) (C : Str) (hv : List (Str × D) → Option D) : MoS := fun ρ S => match fe ρ S with
  | some (.ok d, S') => some (.ok (bk d ρ), S')
  | some (.ex B fs, S') => if B = C then (match hv fs with
    | some d => some (.ok (.rt d, ρ), S')
    | none => none) else none
  | none => none
theorem sTry_wp {bk : D → Env → Fl × Env} {fe : Env → Mo D} {C : Str} {hv : List (Str × D) → Option D} {ρ : Env} {S : Objs.T} {Q : Fl × Env → Objs.T → Prop} {E : Str → List (Str × D) → Objs.T → Prop} (w : wp (sTry bk fe C hv ρ) Q E S) :
    wp (fe ρ) (fun d S' => Q (bk d ρ) S') (fun B fs S' => B = C ∧ ∃ d, hv fs = some d ∧ Q (.rt d, ρ) S') S := by
  have key : ∀ r, sTry bk fe C hv ρ S = r → (match r with | some (.ok a, S') => Q a S' | some (.ex C' fs', S') => E C' fs' S' | none => False) → wp (fe ρ) (fun d S' => Q (bk d ρ) S') (fun B fs S' => B = C ∧ ∃ d, hv fs = some d ∧ Q (.rt d, ρ) S') S := by
    intro r hr hw
    unfold sTry at hr
    unfold wp
    split at hr
    · next d S' q => rw [q]; subst hr; exact hw
    · next B fs S' q =>
      rw [q]
      split at hr
      · next e =>
        split at hr
        · next d hd => subst hr; exact ⟨e, d, hd, hw⟩
        · subst hr; exact hw.elim
      · subst hr; exact hw.elim
    · next q => subst hr; exact hw.elim
  refine key _ rfl ?_
  unfold wp at w
  cases q : sTry bk fe C hv ρ S with
  | none => rw [q] at w; exact w
  | some r =>
    rw [q] at w
    obtain ⟨o, S'⟩ := r
    cases o <;> exact w
section
variable {X : Cx} {O OL : List Nat} {E : XS} {e : Expr} {fe : Env → Mo D} {C : Str} {hv : List (Str × D) → Option D} {i : Nat} {n x : Str} {np bp pos pos' : Pos} {b₀ : Stmt} {suite : List Stmt}
/-- the context of the body takes what W takes -/
abbrev Ew (W : WX) : XS := fun σ c d H => W c d σ H
theorem try_lift {bk : D → Env → Fl × Env} {body : List Stmt} (hbk : ∀ (W : WX) (pn : List (Addr × Obj)) (xe : Value → Shared → Prop), Takes (X.tr pn xe) W → PassesOwn (model X.prog X.w) X.A X.env xe →
      PSs (X.tr pn xe) body (fun Dn σ H => ∃ T ρ S g al, SR X.K O T ρ S g al σ H ∧ wp (fe ρ) (fun d S' => Aft X.K O OL T Dn g al H (bk d ρ) S') (fun B fs S' => ∀ g' al' H' dx, SR X.K O T ρ S' g' al' σ H' → Le g al H g' al' H' → ExF X.K (reg g' H' 1) al' fs dx → W (.ref (He.ga X.K B)) dx σ H') S))
    (hs : X.stack = X.env :: X.outer) (hf : X.env.frame = some X.env.locals) (hN : X.N.Nodup) (hi : X.N[i]? = some n) (hln : X.env.kindOf n = some .local) (hc : Names X x (.ref (He.ga X.K C)))
    (hex : PySem.W.exmOne X.K (.ref (He.ga X.K C)) (.ref (He.ga X.K C)) = some true)
    (hsu : ∀ (a : Addr) (oe : Obj) (dx : Option Addr) (pn : List (Addr × Obj)) (fs : List (Str × D)) (d : D), hv fs = some d → Zc (.ref (He.ga X.K C)) dx oe → (∃ vs, oe.data = .fields vs) → VXr (X.suite a ((a, oe) :: pn)) X.K O a dx i fs (b₀ :: suite) d) :
    VS X O O OL E (.Try body [.ExceptHandler (some (.Name x np)) (some n) (b₀ :: suite) pos'] [] [] pos) (sTry bk fe C hv) := by
  refine ⟨fun pins s σ H Dn I h => (ps_try_as (Wout := fun _ _ _ _ => False) (ts := fun a cls dx Dn σ H => cls = .ref (He.ga X.K C) ∧ ∃ fs d, hv fs = some d ∧ ∃ T ρ S g al, SX X.K O a dx i fs T ρ S g al σ H ∧ ∀ v g' al' H', SR X.K [] T [] S g' al' [] H' → Lw g al H g' al' H' → Rep X.K (reg g' H' 1) al' v d → Dn.rt v H')
    hs hf hN hi hln hc takes0 hbk fun a oe cls dx pn hz hfl => ⟨fun pins s σ H Dn I h => ?_⟩).run pins s σ H Dn I ?_⟩
  · obtain ⟨rfl, fs, d, hd, h⟩ := h
    exact (hsu a oe dx pn fs d hd hz hfl).run pins s σ H Dn I h
  · obtain ⟨T, ρ, S, g, al, sr, w⟩ := h
    have hil : i < σ.length := by
      rw [I.len]
      exact (List.getElem?_eq_some_iff.mp hi).1
    refine ⟨T, ρ, S, g, al, sr, wp_mono (sTry_wp w) (fun d S' q => q) fun B fs S' q g' al' H' dx s' l x' => ?_⟩
    obtain ⟨rfl, d, hd, q⟩ := q
    refine ⟨true, hex, fun _ a na => ⟨rfl, fs, d, hd, T, ρ.set i none, S', g', al', ⟨s'.names (by rw [List.length_set, List.length_set, s'.len]) fun j z e => ?_, x', by rw [List.getElem?_set_self hil]⟩, fun v g2 al2 H2 s2 l2 r2 => ?_⟩, fun z => by cases z⟩
    · rw [List.getElem?_set] at e
      split at e
      · split at e
        · cases e
        · cases e
      · next hne => exact ⟨e, List.getElem?_set_ne hne⟩
    · exact q v g2 al2 H2 s2 (l.w.trans l2) r2
theorem vs_tryE (he : ∀ (W : WX) (pn : List (Addr × Obj)) (xe : Value → Shared → Prop), Takes (X.tr pn xe) W → VE (X.tr pn xe) O (Ew W) e fe)
    (hs : X.stack = X.env :: X.outer) (hf : X.env.frame = some X.env.locals) (hN : X.N.Nodup) (hi : X.N[i]? = some n) (hln : X.env.kindOf n = some .local) (hc : Names X x (.ref (He.ga X.K C)))
    (hex : PySem.W.exmOne X.K (.ref (He.ga X.K C)) (.ref (He.ga X.K C)) = some true)
    (hsu : ∀ (a : Addr) (oe : Obj) (dx : Option Addr) (pn : List (Addr × Obj)) (fs : List (Str × D)) (d : D), hv fs = some d → Zc (.ref (He.ga X.K C)) dx oe → (∃ vs, oe.data = .fields vs) → VXr (X.suite a ((a, oe) :: pn)) X.K O a dx i fs (b₀ :: suite) d) (hsw : swapsWith e none bp.line X.env = pure false := by rfl) :
    VS X O O OL E (.Try [.Expr e bp] [.ExceptHandler (some (.Name x np)) (some n) (b₀ :: suite) pos'] [] [] pos) (sTry (fun _ ρ => (.nx, ρ)) fe C hv) :=
  try_lift (fun W pn xe tk po => PSs.weak (pss_one (ps_expr (X := X.tr pn xe) (he W pn xe tk) hsw)) fun Dn σ H ⟨T, ρ, S, g, al, s, w⟩ => ⟨T, ρ, S, g, al, s, wp_mono w (fun d S' k v g' al' H' s' l r => k σ g' al' H' s' l.w) fun B fs S' k => k⟩) hs hf hN hi hln hc hex hsu
theorem vs_tryR (he : ∀ (W : WX) (pn : List (Addr × Obj)) (xe : Value → Shared → Prop), Takes (X.tr pn xe) W → VE (X.tr pn xe) O (Ew W) e fe)
    (hs : X.stack = X.env :: X.outer) (hf : X.env.frame = some X.env.locals) (hN : X.N.Nodup) (hi : X.N[i]? = some n) (hln : X.env.kindOf n = some .local) (hc : Names X x (.ref (He.ga X.K C)))
    (hex : PySem.W.exmOne X.K (.ref (He.ga X.K C)) (.ref (He.ga X.K C)) = some true)
    (hsu : ∀ (a : Addr) (oe : Obj) (dx : Option Addr) (pn : List (Addr × Obj)) (fs : List (Str × D)) (d : D), hv fs = some d → Zc (.ref (He.ga X.K C)) dx oe → (∃ vs, oe.data = .fields vs) → VXr (X.suite a ((a, oe) :: pn)) X.K O a dx i fs (b₀ :: suite) d) :
    VS X O O OL E (.Try [.Return (some e) bp] [.ExceptHandler (some (.Name x np)) (some n) (b₀ :: suite) pos'] [] [] pos) (sTry (fun d ρ => (.rt d, ρ)) fe C hv) :=
  try_lift (fun W pn xe tk po => PSs.weak (pss_one (ps_ret (X := X.tr pn xe) (he W pn xe tk))) fun Dn σ H ⟨T, ρ, S, g, al, s, w⟩ => ⟨T, ρ, S, g, al, s, wp_mono w (fun d S' k v g' al' H' s' l r => k v g' al' H' s'.base l.w r) fun B fs S' k => k⟩) hs hf hN hi hln hc hex hsu
end
end Vl
set_option Elab.async false
set_option linter.all false
set_option maxRecDepth 100000
set_option maxHeartbeats 4000000
namespace Vl
open PySem PySem.Spec PyProof.Rows L2 Oc
variable [Ob : Objs]
section
variable {X : Cx} {O O' OL : List Nat} {E : XS} {a b e : Expr} {es : List Expr} {fa fb fe : Env → Mo D} {fl : Env → Mo (List D)} {pos pos' : Pos}
/-! ### e[k] by an own __getitem__ -/
def kGetO (t : FT) : D → D → Mo D
  | .ins C fs, y => bnd (opt (findC C t)) fun F => F [.ins C fs, y]
  | _, _ => nop
theorem run_atE {pins : List (Addr × Obj)} {σ : L2.St} {H : Hp} {s : Shared} {A : Around} {k : Nat} {f : Addr} {F : List D → Mo D} {us : List Value} {vs : List V} {Q : VK} (Fn : VFn X.prog X.w X.K X.mg X.base k f F) (hr : Room k A) (hfr : A.frames = X.A.frames) (tk : Tk X E) (I : Inv X pins σ H s) (r : Vals vs us)
    (h : spF X.K F vs H Q (E σ)) : wpAny (model X.prog X.w) A (call (.ref f) us) (EP X pins σ Q) X.xe s := by
  obtain ⟨fd, ps, G, b⟩ := Fn
  have hl : us.length = ps.length := by rw [← r.length]; exact G.len _ _ _ _ h
  have e0 : Env0 X.prog X.w X.K X.mg X.base A X.stack s H := by
    have e := I.env0
    exact ⟨by rw [hfr]; exact e.frames, e.mod, e.bs, e.bsz, e.funs, e.frf, e.hok, e.bare⟩
  refine wpAny_call (codeAny_mono (G.run A X.stack s H ⟨us, []⟩ us vs Q _ hr e0 (by
    have := b s us I.kIn (by simpa using hl)
    simpa using this) r h) fun r s' hq => ?_)
  cases r with
  | error e => exact passAt tk σ pins H s e s' I hq
  | ok fl =>
    cases fl with
    | ret w => exact I.after hq
    | next => exact False.elim hq
    | brk => exact False.elim hq
    | cont => exact False.elim hq
theorem ve_getO {t : FT} {k : Nat} (ht : SpOks X k "__getitem__" t) (hr : Room (k + 1) X.A) (tk : Tk X E) (ha : VE X O E a fa) (hb : VE X O E b fb)
    (hsl : ∀ (x : Addr) (i : Value), subscripted b true (.ref x) i = runValue (.builtin "lifetime.subscript" ⟨[.ref x, i], []⟩) := by intro _ _; with_unfolding_all rfl) : VE X O E (.Subscript a b pos) (f2 fa fb (kGetO t)) := by
  refine ⟨fun pins s σ H Q I h => Subscript_ (binT ha hb (R := fun x y H2 => ∃ p C dx fs F, x = .ref p ∧ H2 p = some (.ins (He.ga X.K C) dx fs) ∧ findC C t = some F ∧ spF X.K F [.ref p, y] H2 Q (E σ)) I ?_ fun v u s2 x y H2 I2 rx ry q => ?_)⟩
  · obtain ⟨T, ρ, S, g, al, sr, w⟩ := h
    refine ⟨T, ρ, S, g, al, sr, w.bn fun v d S' g' al' H' s' l r w' => ⟨T, ρ, S', g', al', s', w'.bn fun v2 d2 S2 g2 al2 H2 s2 l2 r2 w2 => ?_⟩⟩
    unfold kGetO at w2
    split at w2
    · next C fs =>
      rw [bnd_opt] at w2
      split at w2
      · next F hF =>
        have r3 : Rep X.K (reg g2 H2 1) al2 v (.ins C fs) := Rep.mono l2.s l2.p _ _ r
        have sp := call_spF (xs := [.ins C fs, d2]) s2 (.cons r3 (.cons r2 .nil)) w2
        cases r3 with
        | ins h1 h2 => exact ⟨_, C, _, _, F, rfl, reg_le _ _ h1, hF, sp⟩
      · exact w2.elim
    · exact w2.elim
  · obtain ⟨p, C, dx, fs, F, rfl, hx, hF, sp⟩ := q
    obtain rfl : v = Value.ref p := rx
    obtain ⟨f, hm, Fn, hfn⟩ := (ht.at_ hF).ex
    obtain ⟨mA, J, _⟩ := ins_get I2.hok hx
    obtain ⟨od, J, _⟩ := J.look
    obtain ⟨m, fr⟩ := I2.fr
    exact PySem.W.sub_K fr I2.ok.mod.kin J hm.at_ hfn hm.fn (run_atE (us := [.ref p, u]) (vs := [.ref p, y]) Fn hr.in1 rfl tk I2 (.cons rfl (.cons ry .nil)) sp) (hsl p u)
/-! ### isinstance of a class of the text -/
def kIsO (t : List (Str × Bool)) (ts : List String) : D → Mo D
  | .ins C _ => bnd (opt (findC C t)) fun b => ret (.bl b)
  | d => bnd (opt (tyD d)) fun tn => grd (ts.contains tn) (ret (.bl false))
structure IsK (K : PySem.W.Frag) : Prop where
  hn : PySem.W.specialIn K (.builtin "object.__class__") "__get__" = some (some (.builtin "getset_descriptor.__get__"))
  htk : PySem.W.takesIn K (.builtin "object.__class__") = some true
structure IsC (K : PySem.W.Frag) (C C0 : Str) (b : Bool) : Prop where
  cl : Cls K (He.ga K C)
  ha : PySem.W.findIn K (.ref (He.ga K C)) "__class__" = some (some (.builtin "object.__class__"))
  ob : PySem.W.mroIn K (He.ga K C) (.type "object") = some true
  k : PySem.W.kitOne K (.ref (He.ga K C)) (.ref (He.ga K C0)) = some b
def IsCs (K : PySem.W.Frag) (C0 : Str) : List (Str × Bool) → Prop
  | [] => True
  | (C, b) :: r => IsC K C C0 b ∧ IsCs K C0 r
theorem IsCs.at_ {K : PySem.W.Frag} {C0 C : Str} {b : Bool} : ∀ {t : List (Str × Bool)}, IsCs K C0 t → findC C t = some b → IsC K C C0 b
  | [], _, e => by cases e
  | (B, b') :: r, h, e => by
    unfold findC at e
    split at e
    · next eq => cases e; subst eq; exact h.1
    · exact IsCs.at_ h.2 e
def IsTs (K : PySem.W.Frag) (C0 : Str) (ts : List String) : Prop := ∀ t ∈ ts, PySem.W.kitOne K (.type t) (.ref (He.ga K C0)) = some false
theorem ve_isO {c : Str} {x : Str} {p p2 : Pos} {t : List (Str × Bool)} {ts : List String} (hK : IsK X.K) (ht : IsCs X.K c t) (hts : IsTs X.K c ts) (hx : x = "isinstance") (hg : Gl X x) (hm : X.mg x = none) (hv : bootBuiltins x = some (.builtin "isinstance")) (hgc : Gl X c) (hmc : X.mg c = some (.ref (He.ga X.K c))) (ha : VQ X O E a fa)
    (hdc : (c == ("__debug__" : Str)) = false := by decide) (hn : x ≠ "__name__" := by decide) (hdb : (x == ("__debug__" : Str)) = false := by decide)
    (he : starEach [a, .Name c p2] X.env = (false, eval a X.env) :: starEach [.Name c p2] X.env := by rfl) (he2 : starEach [.Name c p2] X.env = (false, eval (.Name c p2) X.env) :: starEach [] X.env := by rfl) (hpl : (backTo pos (starEach [.Name c p2] X.env)).any (·.1) = false := by rfl) :
    VE X O E (.Call (.Name x p) [a, .Name c p2] [] pos) (f1 fa (kIsO t ts)) :=
  PE.weak (pe_callB call_isi hg hm hv (pa_cons ha (pa_cons (pe_glob (v := .ref (He.ga X.K c)) hgc hmc rfl hdc) pa_nil he2) he) hn hdb he hpl) fun σ H Q ⟨T, ρ, S, g, al, s, w⟩ => ⟨T, ρ, S, g, al, s, w.bn fun v d S' g' al' H' s' l r w' => by
    cases d with
    | ins C fs =>
      unfold kIsO at w'
      dsimp only at w'
      rw [bnd_opt] at w'
      split at w'
      · next b hb =>
        have ok := ht.at_ hb
        obtain ⟨y, dx, vs, rfl, hy, _⟩ := RepQ.ins r
        exact ⟨.ref y, .ref (He.ga X.K c), .ref (He.ga X.K C), .ref (He.ga X.K c), b, rfl, .own _, .base (.ins hy ok.cl ok.ha hK.hn hK.htk ok.ob), ok.k, w'.rt' s' (.bl _)⟩
      · exact w'.elim
    | _ =>
      unfold kIsO at w'
      dsimp only at w'
      rw [bnd_opt] at w'
      split at w'
      · next tn e =>
        obtain ⟨c1, w'⟩ := w'.gd
        exact ⟨v, .ref (He.ga X.K c), .type tn, .ref (He.ga X.K c), false, rfl, .own _, r.ty e, hts tn (by simpa using c1), w'.rt' s' (.bl _)⟩
      · exact w'.elim⟩
/-- C() -/
theorem ve_make0 {C : Str} {k : Nat} {F : List D → Mo D} {p : Pos} (V : VIn X.prog X.w X.K X.mg X.base k C F) (hr : Room (k + 1) X.A) (tk : Tk X E) (hg : Gl X C) (hm : X.mg C = some (.ref (He.ga X.K C)))
    (hdb : (C == ("__debug__" : Str)) = false := by decide) : VE X O E (.Call (.Name C p) [] [] pos) (fN fNil F) := by
  obtain ⟨f, M, Fn⟩ := V
  refine ⟨fun pins s σ H Q I ⟨T, ρ, S, g, al, sr, w⟩ => wpAny_Call_Name_kw (ld_glob I hg hm (PySem.W.callWith_K0 I.kIn M.kp (run_vin (us := []) (vs := []) M Fn hr tk I .nil fun x dx nx nd ne => make_spI sr .nil (show Post (RR X.K) X.K O E T ρ σ g al H (F []) S Q from w) nx nd ne)) hdb)⟩
end
end Vl
set_option Elab.async false
set_option linter.all false
set_option maxRecDepth 100000
set_option maxHeartbeats 4000000
namespace Vl
/-- a static method m of the class at C: its record, its def -/
structure StatM (K : PySem.W.Frag) (C : PySem.Addr) (m : PySem.Str) (f : PySem.Addr) : Prop where
  ex : ∃ p, PySem.W.findCls K (.ref C) (.type "type") m = some (.get (.builtin "staticmethod.__get__") (.ref p) .none (.ref C)) ∧ (∃ rest, PySem.W.recIn K p "staticmethod" = some (.ref f :: rest)) ∧ PySem.W.keepIn K (.ref f) = true
end Vl
namespace Oh
open PySem PySem.Spec PyProof.Rows L2
/-! ### the head's facts with properties' getters, own exceptions, isinstance and == of own classes -/
/-- the def that a record (a property's, a static method's) holds -/
def pgT (K : PySem.W.Frag) (ty : String) (x f : Str) : Addr := match PySem.W.recIn K (He.ma K (He.ga K x) f) ty with
  | some (.ref g :: _) => g
  | _ => 0
/-- the getter of class x's property f -/
abbrev pgA (K : PySem.W.Frag) (x f : Str) : Addr := pgT K "property" x f
/-- the def of class x's static method f -/
abbrev psA (K : PySem.W.Frag) (x f : Str) : Addr := pgT K "staticmethod" x f
def fdAt (K : PySem.W.Frag) (a : Addr) : Option FuncData := match K.lookup a with
  | some o => (match o.data with
    | .func fd => some fd
    | _ => none)
  | none => none
def wordOf (fd : FuncData) : He.FnW := some (fd.name, fd.qualname, fd.params, fd.body, fd.scope, fd.globals, fd.closure, fd.builtins)
/-- a property: its class, its name, its getter's def -/
structure PrD where
  cls : Str
  name : Str
  d : He.DefD
  ty : String := "property"
abbrev PrD.adr (K : PySem.W.Frag) (q : PrD) : Addr := pgT K q.ty q.cls q.name
def PrD.word (K : PySem.W.Frag) (q : PrD) : He.FnW := (fdAt K (q.adr K)).bind wordOf
def PrD.fine (K : PySem.W.Frag) (q : PrD) : Bool := match fdAt K (q.adr K) with
  | some fd => PySem.W.keepIn K (.ref (q.adr K)) && (PySem.W.codeIn K fd.code q.d.qual && (He.dflB K fd.defaults [] && He.kwdB K fd.kwdefaults (q.d.kws K)))
  | none => false
theorem PrD.funD {K : PySem.W.Frag} {q : PrD} (e : q.word K = q.d.val) (c : q.fine K = true) : ∃ fd, FunD K q.d.name q.d.qual q.d.params q.d.body q.d.scope [] (q.d.kws K) (q.adr K) fd := by
  unfold PrD.fine at c
  unfold PrD.word at e
  split at c
  · next fd h =>
    rw [h, Option.bind_some] at e
    obtain ⟨kp, c⟩ := Bool.and_eq_true_iff.mp c
    obtain ⟨k1, c⟩ := Bool.and_eq_true_iff.mp c
    obtain ⟨k2, k3⟩ := Bool.and_eq_true_iff.mp c
    unfold fdAt at h
    split at h
    · next o ho =>
      split at h
      · next fd' hd =>
        cases h
        obtain ⟨oc, od, dt, osl⟩ := o
        dsimp only at hd
        subst hd
        obtain ⟨n1, n2, n3, n4, n5, n6, n7, n8, n9, n10, n11, n12, n13, n14, n15⟩ := fd
        have e2 : (some (n1, n2, n3, n4, n5, n6, n7, n15) : He.FnW) = some (q.d.name, q.d.qual, q.d.params, .stmts q.d.body, q.d.scope, mainGlobals, [], builtinsNs) := e
        simp only [Option.some.injEq, Prod.mk.injEq] at e2
        obtain ⟨h1, h2, h3, h4, h5, h6, h7, h8⟩ := e2
        subst h1 h2 h3 h4 h5 h6 h7 h8
        exact ⟨_, ⟨oc, od, n8, n9, n10, n11, n12, n13, n14, osl, rfl, ho, k1, He.dflB_ok k2, He.kwdB_ok k3⟩, kp⟩
      · cases h
    · cases h
  · cases c
abbrev AlP : Type := He.AlD × List He.FnW × Bool
structure SaysP (fa : List He.Fa) (fn : List He.DefD) (pr : List PrD) (ex : PySem.W.Frag → Bool) (K : PySem.W.Frag) : Prop where
  d : He.SaysD fa fn K
  p : pr.map (PrD.word K) = pr.map (fun q : PrD => q.d.val)
  more : ((pr.all fun q => q.fine K) && ex K) = true
def obsP (n : Nat) (fa : List He.Fa) (fn : List He.DefD) (pr : List PrD) (ex : PySem.W.Frag → Bool) (g : Addr → Option Obj) : AlP := (He.obsD fa fn (frag n g), pr.map (PrD.word (frag n g)), (pr.all fun q => q.fine (frag n g)) && ex (frag n g))
def hookP (n : Nat) (fa : List He.Fa) (fn : List He.DefD) (pr : List PrD) (ex : PySem.W.Frag → Bool) : PySem.W.Hook where
  α := AlP
  obs := fun s => obsP n fa fn pr ex s.heap.get?
  val := fun _ => (He.valD fn, pr.map (fun q : PrD => q.d.val), true)
  says := fun _ h => ∃ K : PySem.W.Frag, K.In h ∧ SaysP fa fn pr ex K
  of := fun _ s e => ⟨frag n s.heap.get?, He.frG_in, congrArg (fun z : AlP => z.1) e, congrArg (fun z : AlP => z.2.1) e, congrArg (fun z : AlP => z.2.2) e⟩
  keeps := fun _ _ _ h k => h.elim fun K z => ⟨K, PySem.W.Frag.In.keeps z.1 k, z.2⟩
theorem obsP_eq {n : Nat} {fa : List He.Fa} {fn : List He.DefD} {pr : List PrD} {ex : PySem.W.Frag → Bool} {g : Addr → Option Obj} {s : Shared} (h : ∀ a, g a = s.heap.get? a) : obsP n fa fn pr ex g = (hookP n fa fn pr ex).obs s := by
  have z := funext h
  rw [z] <;> rfl
theorem SaysP.get {fa : List He.Fa} {fn : List He.DefD} {pr : List PrD} {ex : PySem.W.Frag → Bool} {K : PySem.W.Frag} (c : SaysP fa fn pr ex K) (i : Nat) {q : PrD} (h : pr[i]? = some q := by rfl) : ∃ fd, FunD K q.d.name q.d.qual q.d.params q.d.body q.d.scope [] (q.d.kws K) (q.adr K) fd := by
  have e2 : (pr.map (PrD.word K))[i]? = (pr.map fun q => q.d.val)[i]? := by rw [c.p]
  rw [List.getElem?_map, List.getElem?_map, h] at e2
  exact PrD.funD (Option.some.inj e2) (List.all_eq_true.mp (Bool.and_eq_true_iff.mp c.more).1 q (List.mem_of_getElem? h))
/-! ### further facts -/
inductive Bs where | v | l | o | r
  deriving DecidableEq
def Bs.bm : Bs → List Value
  | .v => [.type "ValueError", .type "Exception", .type "BaseException", .type "object"]
  | .l => [.type "LookupError", .type "Exception", .type "BaseException", .type "object"]
  | .o => [.type "OverflowError", .type "ArithmeticError", .type "Exception", .type "BaseException", .type "object"]
  | .r => [.type "RuntimeError", .type "Exception", .type "BaseException", .type "object"]
def Bs.nid : Bs → String | .v => "ValueError.__new__" | .l => "LookupError.__new__" | .o => "OverflowError.__new__" | .r => "RuntimeError.__new__"
theorem Bs.fac (b : Bs) : ∃ B i, ExcBaseFacts B b.nid i b.bm ∧ StoreFacts B b.bm "object.__setattr__" "object" := by
  cases b
  · exact ⟨_, _, PySem.F.excBase_ValueError, PySem.F.store_ValueError⟩
  · exact ⟨_, _, PySem.F.excBase_LookupError, PySem.F.store_LookupError⟩
  · exact ⟨_, _, PySem.F.excBase_OverflowError, PySem.F.store_OverflowError⟩
  · exact ⟨_, _, PySem.F.excBase_RuntimeError, PySem.F.store_RuntimeError⟩
theorem Bs.base (b : Bs) : ExBase b.nid b.bm := ⟨b.fac⟩
/-- the types of plain values -/
def tys : List String := ["NoneType", "bool", "int", "str", "list", "tuple", "dict"]
inductive Fx where
  | exc (x : Str) (b : Bs)
  | ini (x f : Str)
  | ini0 (x : Str) (b : Bs)
  | kit (x : Str) (t : String) (b : Bool)
  | kio (x y : Str) (b : Bool)
  | kti (x : Str)
  | sub (x : Str)
  | cl (x : Str)
  | ne (x : Str)
  | prop (x f : Str)
  | glo
  | crd (x : Str)
  | stat (x m : Str)
def Fx.ok (K : PySem.W.Frag) : Fx → Bool
  | .exc x b => exAll K (He.ga K x) b.nid b.bm && (decide (PySem.W.typeIn K (.ref (He.ga K x)) = some (.type "type")) && decide (PySem.W.exmOne K (.ref (He.ga K x)) (.ref (He.ga K x)) = some true))
  | .ini x f => iniB K x && noB K (He.ga K x) f
  | .ini0 x b => PySem.W.excIn K (He.ga K x) b.bm b.nid
  | .kit x t b => decide (PySem.W.kitOne K (.ref (He.ga K x)) (.type t) = some b)
  | .kio x y b => decide (PySem.W.kitOne K (.ref (He.ga K x)) (.ref (He.ga K y)) = some b)
  | .kti x => tys.all fun t => decide (PySem.W.kitOne K (.type t) (.ref (He.ga K x)) = some false)
  | .sub x => tys.all fun t => decide (PySem.W.subIn K (.type t) (.ref (He.ga K x)) = some false)
  | .cl x => He.eqO (PySem.W.findIn K (.ref (He.ga K x)) "__class__") (some (some (.builtin "object.__class__"))) && decide (PySem.W.mroIn K (He.ga K x) (.type "object") = some true)
  | .ne x => He.eqO (PySem.W.findIn K (.ref (He.ga K x)) "__ne__") (some (some (.builtin "object.__ne__")))
  | .prop x f => He.eqO (PySem.W.findIn K (.ref (He.ga K x)) f) (some (some (.ref (He.ma K (He.ga K x) f)))) && (He.eqO (PySem.W.specialIn K (.ref (He.ma K (He.ga K x) f)) "__get__") (some (some (.builtin "property.__get__")))
      && (decide (PySem.W.takesIn K (.ref (He.ma K (He.ga K x) f)) = some true) && (match PySem.W.recIn K (He.ma K (He.ga K x) f) "property" with
        | some (.ref _ :: _) => true
        | _ => false)))
  | .glo => He.eqO (PySem.W.specialIn K (.builtin "object.__class__") "__get__") (some (some (.builtin "getset_descriptor.__get__"))) && decide (PySem.W.takesIn K (.builtin "object.__class__") = some true)
  | .crd x => PySem.W.readsIn K (He.ga K x) (.type "type") && He.eqO (PySem.W.specialIn K (.ref (He.ga K x)) "__getattribute__") (some (some (.builtin "type.__getattribute__")))
  | .stat x m => He5.wrapB K (He.ga K x) "staticmethod" "staticmethod.__get__" m && PySem.W.keepIn K (.ref (psA K x m))
theorem crd_ok {K : PySem.W.Frag} {x : Str} (h : (Fx.crd x).ok K = true) : ClX.CRead K (He.ga K x) (.type "type") := by
  obtain ⟨h1, h2⟩ := Bool.and_eq_true_iff.mp h
  exact ⟨h1, He.eqO_ok h2⟩
theorem stat_ok {K : PySem.W.Frag} {x m : Str} (h : (Fx.stat x m).ok K = true) : Vl.StatM K (He.ga K x) m (psA K x m) := by
  obtain ⟨h1, h2⟩ := Bool.and_eq_true_iff.mp h
  obtain ⟨e1, rest, e2⟩ := He5.wrapB_ok h1
  refine ⟨_, e1, ⟨rest, ?_⟩, h2⟩
  rw [e2]
  rfl
theorem prop_ok {K : PySem.W.Frag} {x f : Str} (h : (Fx.prop x f).ok K = true) : PropOf K (He.ga K x) f (He.ma K (He.ga K x) f) (pgA K x f) := by
  obtain ⟨h1, h⟩ := Bool.and_eq_true_iff.mp h
  obtain ⟨h2, h⟩ := Bool.and_eq_true_iff.mp h
  obtain ⟨h3, h⟩ := Bool.and_eq_true_iff.mp h
  refine ⟨He.eqO_ok h1, He.eqO_ok h2, of_decide_eq_true h3, ?_⟩
  unfold pgA pgT
  split at h
  · next g r e => exact ⟨r, by rw [e]⟩
  · cases h
theorem ini_ok {K : PySem.W.Frag} {x : Str} (h : iniB K x = true) : PySem.W.findIn K (.ref (He.ga K x)) "__init__" = some (some (.ref (He.ma K (He.ga K x) "__init__"))) ∧ PySem.W.typeIn K (.ref (He.ma K (He.ga K x) "__init__")) = some (.type "function") := by
  unfold iniB at h
  obtain ⟨h1, h2⟩ := Bool.and_eq_true_iff.mp h
  exact ⟨He.eqO_ok h1, of_decide_eq_true h2⟩
theorem cl_ok {K : PySem.W.Frag} {x : Str} (h : (Fx.cl x).ok K = true) : PySem.W.findIn K (.ref (He.ga K x)) "__class__" = some (some (.builtin "object.__class__")) ∧ PySem.W.mroIn K (He.ga K x) (.type "object") = some true := by
  obtain ⟨h1, h2⟩ := Bool.and_eq_true_iff.mp h
  exact ⟨He.eqO_ok h1, of_decide_eq_true h2⟩
theorem glo_ok {K : PySem.W.Frag} (h : Fx.glo.ok K = true) : Vl.IsK K := by
  unfold Fx.ok at h
  obtain ⟨h1, h2⟩ := Bool.and_eq_true_iff.mp h
  exact ⟨He.eqO_ok h1, of_decide_eq_true h2⟩
theorem kti_ok {K : PySem.W.Frag} {x : Str} (h : (Fx.kti x).ok K = true) : Vl.IsTs K x tys := fun t ht => of_decide_eq_true (List.all_eq_true.mp h t ht)
theorem sub_ok {K : PySem.W.Frag} {x : Str} (h : (Fx.sub x).ok K = true) : ∀ t ∈ tys, PySem.W.subIn K (.type t) (.ref (He.ga K x)) = some false := fun t ht => of_decide_eq_true (List.all_eq_true.mp h t ht)
structure ExcX (K : PySem.W.Frag) (x : Str) (b : Bs) : Prop where
  cl : ExCl K (He.ga K x) b.nid b.bm
  ty : PySem.W.typeIn K (.ref (He.ga K x)) = some (.type "type")
  ex : PySem.W.exmOne K (.ref (He.ga K x)) (.ref (He.ga K x)) = some true
theorem exc_ok {K : PySem.W.Frag} {x : Str} {b : Bs} (h : (Fx.exc x b).ok K = true) : ExcX K x b := by
  obtain ⟨h1, h⟩ := Bool.and_eq_true_iff.mp h
  obtain ⟨h2, h3⟩ := Bool.and_eq_true_iff.mp h
  exact ⟨exAll_ok b.base h1, of_decide_eq_true h2, of_decide_eq_true h3⟩
end Oh
set_option Elab.async false
set_option linter.all false
set_option maxRecDepth 100000
set_option maxHeartbeats 4000000
namespace GX
open PySem PySem.SeqAt PySem.W
open AutoSeq1 (wpAny_loadPart')
open MeetsSeq MeetsSeq2 MeetsSeq3 SeqRoads2
/-! a text and a dict are not equal -/
theorem str_declines_dict (b : Str) (u : Tok) (l : Addr) (c : Value) (dd : Option Addr) (sl : Array (Option Value)) (es : Array DictEntry) (ep : Nat) :
    Meets (Builtin.«str.__eq__» ⟨[.str b u, .ref l], []⟩) (fun _ R s => s.heap.get? l = some { cls := c, dict := dd, data := .dict es ep, slots := sl } ∧ R (.ok (.ret .notImplemented)) s) :=
  .of_wp fun prog w A R s h => by
    obtain ⟨hp, g, d, tk, os⟩ := s
    obtain ⟨hl, h⟩ := h
    wp_walk using wpAny_loadPart' hl, wpAny_load hl
    first | exact ⟨_, rfl, h⟩ | exact h
section
variable {prog : Program} {w : World} {A : Around} {E : Value → Shared → Prop} {s : Shared}
theorem dict_declines_str {l : Addr} {b : Str} {u : Tok} {Q : Value → Shared → Prop} (hl : s.TypeIs (.ref l) "dict") (h : Q .notImplemented s) : wpAny (model prog w) A (call (.builtin "dict.__eq__") [.ref l, .str b u]) Q E s := by
  refine wpAny_call_entry PySem.F.slot_dict_eq hl PySem.F.entry_dict_eq ?_ (PySem.F.args_dict_eq_2 _ _)
  show wpAny _ _ (Builtin.Dict.dictSlotArgs "__eq__" ⟨[.ref l, .str b u], []⟩ >>= _) _ _ s
  refine wpAny_bind ?_
  unfold Builtin.Dict.dictSlotArgs
  refine wpAny_bind (wpAny_notOrdered_dict hl ?_)
  show wpAny _ _ (pure (Value.ref l, Value.str b u)) _ _ s
  refine wpAny_pure ?_
  refine wpAny_bind (wpAny_isInstance (T := "str") (typeIs_str s b u) PySem.F.sub_str_dict ?_)
  simp only [Bool.not_false, if_true]
  first
    | exact wpAny_bind (wpAny_rule (wpAny_pure ⟨_, rfl, h⟩))
    | exact wpAny_bind (wpAny_rule (wpAny_pure h))
theorem rc_str_dict {l : Addr} {b : Str} {u : Tok} {c : Value} {dd : Option Addr} {sl : Array (Option Value)} {es : Array DictEntry} {ep : Nat} {Q : Value → Shared → Prop} (hl : s.heap.get? l = some { cls := .type "dict", dict := dd, data := .dict es ep, slots := sl }) (hu : A.units < cLine) (h : Q (.bool false) s) :
    wpAny (model prog w) A (richCompare .Eq (.str b u) (.ref l)) Q E s :=
  rc_eq_decline_or (k := false) (typeIs_str s b u) (Tb := "dict") ⟨_, hl, rfl⟩ (by decide) PySem.F.sub_dict_str F.slot_str_eq PySem.F.slot_dict_eq_refl
    (fun _ hq => call_meets F.slot_str_eq (typeIs_str s b u) F.entry_str_eq (F.args_str_eq_2 _ _) (str_declines_dict b u l (.type "dict") dd sl es ep) ⟨hl, hq⟩)
    (fun _ hq => dict_declines_str ⟨_, hl, rfl⟩ hq)
    (fun _ hq => wpAny_of_eq (rfl : isSame (.str b u) (.ref l) = pure false) hq) (.inr hu) h
end
theorem eqAt_str_dict {A : Around} {s : Shared} {l : Addr} {b : Str} {u : Tok} {c : Value} {dd : Option Addr} {sl : Array (Option Value)} {es : Array DictEntry} {ep : Nat} (hl : s.heap.get? l = some { cls := .type "dict", dict := dd, data := .dict es ep, slots := sl }) (hu : A.units < cLine) : EqAt A s (.str b u) (.ref l) false := fun prog w E Q h => by
  unfold eqBool
  refine wpAny_holding ?_
  refine wpAny_ite_split (fun hab => absurd (eq_of_beq hab) nofun) (fun _ => ?_)
  exact wpAny_bind (rc_str_dict (c := c) hl hu (wpAny_truthy_bool h))
end GX
namespace Vl
open PySem PySem.Spec PyProof.Rows L2 Oc
variable [Ob : Objs]
/-! ### a text == any plain value; any plain value in a tuple of texts -/
def eqS (z : Str) : D → Option Bool
  | .dic _ => some false
  | d => eqL (.str z) d
def kEqS : D → D → Mo D
  | .str z, d => bnd (opt (eqS z d)) fun b => ret (.bl b)
  | _, _ => nop
def inS : List D → D → Option Bool
  | [], _ => some false
  | .str z :: r, x => match eqS z x, inS r x with
    | some b, some b' => some (b || b')
    | _, _ => none
  | _, _ => none
def kInS : D → D → Mo D
  | x, .tup ds => bnd (opt (inS ds x)) fun b => ret (.bl b)
  | _, _ => nop
section
variable {X : Cx} {pins : List (Addr × Obj)} {σ : L2.St} {g : Addr → Nat} {H : Hp} {s : Shared} {al : List Addr}
theorem eqS_at (I : Inv X pins σ H s) {v : V} {z : Str} {d : D} {b : Bool} (r : RepQ X.K g H al v d) {u : Value} {t : Tok} (rv : RelV v u) (h : eqS z d = some b) (A : Around) (hu : A.units + 64 < cLine) : SeqAt.EqAt A s (.str z t) u b := by
  unfold eqS at h
  split at h
  · next kvs =>
    cases h
    obtain ⟨a, vs, rfl, h1, _⟩ := r.dic
    cases rv
    obtain ⟨va, _, _, da⟩ := rd_dict I h1
    obtain ⟨o, es, ep, ho, hc, hd, _⟩ := da
    obtain ⟨oc, od, dt, sl⟩ := o
    have hc := hc.1
    dsimp only at hc hd
    subst hc hd
    exact GX.eqAt_str_dict (c := .none) ho (by omega)
  · exact eqL_at I (.val (.str z)) r ⟨t, rfl⟩ rv h A hu
def rEqS (K : PySem.W.Frag) : R2 := fun x y H Q => ∃ g al z d b, x = .str z ∧ RepQ K g H al y d ∧ eqS z d = some b ∧ Q (.bl b) H
theorem op_eqS (hu : X.A.units + 68 < cLine) : OpR X (compareOp .Eq) (rEqS X.K) := by
  intro pins s σ H x y v u Q I rx ry h
  obtain ⟨g, al, z, d, b, rfl, r, q, hq⟩ := h
  obtain ⟨t, rfl⟩ := rx
  unfold eqS at q
  split at q
  · next kvs =>
    cases q
    obtain ⟨a, vs, rfl, h1, _⟩ := r.dic
    cases ry
    obtain ⟨va, _, _, da⟩ := rd_dict I h1
    obtain ⟨o, es, ep, ho, hc, hd, _⟩ := da
    obtain ⟨oc, od, dt, sl⟩ := o
    have hc := hc.1
    dsimp only at hc hd
    subst hc hd
    exact GX.rc_str_dict (c := .none) ho (by omega) ⟨.bl _, H, I, rfl, hq⟩
  · exact op_leaf (x := .str z) hu I ⟨t, rfl⟩ ry (.val (.str z)) r q hq
theorem by_eqS {O : List Nat} {E : XS} : By2 X O E (rEqS X.K) kEqS := fun u v x y T ρ S g al σ H Q s r1 r2 w => by
  unfold kEqS at w
  split at w
  · rw [bnd_opt] at w
    split at w
    · next b q => exact ⟨g, al, _, _, b, r1.str, r2, q, w.rt' s (.bl _)⟩
    · exact w.elim
  · exact w.elim
def rInS2 (K : PySem.W.Frag) : R2 := fun x y H Q => ∃ g al a vs ds d b, y = .ref a ∧ SqT K H a vs ∧ Reps K (reg g H 1) al vs ds ∧ RepQ K g H al x d ∧ inS ds d = some b ∧ Q (.bl b) H
def eV (d : D) : Value → Bool
  | .str z _ => (eqS z d).getD false
  | _ => false
theorem inS_any {d : D} : ∀ {ds : List D} {vs : List V} {its : List Value} {b : Bool}, Reps X.K (reg g H 1) al vs ds → Vals vs its → inS ds d = some b → its.any (eV d) = b ∧ ∀ u ∈ its, ∃ z t b, u = .str z t ∧ eqS z d = some b
  | [], _, _, b, r, rv, h => by
    cases r
    cases rv
    cases h
    exact ⟨rfl, fun u hu => by cases hu⟩
  | e :: ds, _, _, b, r, rv, h => by
    cases e <;> first | cases h | skip
    rename_i z
    cases r with
    | cons r1 r2 =>
      cases r1
      cases rv with
      | cons q1 q2 =>
        obtain ⟨t, rfl⟩ := q1
        unfold inS at h
        split at h
        · next b1 b2 p1 p2 =>
          cases h
          obtain ⟨i1, i2⟩ := inS_any r2 q2 p2
          refine ⟨by rw [List.any_cons, i1]; show ((eqS z d).getD false || b2) = _; rw [p1]; rfl, fun u hu => ?_⟩
          rcases List.mem_cons.mp hu with rfl | hu
          · exact ⟨z, t, b1, rfl, p1⟩
          · exact i2 u hu
        · cases h
theorem op_inS2 (hu : X.A.units + 68 < cLine) : OpR X (compareOp .In) (rInS2 X.K) := by
  intro pins s σ H x y v u Q I rx ry h
  obtain ⟨g, al, a, vs, ds, d, b, rfl, ht, r, rd, q, hq⟩ := h
  obtain rfl : u = Value.ref a := ry
  obtain ⟨its, z1, e1, _⟩ := tup_at I ht r
  obtain ⟨i1, i2⟩ := inS_any r z1 q
  refine SeqAt.in_tupleAt (eV d) e1 (fun y hy => ?_) ⟨.bl b, H, I, ?_, hq⟩
  · obtain ⟨z, t, b1, rfl, hb⟩ := i2 y (by simpa using hy)
    have z2 := eqS_at I (t := t) rd rx hb X.A.in1 (by show X.A.units + 1 + 64 < cLine; omega)
    show SeqAt.EqAt _ _ _ _ ((eqS z d).getD false)
    rw [hb]
    exact z2
  · show Value.bool _ = Value.bool _
    rw [← i1]
    simp
theorem by_inS2 {O : List Nat} {E : XS} : By2 X O E (rInS2 X.K) kInS := fun u v x y T ρ S g al σ H Q s r1 r2 w => by
  unfold kInS at w
  split at w
  · next d ds =>
    rw [bnd_opt] at w
    split at w
    · next b q =>
      obtain ⟨a, vs, rfl, _, t2, k2⟩ := r2.tup
      exact ⟨g, al, a, vs, ds, _, b, rfl, t2, k2, r1, q, w.rt' s (.bl _)⟩
    · exact w.elim
  · exact w.elim
end
end Vl
set_option Elab.async false
set_option linter.all false
set_option maxRecDepth 100000
set_option maxHeartbeats 4000000
namespace Vl
open PySem PySem.Spec PyProof.Rows L2 Oc Os
section
variable [Ob : Objs] {α β : Type} {E : Ex} {S S0 : Objs.T} {ρ : Vl.Env} {fa fb fe : Vl.Env → Mo D} {x y z d e : D} {xs ys ds es : List D} {Q : Ct D} {R : Ct (Fl × Vl.Env)} {C f : Str} {fs gs : List (Str × D)} {F : List D → Mo D} {t : FT} {ts : List String} {b : Bool}
abbrev X0 : Ex := fun _ _ _ => False
theorem g_c9 {m : Mo α} {Q : Ct α} (h : wp m Q X0 S) : wp (nox m) Q E S := by rw [w_nox]; exact h
theorem g_de {r : List (Str × AtK)} (h : wp (F [.ins C fs]) Q X0 S) : wp (kAttr f ((C, .prop F) :: r) (.ins C fs)) Q E S := by
  unfold kAttr
  rw [w_bnd]
  have e : findC C ((C, AtK.prop F) :: r) = some (.prop F) := if_pos rfl
  rw [e, w_some]
  exact g_c9 h
theorem g_df {r : List (Str × Bool)} (h : Q (.bl b) S) : wp (kIsO ((C, b) :: r) ts (.ins C fs)) Q E S := by
  have e : findC C ((C, b) :: r) = some b := if_pos rfl
  show wp (bnd (opt (findC C ((C, b) :: r))) fun b => Vl.ret (.bl b)) Q E S
  rw [w_bnd, e, w_some]
  exact h
theorem g_f2 {r : List (Str × Bool)} {tn : String} (e : tyD x = some tn) (ht : ts.contains tn = true) (h : Q (.bl false) S) : wp (kIsO r ts x) Q E S := by
  cases x <;> first | cases e; done | skip
  all_goals
    unfold kIsO
    rw [w_bnd, e, w_some, w_grd]
    exact ⟨ht, h⟩
theorem g_ew (e : eqN x y = some b) (h : Q (.bl b) S) : wp (kEqN x y) Q E S := by
  unfold kEqN
  rw [w_bnd, e, w_some]
  exact h
theorem g_f3 {z : Str} (e : eqS z d = some b) (h : Q (.bl b) S) : wp (kEqS (.str z) d) Q E S := by
  unfold kEqS
  rw [w_bnd, e, w_some]
  exact h
theorem g_f4 (e : inS ds x = some b) (h : Q (.bl b) S) : wp (kInS x (.tup ds)) Q E S := by
  show wp (bnd (opt (inS ds x)) fun b => Vl.ret (.bl b)) Q E S
  rw [w_bnd, e, w_some]
  exact h
/-- what follows a def that tells True or False -/
def kOBk (Q : Ct D) : Ct D := fun r S => match r with
  | .bl b => Q (.bl b) S
  | _ => False
def kNBk (Q : Ct D) : Ct D := fun r S => match r with
  | .bl b => Q (.bl (!b)) S
  | _ => False
theorem g_dg (h : Q (.bl b) S) : kOBk Q (.bl b) S := h
theorem g_dh (h : Q (.bl (!b)) S) : kNBk Q (.bl b) S := h
theorem kOB_wp (h : kOBk Q x S) : wp (kOB x) Q E S := by
  cases x <;> first | exact h.elim | exact h
theorem kONB_wp (h : kNBk Q x S) : wp (kONB x) Q E S := by
  cases x <;> first | exact h.elim | exact h
theorem g_f5 (ho : tyOk C ts e = true) (h : wp (F [.ins C fs, e]) (kOBk Q) X0 S) : wp (kEqO ((C, F) :: t) ts (.ins C fs) e) Q E S := by
  have q : findC C ((C, F) :: t) = some F := if_pos rfl
  unfold kEqO
  rw [w_bnd, q, w_some, w_grd]
  refine ⟨ho, ?_⟩
  rw [w_bnd]
  exact g_c9 (wp_mono h (fun r S1 q => kOB_wp q) fun _ _ _ q => q)
theorem g_ex (ho : tyOk C ts e = true) (h : wp (F [.ins C fs, e]) (kNBk Q) X0 S) : wp (kNeO ((C, F) :: t) ts (.ins C fs) e) Q E S := by
  have q : findC C ((C, F) :: t) = some F := if_pos rfl
  unfold kNeO
  rw [w_bnd, q, w_some, w_grd]
  refine ⟨ho, ?_⟩
  rw [w_bnd]
  exact g_c9 (wp_mono h (fun r S1 q => kONB_wp q) fun _ _ _ q => q)
theorem g_f6 (hn : eqN (.tup ds) (.tup es) = none) (h : wp (eqZip t ds es) (fun b S1 => Q (.bl (b && ds.length == es.length)) S1) E S) : wp (kEqO t ts (.tup ds) (.tup es)) Q E S := by
  unfold kEqO
  dsimp only
  rw [hn]
  show wp (bnd (eqZip t ds es) fun b => Vl.ret (.bl (b && ds.length == es.length))) Q E S
  rw [w_bnd]
  exact h
theorem wp_eq {m : Mo α} {a : α} (h : wp m (fun r S1 => r = a ∧ S1 = S0) X0 S) : m S = some (.ok a, S0) := by
  unfold wp at h
  cases q : m S with
  | none => rw [q] at h; exact h.elim
  | some r =>
    rw [q] at h
    obtain ⟨o, S'⟩ := r
    cases o with
    | ok a' => obtain ⟨rfl, rfl⟩ := h; rfl
    | ex B gs => exact h.elim
theorem g_f7 {P : Ct Bool} (h1 : wp (F [.ins C fs, .ins C gs]) (fun r S1 => r = .bl b ∧ S1 = S) X0 S) (h2 : b = true ∨ difFs fs gs = true) (h : P b S) : wp (eqPair ((C, F) :: t) (.ins C fs) (.ins C gs)) P E S := by
  have q : findC C ((C, F) :: t) = some F := if_pos rfl
  have e : nox (F [.ins C fs, .ins C gs]) S = some (.ok (.bl b), S) := by
    unfold nox
    rw [wp_eq h1]
  have e2 : eqPair ((C, F) :: t) (.ins C fs) (.ins C gs) S = some (.ok b, S) := by
    unfold eqPair
    dsimp only
    rw [if_pos rfl, q]
    dsimp only
    rw [e]
    dsimp only
    rw [if_pos ⟨rfl, h2⟩]
  unfold wp
  rw [e2]
  exact h
theorem g_f8 {P : Ct Bool} (h : P true S) : wp (eqZip t [] es) P E S := h
theorem g_f9 {P : Ct Bool} (h : wp (eqPair t d e) (fun b S1 => if b = true then wp (eqZip t ds es) P E S1 else P false S1) E S) : wp (eqZip t (d :: ds) (e :: es)) P E S := by
  show wp (bnd (eqPair t d e) fun b => if b = true then eqZip t ds es else Vl.ret false) P E S
  rw [w_bnd]
  refine wp_mono h (fun b S1 q => ?_) fun _ _ _ q => q
  cases b <;> exact q
theorem g_di (h : wp (F [.ins C fs, x]) (kOBk Q) E S) : wp (kInO ((C, F) :: t) x (.ins C fs)) Q E S := by
  have q : findC C ((C, F) :: t) = some F := if_pos rfl
  show wp (bnd (opt (findC C ((C, F) :: t))) fun F => bnd (F [.ins C fs, x]) kOB) Q E S
  rw [w_bnd, q, w_some, w_bnd]
  exact wp_mono h (fun r S1 q => kOB_wp q) fun _ _ _ q => q
def kNt2 (Q : Ct D) : Ct D := fun r S => match r with
  | .int n => (0 ≤ n ∧ n < 2 ^ 60) ∧ Q (.int n) S
  | _ => False
theorem g_dj (h : wp (F [.ins C fs]) (kNt2 Q) E S) : wp (kLenO ((C, F) :: t) [.ins C fs]) Q E S := by
  have q : findC C ((C, F) :: t) = some F := if_pos rfl
  show wp (bnd (opt (findC C ((C, F) :: t))) fun F => bnd (F [.ins C fs]) kNat) Q E S
  rw [w_bnd, q, w_some, w_bnd]
  refine wp_mono h (fun r S1 q => ?_) fun _ _ _ q => q
  cases r <;> first | exact q.elim | skip
  show wp (grd _ _) _ _ _
  rw [w_grd, Bool.and_eq_true, decide_eq_true_eq, decide_eq_true_eq]
  exact q
theorem g_ga {n : Nat} (hn : n < 2 ^ 60) (h : Q (.int n) S) : kNt2 Q (.int n) S := ⟨⟨Int.natCast_nonneg n, by exact_mod_cast hn⟩, h⟩
theorem g_dk (h : wp (F [.ins C fs, y]) Q E S) : wp (kGetO ((C, F) :: t) (.ins C fs) y) Q E S := by
  have q : findC C ((C, F) :: t) = some F := if_pos rfl
  show wp (bnd (opt (findC C ((C, F) :: t))) fun F => F [.ins C fs, y]) Q E S
  rw [w_bnd, q, w_some]
  exact h
theorem g_dl (h : wp (fe ρ) (fun d S1 => E C [(f, d)] S1) E S) : wp (sRaise1 C f fe ρ) R E S := by
  unfold sRaise1
  rw [w_bnd]
  exact h
theorem g_dm {m : List (Str × D)} {P : Ct α} (h : E C m S) : wp (Vl.thr (α := α) C m) P E S := h
/-- behind the statement of a try: its exception is caught -/
def kTx (C : Str) (hv : List (Str × D) → Option D) (ρ : Vl.Env) (R : Ct (Fl × Vl.Env)) : Ex := fun B gs S1 => B = C ∧ ∃ d, hv gs = some d ∧ R (.rt d, ρ) S1
theorem g_dn {bk : D → Vl.Env → Fl × Vl.Env} {hv : List (Str × D) → Option D} (h : wp (fe ρ) (fun d S1 => R (bk d ρ) S1) (kTx C hv ρ R) S) : wp (sTry bk fe C hv ρ) R E S := by
  unfold wp at h
  unfold wp sTry
  cases q : fe ρ S with
  | none => rw [q] at h; exact h.elim
  | some r =>
    rw [q] at h
    obtain ⟨o, S'⟩ := r
    cases o with
    | ok d => exact h
    | ex B gs =>
      obtain ⟨rfl, d, hd, h⟩ := h
      dsimp only
      rw [if_pos rfl, hd]
      exact h
theorem g_gb {hv : List (Str × D) → Option D} (e : hv gs = some d) (h : R (.rt d, ρ) S) : kTx C hv ρ R C gs S := ⟨rfl, d, e, h⟩
end
end Vl
set_option Elab.async false
set_option linter.all false
set_option maxRecDepth 100000
set_option maxHeartbeats 4000000
namespace Vl
open PySem PySem.Spec PyProof.Rows L2 Oc
variable [Ob : Objs]
/-! ### a list of anything == [] -/
def kEqE : D → D → Mo D
  | .lst ds, .lst [] => ret (.bl ds.isEmpty)
  | _, _ => nop
section
variable {X : Cx}
def rEqE (K : PySem.W.Frag) : R2 := fun x y H Q => ∃ a b vs, x = .ref a ∧ y = .ref b ∧ SqL K H a vs ∧ SqL K H b [] ∧ Q (.bl vs.isEmpty) H
theorem op_eqE (hu : X.A.units + 68 < cLine) : OpR X (compareOp .Eq) (rEqE X.K) := by
  intro pins s σ H x y v u Q I rx ry h
  obtain ⟨a, b, vs, rfl, rfl, h1, h2, hq⟩ := h
  obtain rfl : v = Value.ref a := rx
  obtain rfl : u = Value.ref b := ry
  obtain ⟨its, r1, e1, _⟩ := I.list h1
  obtain ⟨its2, r2, e2, _⟩ := I.list h2
  cases r2
  have e1 : s.heap.IsList a its.toArray := e1.isList
  have e2 : s.heap.IsList b (#[] : Array Value) := e2.isList
  cases r1 with
  | nil => exact SeqAt.eq_listAt (items := #[]) (e := fun _ => true) e1 e2 rfl (by omega) (fun j h _ => absurd h (by simp)) ⟨.bl true, H, I, rfl, hq⟩
  | cons p q => exact SeqAt.eq_list_lengthsAt e1 e2 (by simp) (by omega) ⟨.bl false, H, I, rfl, hq⟩
theorem by_eqE {O : List Nat} {E : XS} : By2 X O E (rEqE X.K) kEqE := fun u v x y T ρ S g al σ H Q s r1 r2 w => by
  unfold kEqE at w
  split at w
  · next ds =>
    obtain ⟨a, vs, rfl, _, q1, b1⟩ := r1.lst
    obtain ⟨b, vs2, rfl, _, q2, b2⟩ := r2.lst
    cases b2
    exact ⟨a, b, vs, rfl, rfl, q1, q2, by rw [b1.isEmpty]; exact w.rt' s (.bl _)⟩
  · exact w.elim
end
section
variable {E : Ex} {S : Objs.T} {ds : List D} {Q : Ct D}
theorem g_gc (h : Q (.bl ds.isEmpty) S) : wp (kEqE (.lst ds) (.lst [])) Q E S := h
end
end Vl
set_option Elab.async false
set_option linter.all false
set_option maxRecDepth 100000
set_option maxHeartbeats 4000000
namespace Vl
open PySem PySem.Spec PyProof.Rows L2 Oc
variable [Ob : Objs]
section
variable {X : Cx} {O : List Nat} {E : XS} {a b : Expr} {fa fb : Env → Mo D} {pos : Pos}
/-! ### x.strip(signs) -/
def kStripC : D → D → Mo D
  | .str x, .str y => grd (decide (x.length ≤ LIM)) (ret (.str (Txt.stripChars x y)))
  | _, _ => nop
def isStr : D → Bool
  | .str _ => true
  | _ => false
def fStrip (fa fb : Env → Mo D) : Env → Mo D := fun ρ => bnd (fa ρ) fun x => grd (isStr x) (bnd (fb ρ) fun y => kStripC x y)
section
variable {ρ : Vl.Env} {S : Ob.T} {Q : Ct D} {E : Ex} {x y : Str}
def kSA (fb : Env → Mo D) (ρ : Vl.Env) (Q : Ct D) (E : Ex) : Ct D := fun x S => wp (grd (isStr x) (bnd (fb ρ) fun y => kStripC x y)) Q E S
def kSB (x : Str) (Q : Ct D) (E : Ex) : Ct D := fun y S => wp (kStripC (.str x) y) Q E S
theorem g_ey (h : wp (fa ρ) (kSA fb ρ Q E) E S) : wp (fStrip fa fb ρ) Q E S := by
  unfold fStrip
  rw [w_bnd]
  exact h
theorem g_ez (h : wp (fb ρ) (kSB x Q E) E S) : kSA fb ρ Q E (.str x) S := by
  unfold kSA
  rw [w_grd, w_bnd]
  exact ⟨rfl, h⟩
theorem g_e0 (hl : x.length ≤ LIM) (h : Q (.str (Txt.stripChars x y)) S) : kSB x Q E (.str y) S := by
  unfold kSB kStripC
  rw [w_grd]
  exact ⟨decide_eq_true hl, h⟩
end
theorem ve_stripC {apos : Pos} (ha : VE X O E a fa) (hb : VE X O E b fb) (hs : starEach [b] X.env = [(false, eval b X.env)] := by rfl) (hbase : attributeBase a "strip" X.env (eval a X.env) = eval a X.env := by rfl) (hline : (apos.endLine == pos.line) = true := by rfl) :
    VE X O E (.Call (.Attribute a "strip" apos) [b] [] pos) (fStrip fa fb) :=
  PE.weak (pe_m1 F.slot_str_strip F.type_str_strip mt_stripChars ha hb hs hbase hline) fun σ H Q ⟨T, ρ, S, g, al, s, w⟩ => ⟨T, ρ, S, g, al, s, w.bn fun v d S1 g1 al1 H1 s1 l1 r1 w1 => by
  obtain ⟨ci, w1⟩ := w1.gd
  cases d <;> first | cases ci | skip
  cases r1
  refine ⟨⟨_, rfl⟩, T, ρ, S1, g1, al1, s1, w1.bn fun v2 d2 S2 g2 al2 H2 s2 l2 r2 w2 => ?_⟩
  cases d2 with
  | str y =>
    cases r2
    unfold kStripC at w2
    obtain ⟨c, w2⟩ := w2.gd
    exact ⟨_, _, rfl, rfl, Nat.le_trans (of_decide_eq_true c) (by decide), w2.rt' s2 (.str _)⟩
  | _ => exact w2.elim⟩
end
/-! ### nothing is left where all signs go -/
theorem takeWhile_all {g : Nat → Bool} : ∀ {l : List Nat}, l.all g = true → l.takeWhile g = l
  | [], _ => rfl
  | a :: l, h => by
    rw [List.all_cons, Bool.and_eq_true] at h
    rw [List.takeWhile_cons, if_pos h.1, takeWhile_all h.2]
theorem takeWhile_notall {g : Nat → Bool} : ∀ {l : List Nat}, l.all g = false → (l.takeWhile g).length < l.length
  | [], h => by cases h
  | a :: l, h => by
    rw [List.all_cons] at h
    rw [List.takeWhile_cons]
    cases e : g a with
    | true =>
      rw [e, Bool.true_and] at h
      rw [if_pos rfl, List.length_cons, List.length_cons]
      have := takeWhile_notall h
      omega
    | false =>
      rw [if_neg (by decide)]
      exact Nat.succ_pos _
theorem drop_notall {g : Nat → Bool} : ∀ {l : List Nat}, l.all g = false → (l.drop (l.takeWhile g).length).all g = false
  | [], h => by cases h
  | a :: l, h => by
    rw [List.takeWhile_cons]
    cases e : g a with
    | true =>
      rw [List.all_cons, e, Bool.true_and] at h
      rw [if_pos rfl, List.length_cons, List.drop_succ_cons]
      exact drop_notall h
    | false =>
      rw [if_neg (by decide), List.length_nil, List.drop_zero]
      exact h
theorem sub_len (x : Str) (i j : Nat) : (PySem.Builtin.Str.strSub x i j).cps.size = min j x.cps.size - i := by
  show (x.cps.extract i j).size = _
  rw [Array.size_extract]
theorem stripB_all {g : Nat → Bool} {x : Str} (h : x.cps.toList.all g = true) : (Txt.stripBy g true true x).cps.size = 0 := by
  have h4 : x.cps.toList.length = x.cps.size := Array.length_toList
  unfold Txt.stripBy
  split
  · next e =>
    unfold stripSame stripLo at e
    rw [if_pos rfl, takeWhile_all h, Bool.and_eq_true, beq_iff_eq] at e
    omega
  · unfold stripped stripLo stripHi
    rw [sub_len, if_pos rfl, if_pos rfl, takeWhile_all h]
    omega
theorem stripB_not {g : Nat → Bool} {x : Str} (h : x.cps.toList.all g = false) : (Txt.stripBy g true true x).cps.size ≠ 0 := by
  have h4 : x.cps.toList.length = x.cps.size := Array.length_toList
  have h5 : x.length = x.cps.size := rfl
  have h1 := takeWhile_notall h
  unfold Txt.stripBy
  split
  · omega
  · have h2 := drop_notall h
    have h3 : ((x.cps.toList.drop (x.cps.toList.takeWhile g).length).reverse.takeWhile g).length < (x.cps.toList.drop (x.cps.toList.takeWhile g).length).reverse.length := takeWhile_notall (by rw [List.all_reverse]; exact h2)
    rw [List.length_reverse, List.length_drop] at h3
    unfold stripped stripLo stripHi
    rw [sub_len, if_pos rfl, if_pos rfl]
    omega
/-- x.strip(y) == "" tells whether all signs of x are in y -/
theorem strip_none (x y : Str) : decide (Txt.stripChars x y = "") = x.cps.toList.all y.cps.contains := by
  unfold Txt.stripChars
  cases h : x.cps.toList.all y.cps.contains with
  | true => 
    apply decide_eq_true
    have := stripB_all h
    generalize Txt.stripBy y.cps.contains true true x = z at this
    obtain ⟨z⟩ := z
    have e : z = #[] := Array.eq_empty_of_size_eq_zero this
    rw [e]
    rfl
  | false =>
    apply decide_eq_false
    intro e
    refine stripB_not h ?_
    rw [e]
    rfl
end Vl
set_option Elab.async false
set_option linter.all false
set_option maxRecDepth 100000
set_option maxHeartbeats 4000000
namespace Vl
open PySem PySem.Spec PyProof.Rows L2 Oc
variable [Ob : Objs]
/-! ### a text == / != a text, whatever stands in them -/
def kEqT : D → D → Mo D
  | .str a, .str b => ret (.bl (a == b))
  | _, _ => nop
def kNeT : D → D → Mo D
  | .str a, .str b => ret (.bl (a != b))
  | _, _ => nop
section
variable {X : Cx}
def rEqT (K : PySem.W.Frag) : R2 := fun x y H Q => ∃ a b, x = .str a ∧ y = .str b ∧ Q (.bl (a == b)) H
def rNeT (K : PySem.W.Frag) : R2 := fun x y H Q => ∃ a b, x = .str a ∧ y = .str b ∧ Q (.bl (a != b)) H
theorem op_eqT : OpR X (compareOp .Eq) (rEqT X.K) := by
  intro pins s σ H x y v u Q I rx ry h
  obtain ⟨a, b, rfl, rfl, hq⟩ := h
  obtain ⟨t, rfl⟩ := rx
  obtain ⟨t2, rfl⟩ := ry
  exact PyProof.Rows.eq_str ⟨.bl _, H, I, rfl, hq⟩
theorem op_neT : OpR X (compareOp .NotEq) (rNeT X.K) := by
  intro pins s σ H x y v u Q I rx ry h
  obtain ⟨a, b, rfl, rfl, hq⟩ := h
  obtain ⟨t, rfl⟩ := rx
  obtain ⟨t2, rfl⟩ := ry
  exact PyProof.Rows.ne_str ⟨.bl _, H, I, rfl, hq⟩
theorem by_eqT {O : List Nat} {E : XS} : By2 X O E (rEqT X.K) kEqT := fun u v x y T ρ S g al σ H Q s r1 r2 w => by
  unfold kEqT at w
  split at w
  · next a b => exact ⟨a, b, r1.str, r2.str, w.rt' s (.bl _)⟩
  · exact w.elim
theorem by_neT {O : List Nat} {E : XS} : By2 X O E (rNeT X.K) kNeT := fun u v x y T ρ S g al σ H Q s r1 r2 w => by
  unfold kNeT at w
  split at w
  · next a b => exact ⟨a, b, r1.str, r2.str, w.rt' s (.bl _)⟩
  · exact w.elim
end
section
variable {E : Ex} {S : Objs.T} {Q : Ct D} {a b : Str}
theorem g_e1 (h : Q (.bl (a == b)) S) : wp (kEqT (.str a) (.str b)) Q E S := h
theorem g_e2 (h : Q (.bl (a != b)) S) : wp (kNeT (.str a) (.str b)) Q E S := h
/-- the same text on both sides -/
theorem g_gd (h : Q (.bl false) S) : wp (kNeT (.str a) (.str a)) Q E S := g_e2 (by rw [bne_self_eq_false]; exact h)
end
end Vl

set_option Elab.async false
set_option linter.all false
set_option maxRecDepth 100000
set_option maxHeartbeats 4000000
namespace Vl
open PySem PySem.Spec PyProof.Rows L2 Oc
open LamX (CodeO TabS Tabs TabB)
/-! ### tables of code objects, among the objects -/
/-- the table of the def x's code object -/
def tabP (K : PySem.W.Frag) (x : Str) : Addr := match PySem.W.tabIn K x with
  | some (_, P) => P
  | none => 0
def tabsOf (K : PySem.W.Frag) (tb : List (Str × Str)) : List (Addr × Str) := tb.map fun p => (tabP K p.1, p.2)
@[reducible] def tabO (tb : List (Str × Str)) : Objs2 := ⟨Unit, fun K _ M _ _ => Tabs (tabsOf K tb) M, fun h _ => h⟩
/-- a lambda was made: its code object was there, or came to the table -/
def NewT (H H1 : Hp) (P : Addr) (q : Str) (c' : Addr) : Prop := H1 = H ∨
  ∃ ps more : Array Value, H P = some (.tbl ps) ∧ H c' = none ∧ H1 = upd (upd H P (.tbl (ps ++ more))) c' (CodeO c' q) ∧ TriplesOk (ps ++ more).toList ∧
    ∀ (p' : Pos) (cv : Value), codeAmong p' (ps ++ more).toList = some cv → codeAmong p' ps.toList = some cv ∨ cv = .ref c'
theorem tbl_code {c : Addr} {q : Str} {ps : Array Value} : (HO.tbl ps) ≠ CodeO c q := fun z => LamX.codeO_ne ps z.symm
theorem tabs_new {L : List (Addr × Str)} {M : Hp} {P c' : Addr} {q : Str} {ps more : Array Value} (t : Tabs L M) (hu : ∀ p ∈ L, p.1 = P → p.2 = q) (hP : M P = some (.tbl ps)) (hc : M c' = none) (ht : TriplesOk (ps ++ more).toList)
    (hm : ∀ (p' : Pos) (cv : Value), codeAmong p' (ps ++ more).toList = some cv → codeAmong p' ps.toList = some cv ∨ cv = .ref c') : Tabs L (upd (upd M P (.tbl (ps ++ more))) c' (CodeO c' q)) := by
  have nPc : P ≠ c' := ne_of_none hP hc
  have old : ∀ {c : Addr} {z : Str}, M c = some (CodeO c z) → upd (upd M P (.tbl (ps ++ more))) c' (CodeO c' q) c = some (CodeO c z) := fun {c z} e => by
    have n1 : c ≠ P := fun h => by
      rw [h, hP] at e
      exact tbl_code (Option.some.inj e)
    rw [upd_ne (ne_of_none e hc), upd_ne n1]
    exact e
  rintro ⟨A, z⟩ hp
  obtain ⟨qs, e1, e2, e3⟩ := t _ hp
  by_cases hA : A = P
  · subst hA
    have hz : z = q := hu _ hp rfl
    subst hz
    have eq : qs = ps := by
      have := e1.symm.trans hP
      injection this with this
      injection this
    subst eq
    refine ⟨_, by rw [upd_ne nPc, upd_same], ht, fun p' cv h => ?_⟩
    rcases hm p' cv h with h | h
    · obtain ⟨c, a, b⟩ := e3 p' cv h
      exact ⟨c, a, old b⟩
    · exact ⟨c', h, upd_same⟩
  · refine ⟨qs, by rw [upd_ne (ne_of_none e1 hc), upd_ne hA]; exact e1, e2, fun p' cv h => ?_⟩
    obtain ⟨c, a, b⟩ := e3 p' cv h
    exact ⟨c, a, old b⟩
theorem hide_updT {M : Hp} {p a : Addr} {o : HO} (h : a ≠ p) : hideA (upd M a o) p = upd (hideA M p) a o := by
  funext b
  unfold hideA
  by_cases e : b = a
  · rw [e, if_neg h, upd_same, upd_same]
  · rw [upd_ne e]
    by_cases e2 : b = p
    · rw [if_pos e2, upd_ne e, if_pos e2]
    · rw [if_neg e2, upd_ne e, if_neg e2]
/-- objects among which the tables are -/
class LamObjs (tb : outParam (List (Str × Str))) (O2 : Objs2) : Prop where
  get : ∀ {K : PySem.W.Frag} {I M : Hp} {al : List Addr} {u : O2.U}, O2.at2 K I M al u → Tabs (tabsOf K tb) M
  new : ∀ {K : PySem.W.Frag} {I M : Hp} {al : List Addr} {u : O2.U} {P c' : Addr} {q : Str} {ps more : Array Value}, O2.at2 K I M al u → (∀ p ∈ tabsOf K tb, p.1 = P → p.2 = q) → M P = some (.tbl ps) → M c' = none → TriplesOk (ps ++ more).toList →
    (∀ (p' : Pos) (cv : Value), codeAmong p' (ps ++ more).toList = some cv → codeAmong p' ps.toList = some cv ∨ cv = .ref c') → O2.at2 K I (upd (upd M P (.tbl (ps ++ more))) c' (CodeO c' q)) al u
instance (tb : List (Str × Str)) : LamObjs tb (tabO tb) := ⟨fun h => h, fun h hu hP hc ht hm => tabs_new h hu hP hc ht hm⟩
section
variable {tb : List (Str × Str)} [O2 : Objs2] [LO : LamObjs tb O2] {K : PySem.W.Frag} {O : List Nat} {T : Hp} {ρ : Env} {g : Addr → Nat} {al : List Addr} {σ : L2.St} {H H1 : Hp} {P c' : Addr} {q : Str}
theorem SR.tabs {S : Option PenS × Objs2.U} (s : SR K O T ρ S g al σ H) : Tabs (tabsOf K tb) (reg g H 2) := by
  obtain ⟨o, u⟩ := S
  have h := s.ob
  cases o with
  | none =>
    obtain ⟨z, _, h⟩ := h
    exact LO.get h
  | some st =>
    obtain ⟨p, c, z, al', _, _, _, h⟩ := h
    refine LamX.Tabs.ext (LO.get h) fun b o e => ?_
    unfold hideA at e
    split at e
    · cases e
    · exact e
theorem SR.newT {S : Option PenS × Objs2.U} (s : SR K O T ρ S g al σ H) (hL : (P, q) ∈ tabsOf K tb) (hu : ∀ p ∈ tabsOf K tb, p.1 = P → p.2 = q) (n : NewT H H1 P q c') : ∃ g1, SR K O T ρ S g1 al σ H1 ∧ Le g al H g1 al H1 := by
  rcases n with e | ⟨ps, more, hP, hc, e, ht, hm⟩
  · subst e
    exact ⟨g, s, .refl⟩
  subst e
  obtain ⟨qs, e1, _, _⟩ := s.tabs _ hL
  have e1 : reg g H 2 P = some (.tbl qs) := e1
  have gP : g P = 2 := reg_tag e1
  have eP : reg g H 2 P = some (.tbl ps) := reg_at hP gP
  have nPc : P ≠ c' := ne_of_none hP hc
  have hc0 : upd H P (.tbl (ps ++ more)) c' = none := by rw [upd_ne nPc.symm]; exact hc
  have en : ∀ m, m ≠ 2 → reg (put g c' 2) (upd (upd H P (.tbl (ps ++ more))) c' (CodeO c' q)) m = reg g H m := fun m h => by
    rw [reg_put_ne hc0 h, reg_upd_ne (by rw [gP]; exact h.symm)]
  have e2 : reg (put g c' 2) (upd (upd H P (.tbl (ps ++ more))) c' (CodeO c' q)) 2 = upd (upd (reg g H 2) P (.tbl (ps ++ more))) c' (CodeO c' q) := by
    rw [reg_put hc0, reg_upd gP]
  have le : Le g al H (put g c' 2) al (upd (upd H P (.tbl (ps ++ more))) c' (CodeO c' q)) := ⟨⟨by rw [en 1 (by decide)]; exact .refl, List.prefix_rfl⟩, en 4 (by decide)⟩
  refine ⟨_, s.move le.w (en 3 (by decide)) (en 4 (by decide)) ?_, le⟩
  rw [en 1 (by decide), e2]
  have cM : reg g H 2 c' = none := reg_none hc
  obtain ⟨o, u⟩ := S
  have h := s.ob
  cases o with
  | none =>
    obtain ⟨z, ea, h⟩ := h
    exact ⟨z, ea, LO.new h hu eP cM ht hm⟩
  | some st =>
    obtain ⟨p, c, z, al', ea, h1, h2, h3⟩ := h
    have nP : P ≠ p := fun z => by
      rw [← z, eP] at h1
      cases h1
    have nc : c' ≠ p := fun z => by
      rw [← z, cM] at h1
      cases h1
    refine ⟨p, c, z, al', ea, by rw [upd_ne nc.symm, upd_ne nP.symm]; exact h1, h2, ?_⟩
    rw [hide_updT nc, hide_updT nP]
    refine LO.new h3 hu ?_ ?_ ht hm
    · unfold hideA
      rw [if_neg nP]
      exact eP
    · unfold hideA
      rw [if_neg nc]
      exact cM
end
/-! ### the lambda is made -/
section
variable {X : Cx} {pins : List (Addr × Obj)} {σ : L2.St} {H : Hp} {s : Shared}
theorem lam_new {c P : Addr} {params : Arguments} {body : Expr} {scope : Scope} {pos : Pos} {E Q : Value → Shared → Prop} {q : Str} (hq : X.env.qual ++ "<lambda>" = q)
    (I : Inv X pins σ H s) (B : TabB X.base X.mg c P) (hcode : X.env.code = .ref c) (hT : TabS H P q) (hdef : defaultsOf params X.env = ([], [])) (hfree : ∀ y ∈ scope.names, y.2 = .free → ∃ c, X.env.cells.lookup y.1 = some c)
    (h : ∀ (f c' : Addr) (pm ctv : Value) (H1 : Hp) (s' : Shared), Inv X pins σ H1 s' → NewT H H1 P q c' →
      s'.heap.get? f = some (PySem.W.kla_obj "<lambda>" q params body scope (cloFrom X.env.cells scope.names []) pm c' ctv) → H1 f = none → f ∉ frs X.stack → H1 c' = some (CodeO c' q) → Q (.ref f) s') :
    wpAny (model X.prog X.w) X.A (eval (.Lambda params body scope pos) X.env) Q E s := by
  obtain ⟨ps, hP, tr, old⟩ := hT
  apply PySem.W.kla_eval hdef
  rw [hq]
  have at_P : s.heap.get? P = some { cls := .none, data := .fields ps } := I.hok P _ hP
  have clo := closure_ok hfree
  have bu : s.heap.BuiltinsAt X.mg P := B.bm.keeps I.bk
  have cd := B.code.keeps I.bk
  have gl : s.heap.Ns mainGlobals X.mg := I.mod.glob.keeps I.bk
  have away : ∀ f : Addr, s.heap.objs.size ≤ f → f ∉ frs X.stack := by
    intro f hf z
    cases List.mem_cons.mp (I.stkSub _ z) with
    | inl e => exact absurd (Nat.lt_of_lt_of_le (by rw [e]; exact I.lt) hf) (Nat.lt_irrefl f)
    | inr e => exact I.nofs hf e
  cases among : codeAmong pos ps.toList with
  | some cv =>
    obtain ⟨c', rfl, known⟩ := old pos cv among
    apply PySem.W.kla_makeFunctionHit (mg := X.mg) (c := c) (P := P) (ps := ps) clo I.ok.glob gl hcode cd at_P tr among bu
    intro ctv h' tk keep grow
    exact h _ c' ((X.mg "__name__").getD .none) ctv H _ (I.kept fun b o e => Heap.get?_push_of_some _ (keep b o e)) (.inl rfl) (Heap.get?_push_size _ rfl) (I.hok.fresh grow) (away _ grow) known
  | none =>
    apply PySem.W.kla_makeFunction (mg := X.mg) (c := c) (P := P) (ps := ps) clo I.ok.glob gl hcode cd at_P tr among B.gP bu
    intro c' ctv h' tk but lo hi rec' tab'
    obtain ⟨c2, oc, vs, t, e2, isO, isD, isV⟩ := rec'
    cases e2
    have size : s.heap.objs.size ≤ h'.objs.size := by omega
    have noC : H c' = none := I.hok.fresh lo
    have J := LamX.inv_table (t' := tk) (more := #[rawInt pos.line, rawInt pos.col, .ref c']) (q := q) (h' := h'.push (PySem.W.kla_obj "<lambda>" q params body scope (cloFrom X.env.cells scope.names []) ((X.mg "__name__").getD .none) c' ctv)) I hP
      (fun b o nb e => Heap.get?_push_of_some _ (but b o nb e)) (Heap.get?_push_of_some _ tab') lo ⟨oc, vs, t, Heap.get?_push_of_some _ isO, isD, isV⟩
    have eL : (ps ++ #[rawInt pos.line, rawInt pos.col, .ref c']).toList = ps.toList ++ [rawInt pos.line, rawInt pos.col, .ref c'] := by simp
    have nf1 : h'.objs.size ≠ c' := by omega
    have nf2 : h'.objs.size ≠ P := (Nat.ne_of_lt (Nat.lt_of_lt_of_le (Heap.lt_size at_P) size)).symm
    refine h h'.objs.size c' ((X.mg "__name__").getD .none) ctv _ _ J (.inr ⟨ps, _, hP, noC, rfl, ?_, fun p' cv hcv => ?_⟩) (Heap.get?_push_size _ rfl) ?_ (away _ size) upd_same
    · rw [eL]
      exact PySem.TriplesOk_snoc _ _ _ _ tr
    · rw [eL] at hcv
      exact LamX.among_app _ tr hcv
    · rw [upd_ne nf1, upd_ne nf2]
      exact I.hok.fresh size
end
end Vl
set_option Elab.async false
set_option linter.all false
set_option maxRecDepth 100000
set_option maxHeartbeats 4000000
namespace Vl
open PySem PySem.Spec PyProof.Rows L2 Oc
open LamX (CodeO TabS Tabs TabB LamS lamEnv lamCx)
/-! ### a def that tries what it gets, called with a lambda -/
def mCatch (bk : D → D) (C : Str) (hv : List (Str × D) → Option D) {U : Type} (m : U → Option (Out D × U)) : U → Option (Out D × U) := fun S => match m S with
  | some (.ok d, S') => some (.ok (bk d), S')
  | some (.ex B fs, S') => if B = C then (match hv fs with
    | some d => some (.ok d, S')
    | none => none) else none
  | none => none
section
variable [Ob : Objs]
theorem mCatch_wp {bk : D → D} {C : Str} {hv : List (Str × D) → Option D} {m : Mo D} {S : Objs.T} {Q : D → Objs.T → Prop} {E : Str → List (Str × D) → Objs.T → Prop} (w : wp (mCatch bk C hv m : Mo D) Q E S) :
    wp m (fun d S' => Q (bk d) S') (fun B fs S' => B = C ∧ ∃ d, hv fs = some d ∧ Q d S') S := by
  have key : ∀ r, mCatch bk C hv m S = r → (match r with | some (.ok a, S') => Q a S' | some (.ex C' fs', S') => E C' fs' S' | none => False) → wp m (fun d S' => Q (bk d) S') (fun B fs S' => B = C ∧ ∃ d, hv fs = some d ∧ Q d S') S := by
    intro r hr hw
    unfold mCatch at hr
    unfold wp
    cases q : m S with
    | none =>
      rw [q] at hr
      subst hr
      exact hw.elim
    | some o =>
      obtain ⟨o, S1⟩ := o
      rw [q] at hr
      cases o with
      | ok d =>
        subst hr
        exact hw
      | ex B fs =>
        dsimp only at hr ⊢
        split at hr
        · next e =>
          split at hr
          · next d hd =>
            subst hr
            exact ⟨e, d, hd, hw⟩
          · subst hr
            exact hw.elim
        · subst hr
          exact hw.elim
  refine key _ rfl ?_
  unfold wp at w
  cases q : mCatch bk C hv m S with
  | none => rw [q] at w; exact w
  | some r =>
    rw [q] at w
    obtain ⟨o, S'⟩ := r
    cases o <;> exact w
theorem g_e3 {bk : D → D} {C : Str} {hv : List (Str × D) → Option D} {m : Mo D} {S : Objs.T} {Q : D → Objs.T → Prop} {E : Str → List (Str × D) → Objs.T → Prop} (h : wp m (fun d S' => Q (bk d) S') (fun B fs S' => B = C ∧ ∃ d, hv fs = some d ∧ Q d S') S) : wp (mCatch bk C hv m : Mo D) Q E S := by
  unfold wp at h ⊢
  unfold mCatch
  cases q : m S with
  | none =>
    rw [q] at h
    exact h
  | some o =>
    obtain ⟨o, S1⟩ := o
    rw [q] at h
    cases o with
    | ok d => exact h
    | ex B fs =>
      obtain ⟨e, d, hd, k⟩ := h
      dsimp only
      rw [if_pos e, hd]
      exact k
end
def bkNon (_ : D) : D := .non
section
variable {X : Cx} {O : List Nat} {E : XS} {tb : List (Str × Str)} [O2 : Objs2] [LO : LamObjs tb O2]
theorem ve_lamR {x a n xc C q : Str} {g c P : Addr} {k i : Nat} {pg : Arguments} {sg : Scope} {fd : FuncData} {Ng : List Str} {params : Arguments} {body : Expr} {scope : Scope} {p p1 p2 p3 p4 np lpos pos pos' tpos : Pos} {fe : Env → Mo D} {hv : List (Str × D) → Option D} {b₀ : Stmt} {suite : List Stmt}
    (G : FunD X.K x x pg (.Try [.Return (some (.Call (.Name a p1) [] [] p2)) p3] [.ExceptHandler (some (.Name xc np)) (some n) (b₀ :: suite) pos'] [] [] tpos :: []) sg [] [] g fd) (hm : X.mg x = some (.ref g)) (hb : L2.Binds X.K fd [a] []) (Sg : FnScope Ng [a] sg) (hNg : Ng[0]? = some a) (hva : Vis sg a)
    (hi : Ng[i]? = some n) (hln : sg.names.lookup n = some .local) (hxc : sg.names.lookup xc = some .globalImplicit ∧ (xc == ("__debug__" : Str)) = false ∧ X.mg xc = some (.ref (He.ga X.K C)))
    (hex : PySem.W.exmOne X.K (.ref (He.ga X.K C)) (.ref (He.ga X.K C)) = some true)
    (hsu : ∀ (cdg : Value) (A : Around) (outer : List PySem.Env) (s : Shared) (H : Hp) (a' : Addr) (oe : Obj) (dx : Option Addr) (pn : List (Addr × Obj)) (fs : List (Str × D)) (d : D), hv fs = some d → Zc (.ref (He.ga X.K C)) dx oe → (∃ vs, oe.data = .fields vs) →
      VXr ((cxOf C8.CX0 X.prog X.w X.K X.mg X.base Ng x sg g cdg A outer s H C8.E0).suite a' ((a', oe) :: pn)) X.K [] a' dx i fs (b₀ :: suite) d)
    (hL : (P, q) ∈ tabsOf X.K tb) (hu : ∀ p ∈ tabsOf X.K tb, p.1 = P → p.2 = q) (TB : TabB X.base X.mg c P) (hcode : X.env.code = .ref c) (hq : X.env.qual ++ "<lambda>" = q) (hr : Room (k + 2) X.A) (L : LamS X.env.scope scope) (hdef : defaultsOf params X.env = ([], []))
    (hbind : ∀ (q : Str) (cl : List (Str × Addr)) (pm cv ctv : Value), bindArgs (PySem.W.kla_fn "<lambda>" q params body scope cl pm cv ctv) ⟨[], []⟩ = pure [])
    (hbody : ∀ (A : Around) (outer : List PySem.Env) (s : Shared) (H : Hp) (Ec : XK) (f c' : Addr), Room k (A.deeper (lamEnv X scope s.heap.objs.size f c')) → VE (lamCx X A outer s H Ec scope f c') O (XSof Ec) body fe)
    (hg : Gl X x := by rfl) (hdb : (x == ("__debug__" : Str)) = false := by decide) (hd : (a == ("__debug__" : Str)) = false := by decide) (hcd : (a == ("__classdict__" : Str)) = false := by decide) :
    VE X O E (.Call (.Name x p) [.Lambda params body scope lpos] [] pos) (fun ρ => mCatch id C hv (fe ρ)) := by
  subst hq
  obtain ⟨oc, od, dV, kV, doc, pm0, an, cdv, ct, osl, rfl, lk, hcg, _, _⟩ := G.ex
  refine ⟨fun pins s σ H Q I h => ?_⟩
  obtain ⟨T, ρ, S, g0, al, sr, w⟩ := h
  have hT : TabS H P (X.env.qual ++ "<lambda>") := (sr.tabs _ hL).ext fun b o e => reg_le _ _ e
  refine wpAny_Call_Name_kw (ld_glob I hg hm ?_ hdb)
  refine PySem.W.callWith_K (h₀ := X.base) I.ok.mod.kin G.kp ?_ (by rfl) (by rfl)
  show wpAny _ _ (spliced ((false, eval (.Lambda params body scope lpos) X.env) :: backTo pos (starEach [] X.env))) _ _ s
  refine Calls.spliced_cons (lam_new rfl I TB hcode hT hdef (L.has I.ok) fun f c' pm' ctv H1 s' I1 nT hf hfn hfr hco => ?_)
  obtain ⟨g1, sr1, le1⟩ := sr.newT hL hu nT
  have w1 := Post.le le1 w
  refine Calls.spliced_nil ⟨I1.kIn, ?_⟩
  have rc : codeAny (model X.prog X.w) X.A (.call (.ref g) ⟨[.ref f], []⟩) (CR C8.CX0 X.stack X.prog X.w H1 s' Q C8.E0) s' := by
    refine LamX.run_ofS (N := Ng) (ps := [a]) (us := [.ref f]) (vs := [.ref f]) lk hcg Sg hr I1.env0 (hb s' [.ref f] I1.kIn rfl) (.cons rfl .nil) rfl fun hr' => ?_
    have act : ∀ (W : WX) (pn : List (Addr × Obj)) (xe : Value → Shared → Prop) (Ec : XK), Takes ((cxOf C8.CX0 X.prog X.w X.K X.mg X.base Ng x sg g cdv X.A X.stack s' H1 C8.E0).tr pn xe) W → (∀ cls d σ' H', Ec cls d H' → W cls d σ' H') →
        PE ((cxOf C8.CX0 X.prog X.w X.K X.mg X.base Ng x sg g cdv X.A X.stack s' H1 C8.E0).tr pn xe) (.Call (.Name a p1) [] [] p2) (fun σZ HZ Q => σZ[0]? = some (some (.ref f)) ∧ HZ c' = some (CodeO c' (X.env.qual ++ "<lambda>")) ∧ lift (RR X.K) X.K O (XSof Ec) fe σ HZ Q) :=
      fun W pn xe Ec tk hW => LamX.pe_act (i := 0) (E := Ec) I1 L hf hfn hfr (hbind _ _ _ _ _) tk hW hr' (fun A outer s H hr2 => hbody A outer s H Ec f c' hr2) hNg hva hd hcd
    have h0 : (L2.start Ng [V.ref f])[0]? = some (some (V.ref f)) := rfl
    refine ⟨_, pss_one (ps_try_as (X := cxOf C8.CX0 X.prog X.w X.K X.mg X.base Ng x sg g cdv X.A X.stack s' H1 C8.E0) (c := .ref (He.ga X.K C)) (Wout := fun _ _ _ _ => False)
      (tb := fun W D σZ HZ => ∃ Ec : XK, (∀ cls d σ' H', Ec cls d H' → W cls d σ' H') ∧ σZ[0]? = some (some (.ref f)) ∧ HZ c' = some (CodeO c' (X.env.qual ++ "<lambda>")) ∧ lift (RR X.K) X.K O (XSof Ec) fe σ HZ (D.rt))
      (ts := fun a' cls dx Dn σZ HZ => cls = .ref (He.ga X.K C) ∧ ∃ fs d, hv fs = some d ∧ (∃ σ' : L2.St, σZ = σ'.set i (some (.ref a'))) ∧ ∃ S' g' al', SR X.K O T ρ S' g' al' σ HZ ∧ ExF X.K (reg g' HZ 1) al' fs dx ∧ ∀ v g2 al2 H2, SR X.K O T ρ S' g2 al2 σ H2 → Le g' al' HZ g2 al2 H2 → Rep X.K (reg g2 H2 1) al2 v d → Dn.rt v H2)
      rfl rfl Sg.nd hi hln ⟨hxc.1, hxc.2.1, .inl hxc.2.2⟩ takes0 (fun W pn xe tk po => ⟨fun pins s' σ' H' D I' h' => ?_⟩) (fun a' oe cls dx pn hz hfl => ⟨fun pins s σ H Dn I h => ?_⟩)), ?_⟩
    · obtain ⟨Ec, hW, h1, h2, h3⟩ := h'
      exact (pss_one (ps_ret (pos := p3) (act W pn xe Ec tk hW))).run pins s' σ' H' D I' ⟨h1, h2, h3⟩
    · obtain ⟨rfl, fs, d, hd, ⟨σ', rfl⟩, S', g', al', sr', xf, kk⟩ := h
      have hil : i < σ'.length := by
        have := I.len
        rw [List.length_set] at this
        rw [this]
        exact (List.getElem?_eq_some_iff.mp hi).1
      have cs := (sr'.call).1
      refine (hsu cdv X.A X.stack s' H1 a' oe dx pn fs d hd hz hfl).run pins s _ H Dn I ⟨reg (dn g') H 3, (σ'.set i (some (.ref a'))).map fun _ => none, S', dn g', al', ⟨cs.names (by rw [List.length_map]) fun j e z => ?_, ?_, List.getElem?_set_self hil⟩, fun v g2 al2 H2 s2 l2 r2 => ?_⟩
      · rw [List.getElem?_map] at z
        obtain ⟨_, _, z⟩ := Option.map_eq_some_iff.mp z
        cases z
      · rw [reg_dn (by decide) (by decide)]
        exact xf
      · obtain ⟨s3, l3, e3⟩ := sr'.ret s2 l2
        exact kk v _ al2 H2 s3 l3 (by rw [e3]; exact r2)
    · refine ⟨fun cls dx H' => cls = .ref (He.ga X.K C) ∧ ∃ fs d, hv fs = some d ∧ ∃ S' g' al', SR X.K O T ρ S' g' al' σ H' ∧ ExF X.K (reg g' H' 1) al' fs dx ∧ ∀ v g2 al2 H2, SR X.K O T ρ S' g2 al2 σ H2 → Le g' al' H' g2 al2 H2 → Rep X.K (reg g2 H2 1) al2 v d → Q v H2, ?_, h0, hco, T, ρ, S, g1, al, sr1, ?_⟩
      · rintro cls dx σ' H' ⟨rfl, fs, d, hd, S', g', al', a1, a2, a3⟩
        exact ⟨true, hex, fun _ a na => ⟨rfl, fs, d, hd, ⟨σ', rfl⟩, S', g', al', a1, a2, a3⟩, fun z => by cases z⟩
      · refine wp_mono (mCatch_wp w1) (fun d S' kk v g' al' H' s' l r => kk v g' al' H' s' l r) fun B fs S' kk g' al' H' dx s' l x' => ?_
        obtain ⟨rfl, d, hd, kk⟩ := kk
        exact ⟨rfl, fs, d, hd, S', g', al', s', x', fun v g2 al2 H2 s2 l2 r2 => kk v g2 al2 H2 s2 (l.trans l2) r2⟩
  refine wpAny_call (codeAny_mono rc fun r s2 hq => ?_)
  cases r with
  | error e => exact (show False from hq).elim
  | ok fl =>
    cases fl with
    | ret u => exact I1.after hq
    | next => exact False.elim hq
    | brk => exact False.elim hq
    | cont => exact False.elim hq
theorem ve_lamE {x a n xc C q : Str} {g c P : Addr} {k i : Nat} {pg : Arguments} {sg : Scope} {fd : FuncData} {Ng : List Str} {params : Arguments} {body : Expr} {scope : Scope} {p p1 p2 p3 p4 np lpos pos pos' tpos : Pos} {j : _} {fe : Env → Mo D} {hv : List (Str × D) → Option D} {b₀ : Stmt} {suite : List Stmt}
    (G : FunD X.K x x pg (.Try [.Expr (.Call (.Name a p1) [] [] p2) p3] [.ExceptHandler (some (.Name xc np)) (some n) (b₀ :: suite) pos'] [] [] tpos :: [.Return (some (.Constant .none j p4)) p4]) sg [] [] g fd) (hm : X.mg x = some (.ref g)) (hb : L2.Binds X.K fd [a] []) (Sg : FnScope Ng [a] sg) (hNg : Ng[0]? = some a) (hva : Vis sg a)
    (hi : Ng[i]? = some n) (hln : sg.names.lookup n = some .local) (hxc : sg.names.lookup xc = some .globalImplicit ∧ (xc == ("__debug__" : Str)) = false ∧ X.mg xc = some (.ref (He.ga X.K C)))
    (hex : PySem.W.exmOne X.K (.ref (He.ga X.K C)) (.ref (He.ga X.K C)) = some true)
    (hsu : ∀ (cdg : Value) (A : Around) (outer : List PySem.Env) (s : Shared) (H : Hp) (a' : Addr) (oe : Obj) (dx : Option Addr) (pn : List (Addr × Obj)) (fs : List (Str × D)) (d : D), hv fs = some d → Zc (.ref (He.ga X.K C)) dx oe → (∃ vs, oe.data = .fields vs) →
      VXr ((cxOf C8.CX0 X.prog X.w X.K X.mg X.base Ng x sg g cdg A outer s H C8.E0).suite a' ((a', oe) :: pn)) X.K [] a' dx i fs (b₀ :: suite) d)
    (hL : (P, q) ∈ tabsOf X.K tb) (hu : ∀ p ∈ tabsOf X.K tb, p.1 = P → p.2 = q) (TB : TabB X.base X.mg c P) (hcode : X.env.code = .ref c) (hq : X.env.qual ++ "<lambda>" = q) (hr : Room (k + 2) X.A) (L : LamS X.env.scope scope) (hdef : defaultsOf params X.env = ([], []))
    (hbind : ∀ (q : Str) (cl : List (Str × Addr)) (pm cv ctv : Value), bindArgs (PySem.W.kla_fn "<lambda>" q params body scope cl pm cv ctv) ⟨[], []⟩ = pure [])
    (hbody : ∀ (A : Around) (outer : List PySem.Env) (s : Shared) (H : Hp) (Ec : XK) (f c' : Addr), Room k (A.deeper (lamEnv X scope s.heap.objs.size f c')) → VE (lamCx X A outer s H Ec scope f c') O (XSof Ec) body fe)
    (hg : Gl X x := by rfl) (hdb : (x == ("__debug__" : Str)) = false := by decide) (hd : (a == ("__debug__" : Str)) = false := by decide) (hcd : (a == ("__classdict__" : Str)) = false := by decide) :
    VE X O E (.Call (.Name x p) [.Lambda params body scope lpos] [] pos) (fun ρ => mCatch bkNon C hv (fe ρ)) := by
  subst hq
  obtain ⟨oc, od, dV, kV, doc, pm0, an, cdv, ct, osl, rfl, lk, hcg, _, _⟩ := G.ex
  refine ⟨fun pins s σ H Q I h => ?_⟩
  obtain ⟨T, ρ, S, g0, al, sr, w⟩ := h
  have hT : TabS H P (X.env.qual ++ "<lambda>") := (sr.tabs _ hL).ext fun b o e => reg_le _ _ e
  refine wpAny_Call_Name_kw (ld_glob I hg hm ?_ hdb)
  refine PySem.W.callWith_K (h₀ := X.base) I.ok.mod.kin G.kp ?_ (by rfl) (by rfl)
  show wpAny _ _ (spliced ((false, eval (.Lambda params body scope lpos) X.env) :: backTo pos (starEach [] X.env))) _ _ s
  refine Calls.spliced_cons (lam_new rfl I TB hcode hT hdef (L.has I.ok) fun f c' pm' ctv H1 s' I1 nT hf hfn hfr hco => ?_)
  obtain ⟨g1, sr1, le1⟩ := sr.newT hL hu nT
  have w1 := Post.le le1 w
  refine Calls.spliced_nil ⟨I1.kIn, ?_⟩
  have rc : codeAny (model X.prog X.w) X.A (.call (.ref g) ⟨[.ref f], []⟩) (CR C8.CX0 X.stack X.prog X.w H1 s' Q C8.E0) s' := by
    refine LamX.run_ofS (N := Ng) (ps := [a]) (us := [.ref f]) (vs := [.ref f]) lk hcg Sg hr I1.env0 (hb s' [.ref f] I1.kIn rfl) (.cons rfl .nil) rfl fun hr' => ?_
    have act : ∀ (W : WX) (pn : List (Addr × Obj)) (xe : Value → Shared → Prop) (Ec : XK), Takes ((cxOf C8.CX0 X.prog X.w X.K X.mg X.base Ng x sg g cdv X.A X.stack s' H1 C8.E0).tr pn xe) W → (∀ cls d σ' H', Ec cls d H' → W cls d σ' H') →
        PE ((cxOf C8.CX0 X.prog X.w X.K X.mg X.base Ng x sg g cdv X.A X.stack s' H1 C8.E0).tr pn xe) (.Call (.Name a p1) [] [] p2) (fun σZ HZ Q => σZ[0]? = some (some (.ref f)) ∧ HZ c' = some (CodeO c' (X.env.qual ++ "<lambda>")) ∧ lift (RR X.K) X.K O (XSof Ec) fe σ HZ Q) :=
      fun W pn xe Ec tk hW => LamX.pe_act (i := 0) (E := Ec) I1 L hf hfn hfr (hbind _ _ _ _ _) tk hW hr' (fun A outer s H hr2 => hbody A outer s H Ec f c' hr2) hNg hva hd hcd
    have h0 : (L2.start Ng [V.ref f])[0]? = some (some (V.ref f)) := rfl
    refine ⟨_, pss_cons (ps_try_as (X := cxOf C8.CX0 X.prog X.w X.K X.mg X.base Ng x sg g cdv X.A X.stack s' H1 C8.E0) (c := .ref (He.ga X.K C)) (Wout := fun _ _ _ _ => False)
      (tb := fun W D σZ HZ => ∃ Ec : XK, (∀ cls d σ' H', Ec cls d H' → W cls d σ' H') ∧ σZ[0]? = some (some (.ref f)) ∧ HZ c' = some (CodeO c' (X.env.qual ++ "<lambda>")) ∧ lift (RR X.K) X.K O (XSof Ec) fe σ HZ (fun _ H' => D.nx σZ H'))
      (ts := fun a' cls dx Dn σZ HZ => cls = .ref (He.ga X.K C) ∧ ∃ fs d, hv fs = some d ∧ (∃ σ' : L2.St, σZ = σ'.set i (some (.ref a'))) ∧ ∃ S' g' al', SR X.K O T ρ S' g' al' σ HZ ∧ ExF X.K (reg g' HZ 1) al' fs dx ∧ ∀ v g2 al2 H2, SR X.K O T ρ S' g2 al2 σ H2 → Le g' al' HZ g2 al2 H2 → Rep X.K (reg g2 H2 1) al2 v d → Dn.rt v H2)
      rfl rfl Sg.nd hi hln ⟨hxc.1, hxc.2.1, .inl hxc.2.2⟩ takes0 (fun W pn xe tk po => ⟨fun pins s' σ' H' D I' h' => ?_⟩) (fun a' oe cls dx pn hz hfl => ⟨fun pins s σ H Dn I h => ?_⟩)) (pss_one (ps_ret pe_non)), ?_⟩
    · obtain ⟨Ec, hW, h1, h2, h3⟩ := h'
      exact (pss_one (ps_expr (pos := p3) (act W pn xe Ec tk hW))).run pins s' σ' H' D I' ⟨h1, h2, h3⟩
    · obtain ⟨rfl, fs, d, hd, ⟨σ', rfl⟩, S', g', al', sr', xf, kk⟩ := h
      have hil : i < σ'.length := by
        have := I.len
        rw [List.length_set] at this
        rw [this]
        exact (List.getElem?_eq_some_iff.mp hi).1
      have cs := (sr'.call).1
      refine (hsu cdv X.A X.stack s' H1 a' oe dx pn fs d hd hz hfl).run pins s _ H Dn I ⟨reg (dn g') H 3, (σ'.set i (some (.ref a'))).map fun _ => none, S', dn g', al', ⟨cs.names (by rw [List.length_map]) fun j e z => ?_, ?_, List.getElem?_set_self hil⟩, fun v g2 al2 H2 s2 l2 r2 => ?_⟩
      · rw [List.getElem?_map] at z
        obtain ⟨_, _, z⟩ := Option.map_eq_some_iff.mp z
        cases z
      · rw [reg_dn (by decide) (by decide)]
        exact xf
      · obtain ⟨s3, l3, e3⟩ := sr'.ret s2 l2
        exact kk v _ al2 H2 s3 l3 (by rw [e3]; exact r2)
    · refine ⟨fun cls dx H' => cls = .ref (He.ga X.K C) ∧ ∃ fs d, hv fs = some d ∧ ∃ S' g' al', SR X.K O T ρ S' g' al' σ H' ∧ ExF X.K (reg g' H' 1) al' fs dx ∧ ∀ v g2 al2 H2, SR X.K O T ρ S' g2 al2 σ H2 → Le g' al' H' g2 al2 H2 → Rep X.K (reg g2 H2 1) al2 v d → Q v H2, ?_, h0, hco, T, ρ, S, g1, al, sr1, ?_⟩
      · rintro cls dx σ' H' ⟨rfl, fs, d, hd, S', g', al', a1, a2, a3⟩
        exact ⟨true, hex, fun _ a na => ⟨rfl, fs, d, hd, ⟨σ', rfl⟩, S', g', al', a1, a2, a3⟩, fun z => by cases z⟩
      · refine wp_mono (mCatch_wp w1) (fun d S' kk v g' al' H' s' l r => kk .non g' al' H' s' l .non) fun B fs S' kk g' al' H' dx s' l x' => ?_
        obtain ⟨rfl, d, hd, kk⟩ := kk
        exact ⟨rfl, fs, d, hd, S', g', al', s', x', fun v g2 al2 H2 s2 l2 r2 => kk v g2 al2 H2 s2 (l.trans l2) r2⟩
  refine wpAny_call (codeAny_mono rc fun r s2 hq => ?_)
  cases r with
  | error e => exact (show False from hq).elim
  | ok fl =>
    cases fl with
    | ret u => exact I1.after hq
    | next => exact False.elim hq
    | brk => exact False.elim hq
    | cont => exact False.elim hq
end
end Vl
set_option Elab.async false
set_option linter.all false
set_option maxRecDepth 100000
set_option maxHeartbeats 4000000
namespace Oh
open PySem PySem.Spec PyProof.Rows L2
/-! ### the head's facts, with tables of code objects that a law's lambdas come to -/
def cutK (K : PySem.W.Frag) (as : List Addr) : PySem.W.Frag := K.filter fun p => !as.contains p.1
theorem cut_lookup {as : List Addr} : ∀ {K : PySem.W.Frag} {a : Addr}, (cutK K as).lookup a = if as.contains a = true then none else K.lookup a
  | [], a => by
    show none = _
    split <;> rfl
  | (b, o) :: K, a => by
    have ih := cut_lookup (as := as) (K := K) (a := a)
    unfold cutK at ih ⊢
    rw [List.filter_cons, List.lookup_cons]
    cases hb : as.contains b with
    | true =>
      rw [Bool.not_true, if_neg (by decide), ih]
      by_cases e : a = b
      · subst e
        rw [hb, if_pos rfl]
        simp
      · have : (a == b) = false := by simpa using e
        rw [this]
    | false =>
      rw [Bool.not_false, if_pos rfl, List.lookup_cons, ih]
      by_cases e : a = b
      · subst e
        rw [hb]
        simp
      · have : (a == b) = false := by simpa using e
        rw [this]
theorem cut_in {K : PySem.W.Frag} {as : List Addr} {h : Heap} (X : K.In h) : (cutK K as).In h := fun a o e => by
  rw [cut_lookup] at e
  split at e
  · cases e
  · exact X a o e
def isTab (o : Option Obj) : Bool := match o with
  | some ⟨.none, none, .fields ⟨[]⟩, ⟨[]⟩⟩ => true
  | _ => false
theorem isTab_ok {o : Option Obj} (h : isTab o = true) : o = some (PySem.W.tabObj #[]) := by
  unfold isTab at h
  split at h
  · rfl
  · cases h
def tabsA (K : PySem.W.Frag) (tb : List (Str × Str)) : List Addr := tb.map fun p => Vl.tabP K p.1
/-- K: all that was read; K': without the tables -/
def tabsB (K K' : PySem.W.Frag) (tb : List (Str × Str)) : Bool := (tb.all fun p => match PySem.W.tabIn K' p.1 with
  | some (c, P) => PySem.W.codeHdIn K' c P && (isTab (K.lookup P) && ((K'.lookup P).isNone && decide (mainGlobals ≠ P)))
  | none => false) && decide (tabsA K' tb).Nodup
structure TabF (K : PySem.W.Frag) (h : Heap) (x : Str) (c P : Addr) : Prop where
  at_ : PySem.W.tabIn K x = some (c, P)
  code : PySem.W.CodeHd h c P
  obj : h.get? P = some (PySem.W.tabObj #[])
  none : K.lookup P = none
  glob : mainGlobals ≠ P
structure TabsF (K : PySem.W.Frag) (h : Heap) (tb : List (Str × Str)) : Prop where
  each : ∀ p ∈ tb, ∃ c P, TabF K h p.1 c P
  nodup : (tabsA K tb).Nodup
theorem tabsF_of {K K' : PySem.W.Frag} {h : Heap} {tb : List (Str × Str)} (X : K.In h) (X' : K'.In h) (b : tabsB K K' tb = true) : TabsF K' h tb := by
  obtain ⟨b1, b2⟩ := Bool.and_eq_true_iff.mp b
  refine ⟨fun p hp => ?_, of_decide_eq_true b2⟩
  have z := List.all_eq_true.mp b1 p hp
  split at z
  · next c P e =>
    simp only [Bool.and_eq_true, decide_eq_true_eq] at z
    obtain ⟨z1, z2, z3, z4⟩ := z
    exact ⟨c, P, e, PySem.W.codeHd_of_K X' z1, X _ _ (isTab_ok z2), Option.isNone_iff_eq_none.mp z3, z4⟩
  · cases z
theorem TabsF.keeps {K : PySem.W.Frag} {h h' : Heap} {tb : List (Str × Str)} (t : TabsF K h tb) (k : ∀ b o, h.get? b = some o → h'.get? b = some o) : TabsF K h' tb := ⟨fun p hp => by
  obtain ⟨c, P, z⟩ := t.each p hp
  exact ⟨c, P, z.at_, z.code.keeps k, k _ _ z.obj, z.none, z.glob⟩, t.nodup⟩
def fragT (n : Nat) (tb : List (Str × Str)) (g : Addr → Option Obj) : PySem.W.Frag := cutK (frag n g) (tabsA (frag n g) tb)
def obsT (n : Nat) (tb : List (Str × Str)) (fa : List He.Fa) (fn : List He.DefD) (pr : List PrD) (ex : PySem.W.Frag → Bool) (g : Addr → Option Obj) : AlP :=
  (He.obsD fa fn (fragT n tb g), pr.map (PrD.word (fragT n tb g)), (pr.all fun q => q.fine (fragT n tb g)) && (ex (fragT n tb g) && tabsB (frag n g) (fragT n tb g) tb))
def hookT (n : Nat) (tb : List (Str × Str)) (fa : List He.Fa) (fn : List He.DefD) (pr : List PrD) (ex : PySem.W.Frag → Bool) : PySem.W.Hook where
  α := AlP
  obs := fun s => obsT n tb fa fn pr ex s.heap.get?
  val := fun _ => (He.valD fn, pr.map (fun q : PrD => q.d.val), true)
  says := fun _ h => ∃ K : PySem.W.Frag, K.In h ∧ SaysP fa fn pr ex K ∧ TabsF K h tb
  of := fun _ s e => by
    have e1 := congrArg (fun z : AlP => z.1) e
    have e2 := congrArg (fun z : AlP => z.2.1) e
    have e3 : ((pr.all fun q => q.fine (fragT n tb s.heap.get?)) && (ex (fragT n tb s.heap.get?) && tabsB (frag n s.heap.get?) (fragT n tb s.heap.get?) tb)) = true := congrArg (fun z : AlP => z.2.2) e
    obtain ⟨a, bc⟩ := Bool.and_eq_true_iff.mp e3
    obtain ⟨b, c⟩ := Bool.and_eq_true_iff.mp bc
    have X : (frag n s.heap.get?).In s.heap := He.frG_in
    exact ⟨fragT n tb s.heap.get?, cut_in X, ⟨e1, e2, Bool.and_eq_true_iff.mpr ⟨a, b⟩⟩, tabsF_of X (cut_in X) c⟩
  keeps := fun _ _ _ h k => by
    obtain ⟨K, z1, z2, z3⟩ := h
    exact ⟨K, PySem.W.Frag.In.keeps z1 k, z2, z3.keeps k⟩
theorem obsT_eq {n : Nat} {tb : List (Str × Str)} {fa : List He.Fa} {fn : List He.DefD} {pr : List PrD} {ex : PySem.W.Frag → Bool} {g : Addr → Option Obj} {s : Shared} (h : ∀ a, g a = s.heap.get? a) : obsT n tb fa fn pr ex g = (hookT n tb fa fn pr ex).obs s := by
  have z := funext h
  rw [z] <;> rfl
end Oh
namespace Vl
open PySem PySem.Spec PyProof.Rows L2 Oc
open LamX (CodeO TabS Tabs TabB)
/-! ### the law's own def over a heap with tables -/
/-- the tables, as the walk asks of them -/
class TabOk (tb : outParam (List (Str × Str))) (K : PySem.W.Frag) (mg : Str → Option Value) (base : Heap) : Prop where
  each : ∀ p ∈ tb, ∃ c, PySem.W.tabIn K p.1 = some (c, tabP K p.1) ∧ TabB base mg c (tabP K p.1)
  nodup : (Oh.tabsA K tb).Nodup
theorem tab_uniq {K : PySem.W.Frag} : ∀ {tb : List (Str × Str)}, (Oh.tabsA K tb).Nodup → ∀ {x q : Str}, (x, q) ∈ tb → ∀ p ∈ tabsOf K tb, p.1 = tabP K x → p.2 = q
  | [], _, _, _, h, _, _, _ => by cases h
  | (y, z) :: tb, hn, x, q, h, p, hp, e => by
    have hn : (tabP K y :: Oh.tabsA K tb).Nodup := hn
    rw [List.nodup_cons] at hn
    rcases List.mem_cons.mp h with a | a
    · injection a with a1 a2
      rw [a1] at e
      rw [a2]
      rcases List.mem_cons.mp hp with b | b
      · rw [b]
      · obtain ⟨r, hr, rfl⟩ := List.mem_map.mp b
        have e : tabP K r.1 = tabP K y := e
        exact absurd (by rw [← e]; exact List.mem_map_of_mem hr) hn.1
    · rcases List.mem_cons.mp hp with b | b
      · rw [b] at e
        have e : tabP K y = tabP K x := e
        exact absurd (by rw [e]; exact List.mem_map_of_mem (f := fun p : Str × Str => tabP K p.1) a) hn.1
      · exact tab_uniq hn.2 a p b e
theorem tab_mem {K : PySem.W.Frag} {tb : List (Str × Str)} {x q : Str} (h : (x, q) ∈ tb) : (tabP K x, q) ∈ tabsOf K tb := List.mem_map_of_mem (f := fun p : Str × Str => (tabP K p.1, p.2)) h
section
variable {P : Program} {w : World} {K : PySem.W.Frag} {mg mb : Str → Option Value} {base : Heap}
/-- nothing is tracked but the script and the tables -/
structure OnlyT (as : List Addr) (H : Hp) : Prop where
  tab : ∀ p ∈ as, H p = some (.tbl #[])
  rest : ∀ b, b ∉ as → H b = none ∨ ∃ o xs, H b = some (.frz o (.lst xs))
theorem law_callT {fa a : Addr} {fd : FuncData} {x : Str} {sp : Sp} {s1 : Shared} {vs : List Value} {ns : List Int} {tb : List (Str × Str)}
    (KX : K.In s1.heap) (hns : s1.heap.Ns mainGlobals mg) (hb : s1.heap.Ns builtinsNs mb) (hbb : ∀ x : Str, x ≠ "__name__" → mb x = bootBuiltins x) (hlim : s1.heap.NoLimit) (hg : s1.gens = #[])
    (hbm : ∃ (bm : Addr) (ob : Obj), mg "__builtins__" = some (.ref bm) ∧ bm ≠ builtinsNs ∧ s1.heap.get? bm = some ob ∧ ob.cls = .type "module" ∧ ob.dict = some builtinsNs ∧ ob.data = .plain)
    (TF : Oh.TabsF K s1.heap tb)
    (ha : s1.heap.get? a = some { cls := .type "list", data := .seq vs.toArray }) (hi : IntsAre vs ns) (hl : ns.length ≤ sizeLine) (hka : K.lookup a = none)
    (F : ∀ base : Heap, K.In base → base.Ns mainGlobals mg → TabOk tb K mg base → LawOk P w K mg base fa fd [x] sp) (hbind : ∀ (s : Shared) (u : Value), BindsTo s fd ⟨[u], []⟩ [(x, u)])
    (hsp : ∀ H : Hp, OnlyT (Oh.tabsA K tb) H → SqL K H a (ns.map V.int) → sp [.ref a] H (fun v _ => v = .bl true) fun _ _ _ => False) :
    codeAny (model P w) callerA (.call (.ref fa) ⟨[.ref a], []⟩) (fun r s' => r = .ok (.ret (.bool true)) ∧ OldK s1.heap s'.heap ∧ s'.os = s1.os ∧ AllBare s'.gens) s1 := by
  have fac : ∀ b ∈ Oh.tabsA K tb, ∃ c, ∃ y, PySem.W.tabIn K y = some (c, b) ∧ PySem.W.CodeHd s1.heap c b ∧ s1.heap.get? b = some (PySem.W.tabObj #[]) ∧ K.lookup b = none ∧ mainGlobals ≠ b := fun b hb => by
    obtain ⟨p, hp, rfl⟩ := List.mem_map.mp hb
    obtain ⟨c, Q, z⟩ := TF.each p hp
    have e : tabP K p.1 = Q := by
      unfold tabP
      rw [z.at_]
    rw [e]
    exact ⟨c, p.1, z.at_, z.code, z.obj, z.none, z.glob⟩
  have tabAt : ∀ b ∈ Oh.tabsA K tb, s1.heap.get? b = some (PySem.W.tabObj #[]) := fun b hb => by
    obtain ⟨_, _, _, _, z, _⟩ := fac b hb
    exact z
  have na : a ∉ Oh.tabsA K tb := fun z => by
    have q := (tabAt a z).symm.trans ha
    injection q with q
    cases congrArg Obj.data q
  obtain ⟨H, hH⟩ : ∃ H : Hp, H = fun b => if b = a then some (HO.frz { cls := .type "list", data := .seq vs.toArray } (.lst (ns.map V.int))) else if b ∈ Oh.tabsA K tb then some (.tbl #[]) else none := ⟨_, rfl⟩
  have hHa : H a = some (HO.frz { cls := .type "list", data := .seq vs.toArray } (.lst (ns.map V.int))) := by rw [hH]; exact if_pos rfl
  have hHt : ∀ b, b ∈ Oh.tabsA K tb → H b = some (.tbl #[]) := fun b m => by
    have e : b ≠ a := fun z => na (z ▸ m)
    rw [hH]
    exact (if_neg e).trans (if_pos m)
  have hHn : ∀ b, b ≠ a → b ∉ Oh.tabsA K tb → H b = none := fun b e m => by
    rw [hH]
    exact (if_neg e).trans (if_neg m)
  have hO : OnlyT (Oh.tabsA K tb) H := ⟨hHt, fun b m => by
    by_cases e : b = a
    · rw [e]; exact .inr ⟨_, _, hHa⟩
    · exact .inl (hHn b e m)⟩
  have bk : ∀ {b : Addr} {o : Obj}, s1.heap.get? b = some o → b ≠ a → b ∉ Oh.tabsA K tb → (hidT s1.heap H).get? b = some o := fun q e m => hidT_get q (hHn _ e m)
  -- what is neither the script's list nor an empty record is left
  have bk' : ∀ {b : Addr} {o : Obj}, s1.heap.get? b = some o → (∀ vs n, o.data ≠ .seq vs n) → o.data ≠ .fields #[] → (hidT s1.heap H).get? b = some o := fun {b o} q h1 h2 => by
    refine bk q (fun z => ?_) fun z => ?_
    · rw [z, ha] at q
      cases q
      exact h1 _ _ rfl
    · rw [tabAt b z] at q
      cases q
      exact h2 rfl
  have nsK : ∀ {b : Addr} {m : Str → Option Value}, s1.heap.Ns b m → (hidT s1.heap H).Ns b m := fun {b m} ⟨o, es, ep, e, d, r⟩ => by
    have e' := bk' e (fun vs n z => by rw [d] at z; cases z) (fun z => by rw [d] at z; cases z)
    exact ⟨o, es, ep, e', d, r⟩
  have hKb : K.In (hidT s1.heap H) := fun b o e => by
    refine bk (KX b o e) (fun z => by rw [z, hka] at e; cases e) fun z => ?_
    obtain ⟨_, _, _, _, _, n, _⟩ := fac b z
    rw [n] at e
    cases e
  have hM : Mod K mg (hidT s1.heap H) := ⟨hKb, nsK hns, ⟨mb, nsK hb, hbb⟩, by
    obtain ⟨mc, h1, h2⟩ := hlim
    exact ⟨mc, nsK h1, h2⟩⟩
  have hok : HOk P w H s1.heap := fun b o e => by
    by_cases z : b = a
    · rw [z, hHa] at e
      cases e
      rw [z]
      exact ⟨ha, by rw [List.length_map]; exact hl, vs, _, vals_ints hi, ha⟩
    · by_cases m : b ∈ Oh.tabsA K tb
      · rw [hHt b m] at e
        cases e
        exact tabAt b m
      · rw [hHn b z m] at e
        cases e
  have TOe : ∀ p ∈ tb, ∃ c, PySem.W.tabIn K p.1 = some (c, tabP K p.1) ∧ TabB (hidT s1.heap H) mg c (tabP K p.1) := fun p hp => by
    obtain ⟨c, Q, z⟩ := TF.each p hp
    have e : tabP K p.1 = Q := by
      unfold tabP
      rw [z.at_]
    rw [e]
    refine ⟨c, z.at_, ?_, ?_, z.glob⟩
    · obtain ⟨o, us, file, tf, flags, tg, inF, text, tt, e1, r1, r2, r3, r⟩ := z.code
      refine ⟨o, us, file, tf, flags, tg, inF, text, tt, bk' e1 (fun vs n q => ?_) fun q => ?_, r1, r2, r3, r⟩
      · rw [r2] at q
        cases q
      · rw [r2] at q
        cases q
        simp at r3
    · obtain ⟨bm, ob, b1, b2, b3, b4, b5, b6⟩ := hbm
      refine ⟨bm, ob, b1, b2, fun q => ?_, fun q => ?_, bk' b3 (fun vs n q => ?_) fun q => ?_, b4, b5, b6⟩
      · obtain ⟨o, es, ep, e, d, _⟩ := hns
        rw [q, e] at b3
        cases b3
        rw [d] at b6
        cases b6
      · rw [q, z.obj] at b3
        cases b3
        cases b6
      · rw [b6] at q
        cases q
      · rw [b6] at q
        cases q
  have TO : TabOk tb K mg (hidT s1.heap H) := ⟨TOe, TF.nodup⟩
  have e0 : Env0 P w K mg (hidT s1.heap H) callerA [] s1 H := ⟨rfl, hM, fun b o e => of_hidT e, Nat.le_of_eq (hidT_size _ _), trivial, (fun b hb => absurd (show b ∈ ([] : List Addr) from hb) (by simp)), hok, .of_eq hg⟩
  refine codeAny_mono (F _ hKb (nsK hns) TO s1 H [.ref a] [.ref a] _ _ e0 (hbind s1 (.ref a)) (.cons rfl .nil) (hsp H hO (.inl (.inr ⟨_, hHa⟩)))) fun r s' h => ?_
  cases r with
  | error e => exact False.elim h
  | ok fl =>
    cases fl with
    | next => exact False.elim h
    | brk => exact False.elim h
    | cont => exact False.elim h
    | ret u =>
      obtain ⟨v, H', os, bare, un, hok', r', q⟩ := h
      have q' : v = .bl true := q
      subst q'
      obtain rfl : u = Value.bool true := r'
      have stays : ∀ b o, b ∉ Oh.tabsA K tb → s1.heap.get? b = some o → s'.heap.get? b = some o := fun b o m e => by
        by_cases z : b = a
        · rw [z] at e ⊢
          rw [ha] at e
          cases e
          exact (hok' a _ (un.frzs a _ _ hHa)).1
        · exact un.keep b o e (hHn b z m) (by intro z; cases z) (by intro z; cases z)
      have grows : ∀ b, b ∈ Oh.tabsA K tb → ∃ more : Array Value, s'.heap.get? b = some (PySem.W.tabObj more) := fun b m => by
        obtain ⟨more, z⟩ := un.tbls b #[] (hHt b m)
        exact ⟨_, hok' b _ z⟩
      refine ⟨rfl, ⟨fun b o e => ?_, fun b o e => ?_⟩, os, bare⟩
      · by_cases m : b ∈ Oh.tabsA K tb
        · obtain ⟨c, y, _, cd, t0, _⟩ := fac b m
          obtain ⟨more, hm⟩ := grows b m
          rw [t0] at e
          cases e
          refine .inr (.inl ⟨(cd.tab t0).isCodeTable, rfl, #[], more, rfl, ?_⟩)
          rw [Array.empty_append]
          exact hm
        · exact .inl (stays b o m e)
      · by_cases m : b ∈ Oh.tabsA K tb
        · obtain ⟨more, hm⟩ := grows b m
          exact ⟨_, hm⟩
        · exact ⟨o, stays b o m e⟩
end
/-- the end of a law's row whose lambdas have tables -/
theorem walk_ofT {l : PySem.W.OpenLaw} {n : Nat} {q : Program} {loose : List Str} {XP : (Str → Option Value) → Heap → Prop} {YP : World → Heap → Prop} {d : DefRec} {x : Str} {tb : List (Str × Str)}
    (hn : l.most = some n) (hn2 : n ≤ sizeLine) (hdf : d.params.defaults = [])
    (F : ∀ (w : World) (mg : Str → Option Value) (fa : Addr) (h : Heap), YP w h → h.Ns mainGlobals mg → mg d.name = some (.ref fa) →
      ∃ (K : PySem.W.Frag) (fd : FuncData) (sp : Sp), K.In h ∧ Oh.TabsF K h tb ∧ (∀ a o, K.lookup a = some o → o.cls ≠ .type "list") ∧ (∀ (s : Shared) (u : Value), BindsTo s fd ⟨[u], []⟩ [(x, u)]) ∧
        (∀ (H : Hp) (a : Addr) (ns : List Int), ns.length ≤ n → OnlyT (Oh.tabsA K tb) H → SqL K H a (ns.map V.int) → sp [.ref a] H (fun v _ => v = .bl true) fun _ _ _ => False) ∧
        ∀ base : Heap, K.In base → base.Ns mainGlobals mg → TabOk tb K mg base → LawOk l.prog w K mg base fa fd [x] sp) :
    PySem.W.WalkO q loose XP YP l.row.toRowW d [] (fun f vs => PySem.call f vs) := by
  refine Att.attach_call hn hdf fun w s0 s1 mg mb fa o pm cd doc a vs ns G Y ho hd hcd hmg hobj hints hlen hg => ?_
  obtain ⟨K, fd, sp, KX, TF, hnl, hb, hsp, hF⟩ := F w mg fa _ Y G.T.g hmg
  refine law_callT KX G.T.g G.T.b G.T.builtins G.T.nolimit hg G.T.bmain TF hobj hints (Nat.le_trans hlen hn2) ?_ hF hb fun H hO hS => hsp H a ns hlen hO hS
  cases e : K.lookup a with
  | none => rfl
  | some o =>
    have z := KX a o e
    rw [hobj] at z
    cases z
    exact absurd rfl (hnl a _ e)
section
variable {P : Program} {w : World} {K : PySem.W.Frag} {mg : Str → Option Value} {base : Heap}
/-- the law's promise: its objects may lie anywhere -/
def spLg [Ob : Objs] (K : PySem.W.Frag) (m : MoS) (n : Nat) : Sp := fun vs H Q _ => ∃ (a : Addr) (ns : List Int) (S : Objs.T) (g : Addr → Nat) (al : List Addr), vs = [.ref a] ∧ SR K [] (reg g H 3) [] S g al [] H ∧ Rd (reg g H 1) a (.lst (ns.map V.int)) ∧ LawSays m n S ns ∧ ∀ H', Q (.bl true) H'
/-- the code object of a def of the module -/
def CodeAt (K : PySem.W.Frag) (x : Str) (f : Addr) (cdv : Value) : Prop := ∀ c Q, PySem.W.tabIn K x = some (c, Q) → PySem.W.nsIn K mainGlobals x = some (some (.ref f)) → cdv = .ref c
theorem codeAt_of {oc : Value} {od : Option Addr} {osl : Array (Option Value)} {fd : FuncData} {x : Str} {f : Addr} (lk : K.lookup f = some ⟨oc, od, .func fd, osl⟩) : CodeAt K x f fd.code := fun c Q e n => by
  unfold PySem.W.tabIn at e
  rw [n] at e
  dsimp only at e
  rw [lk] at e
  dsimp only at e
  split at e
  · next c' hc =>
    rw [hc]
    split at e
    · split at e
      · cases e; rfl
      · cases e
    · cases e
  · cases e
theorem law_ofc {f : Addr} {fd : FuncData} {d : He.DefD} {N ps : List Str} {sp : Sp} (F : FunD K d.name d.qual d.params d.body d.scope [] [] f fd) (S : FnScope N ps d.scope) (len : ∀ vs H Q E, sp vs H Q E → vs.length = ps.length)
    (hbody : ∀ (cdv : Value), CodeAt K d.name f cdv → ∀ (s : Shared) (H : Hp) (vs : List V) (Q : VK) (E : XK), sp vs H Q E →
      ∃ t, PSs (cxOf CX0 P w K mg base N d.qual d.scope f cdv callerA [] s H E) d.body t ∧ t { nx := fun _ H' => Q .non H', rt := Q } (start N vs) H) : LawOk P w K mg base f fd ps sp := by
  obtain ⟨oc, od, dV, kV, doc, pm, an, cdv, ct, osl, rfl, lk, hcd, _, _⟩ := F.ex
  intro s H us vs Q E e0 hb r hsp
  have old : ∀ b o, base.get? b = some o → s.heap.get? b = some o := fun b o e => (e0.bs b o e).1
  have KX := e0.mod.kin.keeps old
  have ks : ∀ y ∈ ps.zip us, d.scope.names.lookup y.1 = some .local ∨ (d.scope.names.lookup y.1 = some .cell ∧ ((cellsFrom (s.heap.objs.size + 1) d.scope.names []).lookup y.1).isSome = true) := fun y hy => by
    cases S.par y.1 (List.of_mem_zip hy).1 with
    | inl q => exact .inl q
    | inr q => exact .inr ⟨q, PySem.W.cellsFrom_some _ _ _ (.inl q)⟩
  refine codeAny_call_function (by decide) (KX _ _ lk) rfl S.co S.gen rfl (PySem.W.codeRec_of KX hcd) (hb _ _ _ _ (wpAny_newFunctionEnv_cells S.kind ks fun env he s1 x => ?_))
  subst he
  obtain ⟨t, ht, hq⟩ := hbody cdv (codeAt_of lk) s H vs Q E hsp
  have I := inv_start (CX := CX0) (P := P) (w := w) (E := E) (f := f) (cd := cdv) (qual := d.qual) S rfl e0 (len _ _ _ _ hsp) r x
  refine ⟨(e0.mod.nolimit.keeps old).keeps x.toInCall.keep, codeAny_func (wpAny_mono (ht.run [] s1 (start N vs) H _ I hq) (fun fl s' hs => ?_) fun e s' hs => hs)⟩
  cases fl with
  | next =>
    obtain ⟨σ', H', J, q⟩ := hs
    exact ⟨.non, H', J.os, J.bare, J.base, J.hok, rfl, q⟩
  | ret u =>
    obtain ⟨v, σ', H', J, rv, q⟩ := hs
    exact ⟨v, H', J.os, J.bare, J.base, J.hok, rv, q⟩
  | brk =>
    obtain ⟨_, _, _, q⟩ := hs
    exact q.elim
  | cont =>
    obtain ⟨_, _, _, q⟩ := hs
    exact q.elim
theorem law_vg [Ob : Objs] {f : Addr} {fd : FuncData} {d : He.DefD} {N : List Str} {x : Str} {O' : List Nat} {m : MoS} (F : FunD K d.name d.qual d.params d.body d.scope [] [] f fd) (S : FnScope N [x] d.scope)
    (hbody : ∀ (cdv : Value), CodeAt K d.name f cdv → ∀ (s : Shared) (H : Hp) (E : XK), VB (cxOf CX0 P w K mg base N d.qual d.scope f cdv callerA [] s H E) [] O' [] XS0 d.body m) : LawOk P w K mg base f fd [x] (spLg K m N.length) := by
  refine law_ofc F S (fun vs H Q E h => ?_) fun cdv hc s H vs Q E h => ?_
  · obtain ⟨a, ns, _, _, _, rfl, _⟩ := h
    rfl
  · obtain ⟨a, ns, S0, g, al, rfl, s0, hR, hw, q⟩ := h
    have r0 : Reps K (reg g H 1) al [.ref a] [.lst (ns.map D.int)] := Reps.one (.lst hR (int_reps ns))
    refine ⟨_, hbody cdv hc s H E, reg g H 3, startD N.length [.lst (ns.map D.int)], S0, g, al, s0.start r0, wp_mono hw (fun r S1 t => ?_) fun _ _ _ z => z.elim⟩
    obtain ⟨fl, ρ1⟩ := r
    cases fl with
    | rt d =>
      intro v g' al' H' s' l r'
      cases d <;> first | exact t.elim | skip
      rename_i b
      cases b
      · exact t.elim
      · cases r'; exact q H'
    | nx => exact t.elim
    | bk => exact t.elim
    | ct => exact t.elim
/-- at the law's entry -/
theorem law_entry [O2 : Objs2] {u : O2.U} {tb : List (Str × Str)} {H : Hp} {a : Addr} {ns : List Int} (hO : OnlyT (Oh.tabsA K tb) H) (hs : SqL K H a (ns.map V.int)) (hnl : ∀ a o, K.lookup a = some o → o.cls ≠ .type "list") (h2 : ∀ I M : Hp, Tabs (tabsOf K tb) M → O2.at2 K I M [] u) :
    ∃ g, SR K [] (reg g H 3) [] ((none, u) : Option PenS × O2.U) g [0] [] H ∧ Rd (reg g H 1) a (.lst (ns.map V.int)) := by
  classical
  refine ⟨fun b => if b ∈ Oh.tabsA K tb then 2 else 1, ⟨rfl, rfl, ⟨0, rfl, h2 _ _ fun p hp => ?_⟩, fun i d e _ => by simp at e, fun i d e _ => by simp at e⟩, ?_⟩
  · have hm : p.1 ∈ Oh.tabsA K tb := by
      obtain ⟨r, hr, rfl⟩ := List.mem_map.mp hp
      exact List.mem_map_of_mem (f := fun p : Str × Str => tabP K p.1) hr
    exact TabS.nil (reg_at (hO.tab _ hm) (if_pos hm))
  · rcases hs with hs | ⟨o, us, n, h1, h2, _⟩
    · rcases hs with e | ⟨o, e⟩
      · refine .inl (reg_at e (if_neg fun z => ?_))
        rw [hO.tab _ z] at e
        cases e
      · refine .inr ⟨o, reg_at e (if_neg fun z => ?_)⟩
        rw [hO.tab _ z] at e
        cases e
    · exact absurd h2 (hnl a o h1)
end
end Vl
set_option Elab.async false
set_option linter.all false
set_option maxRecDepth 100000
set_option maxHeartbeats 4000000
namespace Ow
open PySem PySem.Spec PyProof.Rows L2
abbrev R : PySem.W.OpenRow := PySem.W.OpenLaw.row PySem.Challenge.rw_onlylooks_k10_static_methods
def top (i : Nat) : Stmt := PySem.Challenge.pw_onlylooks_k10_static_methods.main.body.getD i (.Pass ⟨0, 0, 0, 0⟩)
abbrev s_InvalidRule_init : Stmt := inClass (top 2) 0
abbrev s_is_integer : Stmt := top 8
abbrev s_is_list : Stmt := top 9
abbrev s_is_word : Stmt := top 10
abbrev s_are_words : Stmt := top 11
abbrev s_are_different : Stmt := top 12
abbrev s_checks_of : Stmt := top 14
abbrev s_check_argument : Stmt := top 18
abbrev s_is_pair : Stmt := top 19
abbrev s_are_pairs : Stmt := top 20
abbrev s_firsts_of : Stmt := top 21
abbrev s_seconds_of : Stmt := top 22
abbrev s_is_least : Stmt := top 23
abbrev s_is_most : Stmt := top 24
abbrev s_is_where : Stmt := top 25
abbrev s_kept_where : Stmt := top 26
abbrev s_are_joined : Stmt := top 27
abbrev s_is_where_of : Stmt := top 28
abbrev s_check_is_of : Stmt := top 29
abbrev s_entries : Stmt := top 30
abbrev s_tally : Stmt := top 31
abbrev s_broken_places : Stmt := top 32
abbrev s_Statement_call : Stmt := inClass (top 33) 0
abbrev s_Statement_counts : Stmt := inClass (top 33) 1
abbrev s_Statement_broken : Stmt := inClass (top 33) 2
abbrev s_Rule_init : Stmt := inClass (top 34) 0
abbrev s_Rule_table : Stmt := inClass (top 34) 1
abbrev s_Rule_other : Stmt := inClass (top 34) 2
abbrev s_Rule_pairs : Stmt := inClass (top 34) 3
abbrev s_Rule_least : Stmt := inClass (top 34) 4
abbrev s_Rule_most : Stmt := inClass (top 34) 5
abbrev s_Rule_where : Stmt := inClass (top 34) 6
abbrev s_Rule_other_where : Stmt := inClass (top 34) 7
abbrev s_Rule_key : Stmt := inClass (top 34) 8
abbrev s_Rule_reference : Stmt := inClass (top 34) 9
abbrev s_Rule_at_most : Stmt := inClass (top 34) 10
abbrev s_Rule_exactly : Stmt := inClass (top 34) 11
abbrev s_Rule_none : Stmt := inClass (top 34) 12
abbrev s_Rule_is_of : Stmt := inClass (top 34) 13
abbrev s_Rule_counts : Stmt := inClass (top 34) 14
abbrev s_Rule_broken : Stmt := inClass (top 34) 15
abbrev s_Rule_call : Stmt := inClass (top 34) 16
abbrev s_Rule_eq : Stmt := inClass (top 34) 17
abbrev s_Rule_told : Stmt := inClass (top 34) 18
abbrev s_law_pen : Stmt := top 36
abbrev s_law_draw : Stmt := top 37
abbrev s_law_pick : Stmt := top 38
abbrev s_law_words : Stmt := top 39
abbrev s_law_told : Stmt := top 40
abbrev s_law_keyed : Stmt := top 41
abbrev s_law : Stmt := top 42
def d_InvalidRule_init : He.DefD := ⟨("InvalidRule", some "__init__"), "__init__", "InvalidRule.__init__", defArgs s_InvalidRule_init, defBody s_InvalidRule_init, defScope s_InvalidRule_init, [], []⟩
def d_is_integer : He.DefD := ⟨("is_integer", none), "is_integer", "is_integer", defArgs s_is_integer, defBody s_is_integer, defScope s_is_integer, [], []⟩
def d_is_list : He.DefD := ⟨("is_list", none), "is_list", "is_list", defArgs s_is_list, defBody s_is_list, defScope s_is_list, [], []⟩
def d_is_word : He.DefD := ⟨("is_word", none), "is_word", "is_word", defArgs s_is_word, defBody s_is_word, defScope s_is_word, [], []⟩
def d_are_words : He.DefD := ⟨("are_words", none), "are_words", "are_words", defArgs s_are_words, defBody s_are_words, defScope s_are_words, [], []⟩
def d_are_different : He.DefD := ⟨("are_different", none), "are_different", "are_different", defArgs s_are_different, defBody s_are_different, defScope s_are_different, [], []⟩
def d_checks_of : He.DefD := ⟨("checks_of", none), "checks_of", "checks_of", defArgs s_checks_of, defBody s_checks_of, defScope s_checks_of, [], []⟩
def d_check_argument : He.DefD := ⟨("check_argument", none), "check_argument", "check_argument", defArgs s_check_argument, defBody s_check_argument, defScope s_check_argument, [], []⟩
def d_is_pair : He.DefD := ⟨("is_pair", none), "is_pair", "is_pair", defArgs s_is_pair, defBody s_is_pair, defScope s_is_pair, [], []⟩
def d_are_pairs : He.DefD := ⟨("are_pairs", none), "are_pairs", "are_pairs", defArgs s_are_pairs, defBody s_are_pairs, defScope s_are_pairs, [], []⟩
def d_firsts_of : He.DefD := ⟨("firsts_of", none), "firsts_of", "firsts_of", defArgs s_firsts_of, defBody s_firsts_of, defScope s_firsts_of, [], []⟩
def d_seconds_of : He.DefD := ⟨("seconds_of", none), "seconds_of", "seconds_of", defArgs s_seconds_of, defBody s_seconds_of, defScope s_seconds_of, [], []⟩
def d_is_least : He.DefD := ⟨("is_least", none), "is_least", "is_least", defArgs s_is_least, defBody s_is_least, defScope s_is_least, [], []⟩
def d_is_most : He.DefD := ⟨("is_most", none), "is_most", "is_most", defArgs s_is_most, defBody s_is_most, defScope s_is_most, [], []⟩
def d_is_where : He.DefD := ⟨("is_where", none), "is_where", "is_where", defArgs s_is_where, defBody s_is_where, defScope s_is_where, [], []⟩
def d_kept_where : He.DefD := ⟨("kept_where", none), "kept_where", "kept_where", defArgs s_kept_where, defBody s_kept_where, defScope s_kept_where, [], []⟩
def d_are_joined : He.DefD := ⟨("are_joined", none), "are_joined", "are_joined", defArgs s_are_joined, defBody s_are_joined, defScope s_are_joined, [], []⟩
def d_is_where_of : He.DefD := ⟨("is_where_of", none), "is_where_of", "is_where_of", defArgs s_is_where_of, defBody s_is_where_of, defScope s_is_where_of, [], []⟩
def d_check_is_of : He.DefD := ⟨("check_is_of", none), "check_is_of", "check_is_of", defArgs s_check_is_of, defBody s_check_is_of, defScope s_check_is_of, [], []⟩
def d_entries : He.DefD := ⟨("entries", none), "entries", "entries", defArgs s_entries, defBody s_entries, defScope s_entries, [], []⟩
def d_tally : He.DefD := ⟨("tally", none), "tally", "tally", defArgs s_tally, defBody s_tally, defScope s_tally, [], []⟩
def d_broken_places : He.DefD := ⟨("broken_places", none), "broken_places", "broken_places", defArgs s_broken_places, defBody s_broken_places, defScope s_broken_places, [], []⟩
def d_Statement_call : He.DefD := ⟨("Statement", some "__call__"), "__call__", "Statement.__call__", defArgs s_Statement_call, defBody s_Statement_call, defScope s_Statement_call, [], []⟩
def d_Statement_counts : He.DefD := ⟨("Statement", some "counts"), "counts", "Statement.counts", defArgs s_Statement_counts, defBody s_Statement_counts, defScope s_Statement_counts, [], []⟩
def d_Statement_broken : He.DefD := ⟨("Statement", some "broken"), "broken", "Statement.broken", defArgs s_Statement_broken, defBody s_Statement_broken, defScope s_Statement_broken, [], []⟩
def d_Rule_init : He.DefD := ⟨("Rule", some "__init__"), "__init__", "Rule.__init__", defArgs s_Rule_init, defBody s_Rule_init, defScope s_Rule_init, [], [("where", .non), ("other_where", .non)]⟩
def d_Rule_table : He.DefD := ⟨("Rule", some "table"), "table", "Rule.table", defArgs s_Rule_table, defBody s_Rule_table, defScope s_Rule_table, [], []⟩
def d_Rule_other : He.DefD := ⟨("Rule", some "other"), "other", "Rule.other", defArgs s_Rule_other, defBody s_Rule_other, defScope s_Rule_other, [], []⟩
def d_Rule_pairs : He.DefD := ⟨("Rule", some "pairs"), "pairs", "Rule.pairs", defArgs s_Rule_pairs, defBody s_Rule_pairs, defScope s_Rule_pairs, [], []⟩
def d_Rule_least : He.DefD := ⟨("Rule", some "least"), "least", "Rule.least", defArgs s_Rule_least, defBody s_Rule_least, defScope s_Rule_least, [], []⟩
def d_Rule_most : He.DefD := ⟨("Rule", some "most"), "most", "Rule.most", defArgs s_Rule_most, defBody s_Rule_most, defScope s_Rule_most, [], []⟩
def d_Rule_where : He.DefD := ⟨("Rule", some "where"), "where", "Rule.where", defArgs s_Rule_where, defBody s_Rule_where, defScope s_Rule_where, [], []⟩
def d_Rule_other_where : He.DefD := ⟨("Rule", some "other_where"), "other_where", "Rule.other_where", defArgs s_Rule_other_where, defBody s_Rule_other_where, defScope s_Rule_other_where, [], []⟩
def d_Rule_key : He.DefD := ⟨("Rule", some "key"), "key", "Rule.key", defArgs s_Rule_key, defBody s_Rule_key, defScope s_Rule_key, [], []⟩
def d_Rule_reference : He.DefD := ⟨("Rule", some "reference"), "reference", "Rule.reference", defArgs s_Rule_reference, defBody s_Rule_reference, defScope s_Rule_reference, [], [("where", .non)]⟩
def d_Rule_at_most : He.DefD := ⟨("Rule", some "at_most"), "at_most", "Rule.at_most", defArgs s_Rule_at_most, defBody s_Rule_at_most, defScope s_Rule_at_most, [], [("where", .non), ("other_where", .non)]⟩
def d_Rule_exactly : He.DefD := ⟨("Rule", some "exactly"), "exactly", "Rule.exactly", defArgs s_Rule_exactly, defBody s_Rule_exactly, defScope s_Rule_exactly, [], [("where", .non), ("other_where", .non)]⟩
def d_Rule_none : He.DefD := ⟨("Rule", some "none"), "none", "Rule.none", defArgs s_Rule_none, defBody s_Rule_none, defScope s_Rule_none, [], [("where", .non), ("other_where", .non)]⟩
def d_Rule_is_of : He.DefD := ⟨("Rule", some "is_of"), "is_of", "Rule.is_of", defArgs s_Rule_is_of, defBody s_Rule_is_of, defScope s_Rule_is_of, [], []⟩
def d_Rule_counts : He.DefD := ⟨("Rule", some "counts"), "counts", "Rule.counts", defArgs s_Rule_counts, defBody s_Rule_counts, defScope s_Rule_counts, [], []⟩
def d_Rule_broken : He.DefD := ⟨("Rule", some "broken"), "broken", "Rule.broken", defArgs s_Rule_broken, defBody s_Rule_broken, defScope s_Rule_broken, [], []⟩
def d_Rule_call : He.DefD := ⟨("Rule", some "__call__"), "__call__", "Rule.__call__", defArgs s_Rule_call, defBody s_Rule_call, defScope s_Rule_call, [], []⟩
def d_Rule_eq : He.DefD := ⟨("Rule", some "__eq__"), "__eq__", "Rule.__eq__", defArgs s_Rule_eq, defBody s_Rule_eq, defScope s_Rule_eq, [], []⟩
def d_Rule_told : He.DefD := ⟨("Rule", some "_told"), "_told", "Rule._told", defArgs s_Rule_told, defBody s_Rule_told, defScope s_Rule_told, [], []⟩
def d_law_pen : He.DefD := ⟨("_law_pen", none), "_law_pen", "_law_pen", defArgs s_law_pen, defBody s_law_pen, defScope s_law_pen, [], []⟩
def d_law_draw : He.DefD := ⟨("_law_draw", none), "_law_draw", "_law_draw", defArgs s_law_draw, defBody s_law_draw, defScope s_law_draw, [], []⟩
def d_law_pick : He.DefD := ⟨("_law_pick", none), "_law_pick", "_law_pick", defArgs s_law_pick, defBody s_law_pick, defScope s_law_pick, [], []⟩
def d_law_words : He.DefD := ⟨("_law_words", none), "_law_words", "_law_words", defArgs s_law_words, defBody s_law_words, defScope s_law_words, [], []⟩
def d_law_told : He.DefD := ⟨("_law_told", none), "_law_told", "_law_told", defArgs s_law_told, defBody s_law_told, defScope s_law_told, [], []⟩
def d_law_keyed : He.DefD := ⟨("_law_keyed", none), "_law_keyed", "_law_keyed", defArgs s_law_keyed, defBody s_law_keyed, defScope s_law_keyed, [], []⟩
def d_law : He.DefD := ⟨("law", none), "law", "law", defArgs s_law, defBody s_law, defScope s_law, [], []⟩
def fn0 : List He.DefD := [d_InvalidRule_init, d_is_integer, d_is_list, d_is_word, d_are_words, d_are_different, d_check_argument, d_is_pair, d_are_pairs, d_firsts_of, d_seconds_of, d_is_least, d_is_most, d_is_where, d_kept_where, d_Rule_init, d_Rule_eq, d_Rule_told, d_law_pen, d_law_draw, d_law_pick, d_law_words, d_law_told, d_law_keyed, d_law]
def fn : List He.DefD := fn0
def pr : List Oh.PrD := [⟨"Rule", "key", d_Rule_key, "staticmethod"⟩, ⟨"Rule", "reference", d_Rule_reference, "staticmethod"⟩, ⟨"Rule", "at_most", d_Rule_at_most, "staticmethod"⟩, ⟨"Rule", "exactly", d_Rule_exactly, "staticmethod"⟩, ⟨"Rule", "none", d_Rule_none, "staticmethod"⟩]
def tb : List (Str × Str) := [("law", "law.<locals>.<lambda>")]
def fx : List Oh.Fx := [.glo, .cl "Rule", .ne "Rule", .sub "Rule", .kti "Rule", .kio "Rule" "Rule" true, .exc "InvalidRule" .v, .ini "InvalidRule" "argument", .crd "Rule", .stat "Rule" "key", .stat "Rule" "reference", .stat "Rule" "at_most", .stat "Rule" "exactly", .stat "Rule" "none"]
def fa0 : List He.Fa := [.glo "InvalidRule", .glo "is_integer", .glo "is_list", .glo "is_word", .glo "are_words", .glo "are_different", .glo "check_argument", .glo "is_pair", .glo "are_pairs", .glo "firsts_of", .glo "seconds_of", .glo "is_least", .glo "is_most", .glo "is_where", .glo "kept_where", .glo "Rule", .glo "_law_pen", .glo "_law_draw", .glo "_law_pick", .glo "_law_words", .glo "_law_told", .glo "_law_keyed", .glo "law", .free "abs", .free "all", .free "bool", .free "dict", .free "int", .free "isinstance", .free "len"]
def fa1 : List He.Fa := [.free "list", .free "range", .free "set", .free "sorted", .free "str", .free "tuple", .int "MAX_WORD" 8, .int "MAX_LEAST" 2, .int "MAX_MOST" 3, .int "MAX_PAIRS" 2, .int "MAX_CHOICE" 2, .str "LETTERS" "abcdefghijklmnopqrstuvwxyz", .cls "Rule", .mkr "Rule", .meth "Rule" "_told", .meth "Rule" "__eq__", .noat "Rule" "_table", .noat "Rule" "_other", .noat "Rule" "_pairs", .noat "Rule" "_least", .noat "Rule" "_most", .noat "Rule" "_where", .noat "Rule" "_other_where"]
def fa : List He.Fa := fa0 ++ (fa1)
def noL (K : PySem.W.Frag) : Bool := K.all fun p => decide (p.2.cls ≠ .type "list")
def ex (K : PySem.W.Frag) : Bool := (fx.all fun q => q.ok K) && (Oc.sysB K && noL K)
def ob (s : PySem.W.SharedT) : Oh.AlP := Oh.obsT 6 tb fa fn pr ex (HandSHeadRun.getT s)
abbrev hk : PySem.W.Hook := Oh.hookT 6 tb fa fn pr ex
theorem ob_eq (s : PySem.W.SharedT) : ob s = hk.obs s.abs := Oh.obsT_eq (HandSHeadRun.getT_eq s)
def nm0 : List PySem.Str := ["OtherSchema", "InvalidRule", "MAX_WORD", "MAX_LEAST", "MAX_MOST", "LETTERS", "is_integer", "is_list", "is_word", "are_words", "are_different", "checks_of", "MAX_PAIRS", "MAX_CHOICE", "check_argument", "is_pair", "are_pairs", "firsts_of", "seconds_of", "is_least", "is_most", "is_where", "kept_where", "are_joined", "is_where_of", "check_is_of", "entries", "tally", "broken_places", "Statement"]
def nm1 : List PySem.Str := ["Rule", "_law_pen", "_law_draw", "_law_pick", "_law_words", "_law_told", "_law_keyed"]
def nms : List PySem.Str := nm0 ++ (nm1)
set_option maxHeartbeats 0 in
theorem run (w : World) : HandSHeadRun.RunEq R (PySem.W.view R.prog [42]) hk ob 60000 nms w := by
  intro os
  kernel_rfl
end Ow
set_option Elab.async false
set_option linter.all false
set_option maxRecDepth 100000
set_option maxHeartbeats 4000000
namespace Ow
open PySem PySem.Spec PyProof.Rows L2 Oc
/-- what the walk asks of the written part and the module's names -/
structure Tx (K : PySem.W.Frag) (mg : Str → Option Value) : Prop where
  at_ : ∃ h : Heap, K.In h ∧ h.Ns mainGlobals mg
  says : Oh.SaysP fa fn pr ex K
section
variable {K : PySem.W.Frag} {mg : Str → Option Value}
theorem Tx.glo (T : Tx K mg) (i : Nat) {x : Str} (h : fa[i]? = some (.glo x) := by rfl) : mg x = some (.ref (He.ga K x)) := by
  obtain ⟨h1, X, G⟩ := T.at_
  exact He.glo_ok X G (T.says.d.fact i h)
theorem Tx.free (T : Tx K mg) (i : Nat) {x : Str} (h : fa[i]? = some (.free x) := by rfl) : mg x = none := by
  obtain ⟨h1, X, G⟩ := T.at_
  exact He.free_ok X G (T.says.d.fact i h)
theorem Tx.int_ (T : Tx K mg) (i : Nat) {x : Str} {v : Int} (h : fa[i]? = some (.int x v) := by rfl) : ∃ t, mg x = some (.int v t) := by
  obtain ⟨h1, X, G⟩ := T.at_
  exact He.int_ok X G (T.says.d.fact i h)
theorem Tx.str_ (T : Tx K mg) (i : Nat) {x z : Str} (h : fa[i]? = some (.str x z) := by rfl) : ∃ t, mg x = some (.str z t) := by
  obtain ⟨h1, X, G⟩ := T.at_
  exact He.str_ok X G (T.says.d.fact i h)
theorem Tx.def_ (T : Tx K mg) (i : Nat) {d : He.DefD} (h : fn[i]? = some d := by rfl) : ∃ fd, FunD K d.name d.qual d.params d.body d.scope (d.dvs K) (d.kws K) (He.fAd K d.at_) fd := T.says.d.def_ i h
theorem Tx.more (T : Tx K mg) : ex K = true := (Bool.and_eq_true_iff.mp T.says.more).2
theorem Tx.fx (T : Tx K mg) (i : Nat) {q : Oh.Fx} (h : fx[i]? = some q := by rfl) : q.ok K = true := List.all_eq_true.mp (Bool.and_eq_true_iff.mp T.more).1 q (List.mem_of_getElem? h)
theorem Tx.sys (T : Tx K mg) : sysB K = true := (Bool.and_eq_true_iff.mp (Bool.and_eq_true_iff.mp T.more).2).1
theorem Tx.noL (T : Tx K mg) (a : Addr) (o : Obj) (h : K.lookup a = some o) : o.cls ≠ .type "list" := by
  have z := List.all_eq_true.mp (Bool.and_eq_true_iff.mp (Bool.and_eq_true_iff.mp T.more).2).2 (a, o) (He.lookup_mem h)
  exact of_decide_eq_true z
theorem g_InvalidRule (T : Tx K mg) : mg "InvalidRule" = some (.ref (He.ga K "InvalidRule")) := T.glo 0
theorem g_is_integer (T : Tx K mg) : mg "is_integer" = some (.ref (He.ga K "is_integer")) := T.glo 1
theorem g_is_list (T : Tx K mg) : mg "is_list" = some (.ref (He.ga K "is_list")) := T.glo 2
theorem g_is_word (T : Tx K mg) : mg "is_word" = some (.ref (He.ga K "is_word")) := T.glo 3
theorem g_are_words (T : Tx K mg) : mg "are_words" = some (.ref (He.ga K "are_words")) := T.glo 4
theorem g_are_different (T : Tx K mg) : mg "are_different" = some (.ref (He.ga K "are_different")) := T.glo 5
theorem g_check_argument (T : Tx K mg) : mg "check_argument" = some (.ref (He.ga K "check_argument")) := T.glo 6
theorem g_is_pair (T : Tx K mg) : mg "is_pair" = some (.ref (He.ga K "is_pair")) := T.glo 7
theorem g_are_pairs (T : Tx K mg) : mg "are_pairs" = some (.ref (He.ga K "are_pairs")) := T.glo 8
theorem g_firsts_of (T : Tx K mg) : mg "firsts_of" = some (.ref (He.ga K "firsts_of")) := T.glo 9
theorem g_seconds_of (T : Tx K mg) : mg "seconds_of" = some (.ref (He.ga K "seconds_of")) := T.glo 10
theorem g_is_least (T : Tx K mg) : mg "is_least" = some (.ref (He.ga K "is_least")) := T.glo 11
theorem g_is_most (T : Tx K mg) : mg "is_most" = some (.ref (He.ga K "is_most")) := T.glo 12
theorem g_is_where (T : Tx K mg) : mg "is_where" = some (.ref (He.ga K "is_where")) := T.glo 13
theorem g_kept_where (T : Tx K mg) : mg "kept_where" = some (.ref (He.ga K "kept_where")) := T.glo 14
theorem g_Rule (T : Tx K mg) : mg "Rule" = some (.ref (He.ga K "Rule")) := T.glo 15
theorem g_law_pen (T : Tx K mg) : mg "_law_pen" = some (.ref (He.ga K "_law_pen")) := T.glo 16
theorem g_law_draw (T : Tx K mg) : mg "_law_draw" = some (.ref (He.ga K "_law_draw")) := T.glo 17
theorem g_law_pick (T : Tx K mg) : mg "_law_pick" = some (.ref (He.ga K "_law_pick")) := T.glo 18
theorem g_law_words (T : Tx K mg) : mg "_law_words" = some (.ref (He.ga K "_law_words")) := T.glo 19
theorem g_law_told (T : Tx K mg) : mg "_law_told" = some (.ref (He.ga K "_law_told")) := T.glo 20
theorem g_law_keyed (T : Tx K mg) : mg "_law_keyed" = some (.ref (He.ga K "_law_keyed")) := T.glo 21
theorem g_law (T : Tx K mg) : mg "law" = some (.ref (He.ga K "law")) := T.glo 22
theorem f_abs (T : Tx K mg) : mg "abs" = none := T.free 23
theorem f_all (T : Tx K mg) : mg "all" = none := T.free 24
theorem f_bool (T : Tx K mg) : mg "bool" = none := T.free 25
theorem f_dict (T : Tx K mg) : mg "dict" = none := T.free 26
theorem f_int (T : Tx K mg) : mg "int" = none := T.free 27
theorem f_isinstance (T : Tx K mg) : mg "isinstance" = none := T.free 28
theorem f_len (T : Tx K mg) : mg "len" = none := T.free 29
theorem f_list (T : Tx K mg) : mg "list" = none := T.free 30
theorem f_range (T : Tx K mg) : mg "range" = none := T.free 31
theorem f_set (T : Tx K mg) : mg "set" = none := T.free 32
theorem f_sorted (T : Tx K mg) : mg "sorted" = none := T.free 33
theorem f_str (T : Tx K mg) : mg "str" = none := T.free 34
theorem f_tuple (T : Tx K mg) : mg "tuple" = none := T.free 35
theorem i_MAX_WORD (T : Tx K mg) : ∃ t, mg "MAX_WORD" = some (.int 8 t) := T.int_ 36
theorem i_MAX_LEAST (T : Tx K mg) : ∃ t, mg "MAX_LEAST" = some (.int 2 t) := T.int_ 37
theorem i_MAX_MOST (T : Tx K mg) : ∃ t, mg "MAX_MOST" = some (.int 3 t) := T.int_ 38
theorem i_MAX_PAIRS (T : Tx K mg) : ∃ t, mg "MAX_PAIRS" = some (.int 2 t) := T.int_ 39
theorem i_MAX_CHOICE (T : Tx K mg) : ∃ t, mg "MAX_CHOICE" = some (.int 2 t) := T.int_ 40
theorem t_LETTERS (T : Tx K mg) : ∃ t, mg "LETTERS" = some (.str "abcdefghijklmnopqrstuvwxyz" t) := T.str_ 41
theorem cls_Rule (T : Tx K mg) : Cls K (He.ga K "Rule") := He.cls_ok (T.says.d.fact 42 (f := .cls "Rule") rfl)
theorem mkr_Rule (T : Tx K mg) : Mk K (He.ga K "Rule") (He.ma K (He.ga K "Rule") "__init__") := He.mkr_ok (T.says.d.fact 43 (f := .mkr "Rule") rfl)
theorem meth_Rule_told (T : Tx K mg) : Meth K (He.ga K "Rule") "_told" (He.ma K (He.ga K "Rule") "_told") := He.meth_ok (T.says.d.fact 44 (f := .meth "Rule" "_told") rfl)
theorem meth_Rule_eq (T : Tx K mg) : Meth K (He.ga K "Rule") "__eq__" (He.ma K (He.ga K "Rule") "__eq__") := He.meth_ok (T.says.d.fact 45 (f := .meth "Rule" "__eq__") rfl)
theorem no_Rule_table (T : Tx K mg) : NoAttr K (He.ga K "Rule") "_table" := He.noat_ok (T.says.d.fact 46 (f := .noat "Rule" "_table") rfl)
theorem no_Rule_other (T : Tx K mg) : NoAttr K (He.ga K "Rule") "_other" := He.noat_ok (T.says.d.fact 47 (f := .noat "Rule" "_other") rfl)
theorem no_Rule_pairs (T : Tx K mg) : NoAttr K (He.ga K "Rule") "_pairs" := He.noat_ok (T.says.d.fact 48 (f := .noat "Rule" "_pairs") rfl)
theorem no_Rule_least (T : Tx K mg) : NoAttr K (He.ga K "Rule") "_least" := He.noat_ok (T.says.d.fact 49 (f := .noat "Rule" "_least") rfl)
theorem no_Rule_most (T : Tx K mg) : NoAttr K (He.ga K "Rule") "_most" := He.noat_ok (T.says.d.fact 50 (f := .noat "Rule" "_most") rfl)
theorem no_Rule_where (T : Tx K mg) : NoAttr K (He.ga K "Rule") "_where" := He.noat_ok (T.says.d.fact 51 (f := .noat "Rule" "_where") rfl)
theorem no_Rule_other_where (T : Tx K mg) : NoAttr K (He.ga K "Rule") "_other_where" := He.noat_ok (T.says.d.fact 52 (f := .noat "Rule" "_other_where") rfl)
theorem D_InvalidRule_init (T : Tx K mg) : ∃ fd, FunD K d_InvalidRule_init.name d_InvalidRule_init.qual d_InvalidRule_init.params d_InvalidRule_init.body d_InvalidRule_init.scope [] [] (He.ma K (He.ga K "InvalidRule") "__init__") fd := T.def_ 0 (d := d_InvalidRule_init)
theorem D_is_integer (T : Tx K mg) : ∃ fd, FunD K d_is_integer.name d_is_integer.qual d_is_integer.params d_is_integer.body d_is_integer.scope [] [] (He.ga K "is_integer") fd := T.def_ 1 (d := d_is_integer)
theorem D_is_list (T : Tx K mg) : ∃ fd, FunD K d_is_list.name d_is_list.qual d_is_list.params d_is_list.body d_is_list.scope [] [] (He.ga K "is_list") fd := T.def_ 2 (d := d_is_list)
theorem D_is_word (T : Tx K mg) : ∃ fd, FunD K d_is_word.name d_is_word.qual d_is_word.params d_is_word.body d_is_word.scope [] [] (He.ga K "is_word") fd := T.def_ 3 (d := d_is_word)
theorem D_are_words (T : Tx K mg) : ∃ fd, FunD K d_are_words.name d_are_words.qual d_are_words.params d_are_words.body d_are_words.scope [] [] (He.ga K "are_words") fd := T.def_ 4 (d := d_are_words)
theorem D_are_different (T : Tx K mg) : ∃ fd, FunD K d_are_different.name d_are_different.qual d_are_different.params d_are_different.body d_are_different.scope [] [] (He.ga K "are_different") fd := T.def_ 5 (d := d_are_different)
theorem D_check_argument (T : Tx K mg) : ∃ fd, FunD K d_check_argument.name d_check_argument.qual d_check_argument.params d_check_argument.body d_check_argument.scope [] [] (He.ga K "check_argument") fd := T.def_ 6 (d := d_check_argument)
theorem D_is_pair (T : Tx K mg) : ∃ fd, FunD K d_is_pair.name d_is_pair.qual d_is_pair.params d_is_pair.body d_is_pair.scope [] [] (He.ga K "is_pair") fd := T.def_ 7 (d := d_is_pair)
theorem D_are_pairs (T : Tx K mg) : ∃ fd, FunD K d_are_pairs.name d_are_pairs.qual d_are_pairs.params d_are_pairs.body d_are_pairs.scope [] [] (He.ga K "are_pairs") fd := T.def_ 8 (d := d_are_pairs)
theorem D_firsts_of (T : Tx K mg) : ∃ fd, FunD K d_firsts_of.name d_firsts_of.qual d_firsts_of.params d_firsts_of.body d_firsts_of.scope [] [] (He.ga K "firsts_of") fd := T.def_ 9 (d := d_firsts_of)
theorem D_seconds_of (T : Tx K mg) : ∃ fd, FunD K d_seconds_of.name d_seconds_of.qual d_seconds_of.params d_seconds_of.body d_seconds_of.scope [] [] (He.ga K "seconds_of") fd := T.def_ 10 (d := d_seconds_of)
theorem D_is_least (T : Tx K mg) : ∃ fd, FunD K d_is_least.name d_is_least.qual d_is_least.params d_is_least.body d_is_least.scope [] [] (He.ga K "is_least") fd := T.def_ 11 (d := d_is_least)
theorem D_is_most (T : Tx K mg) : ∃ fd, FunD K d_is_most.name d_is_most.qual d_is_most.params d_is_most.body d_is_most.scope [] [] (He.ga K "is_most") fd := T.def_ 12 (d := d_is_most)
theorem D_is_where (T : Tx K mg) : ∃ fd, FunD K d_is_where.name d_is_where.qual d_is_where.params d_is_where.body d_is_where.scope [] [] (He.ga K "is_where") fd := T.def_ 13 (d := d_is_where)
theorem D_kept_where (T : Tx K mg) : ∃ fd, FunD K d_kept_where.name d_kept_where.qual d_kept_where.params d_kept_where.body d_kept_where.scope [] [] (He.ga K "kept_where") fd := T.def_ 14 (d := d_kept_where)
theorem D_Rule_init (T : Tx K mg) : ∃ fd, FunD K d_Rule_init.name d_Rule_init.qual d_Rule_init.params d_Rule_init.body d_Rule_init.scope [] [("where", V.non), ("other_where", V.non)] (He.ma K (He.ga K "Rule") "__init__") fd := T.def_ 15 (d := d_Rule_init)
theorem D_Rule_eq (T : Tx K mg) : ∃ fd, FunD K d_Rule_eq.name d_Rule_eq.qual d_Rule_eq.params d_Rule_eq.body d_Rule_eq.scope [] [] (He.ma K (He.ga K "Rule") "__eq__") fd := T.def_ 16 (d := d_Rule_eq)
theorem fi_Rule_eq (T : Tx K mg) : PySem.W.fnIn K (He.ma K (He.ga K "Rule") "__eq__") = true := by
  obtain ⟨fd, F⟩ := D_Rule_eq T
  exact Vl.FunD.fnIn F
theorem D_Rule_told (T : Tx K mg) : ∃ fd, FunD K d_Rule_told.name d_Rule_told.qual d_Rule_told.params d_Rule_told.body d_Rule_told.scope [] [] (He.ma K (He.ga K "Rule") "_told") fd := T.def_ 17 (d := d_Rule_told)
theorem D_law_pen (T : Tx K mg) : ∃ fd, FunD K d_law_pen.name d_law_pen.qual d_law_pen.params d_law_pen.body d_law_pen.scope [] [] (He.ga K "_law_pen") fd := T.def_ 18 (d := d_law_pen)
theorem D_law_draw (T : Tx K mg) : ∃ fd, FunD K d_law_draw.name d_law_draw.qual d_law_draw.params d_law_draw.body d_law_draw.scope [] [] (He.ga K "_law_draw") fd := T.def_ 19 (d := d_law_draw)
theorem D_law_pick (T : Tx K mg) : ∃ fd, FunD K d_law_pick.name d_law_pick.qual d_law_pick.params d_law_pick.body d_law_pick.scope [] [] (He.ga K "_law_pick") fd := T.def_ 20 (d := d_law_pick)
theorem D_law_words (T : Tx K mg) : ∃ fd, FunD K d_law_words.name d_law_words.qual d_law_words.params d_law_words.body d_law_words.scope [] [] (He.ga K "_law_words") fd := T.def_ 21 (d := d_law_words)
theorem D_law_told (T : Tx K mg) : ∃ fd, FunD K d_law_told.name d_law_told.qual d_law_told.params d_law_told.body d_law_told.scope [] [] (He.ga K "_law_told") fd := T.def_ 22 (d := d_law_told)
theorem D_law_keyed (T : Tx K mg) : ∃ fd, FunD K d_law_keyed.name d_law_keyed.qual d_law_keyed.params d_law_keyed.body d_law_keyed.scope [] [] (He.ga K "_law_keyed") fd := T.def_ 23 (d := d_law_keyed)
theorem D_law (T : Tx K mg) : ∃ fd, FunD K d_law.name d_law.qual d_law.params d_law.body d_law.scope [] [] (He.ga K "law") fd := T.def_ 24 (d := d_law)
theorem DS_Rule_key (T : Tx K mg) : ∃ fd, FunD K d_Rule_key.name d_Rule_key.qual d_Rule_key.params d_Rule_key.body d_Rule_key.scope [] [] (Oh.psA K "Rule" "key") fd := T.says.get 0 (q := ⟨"Rule", "key", d_Rule_key, "staticmethod"⟩)
theorem DS_Rule_reference (T : Tx K mg) : ∃ fd, FunD K d_Rule_reference.name d_Rule_reference.qual d_Rule_reference.params d_Rule_reference.body d_Rule_reference.scope [] [("where", V.non)] (Oh.psA K "Rule" "reference") fd := T.says.get 1 (q := ⟨"Rule", "reference", d_Rule_reference, "staticmethod"⟩)
theorem DS_Rule_at_most (T : Tx K mg) : ∃ fd, FunD K d_Rule_at_most.name d_Rule_at_most.qual d_Rule_at_most.params d_Rule_at_most.body d_Rule_at_most.scope [] [("where", V.non), ("other_where", V.non)] (Oh.psA K "Rule" "at_most") fd := T.says.get 2 (q := ⟨"Rule", "at_most", d_Rule_at_most, "staticmethod"⟩)
theorem DS_Rule_exactly (T : Tx K mg) : ∃ fd, FunD K d_Rule_exactly.name d_Rule_exactly.qual d_Rule_exactly.params d_Rule_exactly.body d_Rule_exactly.scope [] [("where", V.non), ("other_where", V.non)] (Oh.psA K "Rule" "exactly") fd := T.says.get 3 (q := ⟨"Rule", "exactly", d_Rule_exactly, "staticmethod"⟩)
theorem DS_Rule_none (T : Tx K mg) : ∃ fd, FunD K d_Rule_none.name d_Rule_none.qual d_Rule_none.params d_Rule_none.body d_Rule_none.scope [] [("where", V.non), ("other_where", V.non)] (Oh.psA K "Rule" "none") fd := T.says.get 4 (q := ⟨"Rule", "none", d_Rule_none, "staticmethod"⟩)
theorem isK (T : Tx K mg) : Vl.IsK K := Oh.glo_ok (T.fx 0 (q := .glo))
theorem cc_Rule (T : Tx K mg) : PySem.W.findIn K (.ref (He.ga K "Rule")) "__class__" = some (some (.builtin "object.__class__")) ∧ PySem.W.mroIn K (He.ga K "Rule") (.type "object") = some true := Oh.cl_ok (T.fx 1 (q := .cl "Rule"))
theorem ne_Rule (T : Tx K mg) : PySem.W.findIn K (.ref (He.ga K "Rule")) "__ne__" = some (some (.builtin "object.__ne__")) := He.eqO_ok (T.fx 2 (q := .ne "Rule"))
theorem sub_Rule (T : Tx K mg) : ∀ t ∈ Oh.tys, PySem.W.subIn K (.type t) (.ref (He.ga K "Rule")) = some false := Oh.sub_ok (T.fx 3 (q := .sub "Rule"))
theorem kti_Rule (T : Tx K mg) : Vl.IsTs K "Rule" Oh.tys := Oh.kti_ok (T.fx 4 (q := .kti "Rule"))
theorem kio_Rule_Rule (T : Tx K mg) : PySem.W.kitOne K (.ref (He.ga K "Rule")) (.ref (He.ga K "Rule")) = some true := of_decide_eq_true (T.fx 5 (q := .kio "Rule" "Rule" true))
theorem x_InvalidRule (T : Tx K mg) : Oh.ExcX K "InvalidRule" .v := Oh.exc_ok (T.fx 6)
theorem i1_InvalidRule (T : Tx K mg) : (Oh.iniB K "InvalidRule" && Oh.noB K (He.ga K "InvalidRule") "argument") = true := T.fx 7 (q := .ini "InvalidRule" "argument")
theorem nf_InvalidRule (T : Tx K mg) : PySem.W.findIn K (.ref (He.ga K "InvalidRule")) "argument" = some none := He.eqO_ok (Bool.and_eq_true_iff.mp (i1_InvalidRule T)).2
theorem cr_Rule (T : Tx K mg) : ClX.CRead K (He.ga K "Rule") (.type "type") := Oh.crd_ok (T.fx 8 (q := .crd "Rule"))
theorem st_Rule_key (T : Tx K mg) : Vl.StatM K (He.ga K "Rule") "key" (Oh.psA K "Rule" "key") := Oh.stat_ok (T.fx 9 (q := .stat "Rule" "key"))
theorem st_Rule_reference (T : Tx K mg) : Vl.StatM K (He.ga K "Rule") "reference" (Oh.psA K "Rule" "reference") := Oh.stat_ok (T.fx 10 (q := .stat "Rule" "reference"))
theorem st_Rule_at_most (T : Tx K mg) : Vl.StatM K (He.ga K "Rule") "at_most" (Oh.psA K "Rule" "at_most") := Oh.stat_ok (T.fx 11 (q := .stat "Rule" "at_most"))
theorem st_Rule_exactly (T : Tx K mg) : Vl.StatM K (He.ga K "Rule") "exactly" (Oh.psA K "Rule" "exactly") := Oh.stat_ok (T.fx 12 (q := .stat "Rule" "exactly"))
theorem st_Rule_none (T : Tx K mg) : Vl.StatM K (He.ga K "Rule") "none" (Oh.psA K "Rule" "none") := Oh.stat_ok (T.fx 13 (q := .stat "Rule" "none"))
theorem sx_InvalidRule : FnScope ["self", "argument"] ["self", "argument"] (defScope s_InvalidRule_init) := ⟨rfl, rfl, rfl, by decide +kernel, rfl, by decide +kernel, by decide +kernel⟩
theorem e_InvalidRule {P : Program} {w : World} {base : Heap} (T : Tx K mg) : Ex1 P w K mg base "InvalidRule" "argument" (He.ga K "InvalidRule") (Oh.Bs.nid .v) (Oh.Bs.bm .v) := by
  obtain ⟨fd, F⟩ := D_InvalidRule_init T
  have cl := (x_InvalidRule T).cl
  have h1 := (Bool.and_eq_true_iff.mp (i1_InvalidRule T)).1
  refine ⟨⟨_, fd, ⟨cl, (Oh.ini_ok h1).1, (Oh.ini_ok h1).2, g_InvalidRule T⟩, FunD.ok F sx_InvalidRule (fun vs H Q E h => ?_) (fun cdv A outer s H vs Q E hr h => ?_), F.bindsN fun _ _ _ _ _ _ us hl => match us, hl with | [_, _], _ => rfl, FunD.kbnN F (fun _ _ _ _ _ _ us ws l1 l2 => match us, ws, l1, l2 with | [_], [_], _, _ => rfl) (fun a b => a.append b)⟩, nf_InvalidRule T⟩
  · obtain ⟨a, x, rfl, _⟩ := h
    rfl
  · obtain ⟨a, x, rfl, ha, k⟩ := h
    exact ⟨_, pss_one (ps_ostB (pv 0) (pv 1)), _, rfl, _, rfl, a, _, _, _, rfl, cl, nf_InvalidRule T, .inl ⟨ha, k⟩⟩
end
end Ow
set_option Elab.async false
set_option linter.all false
set_option maxRecDepth 100000
set_option maxHeartbeats 4000000
namespace Vl
open PySem PySem.Spec PyProof.Rows L2 Oc
variable [Ob : Objs]
/-! ### calls with keywords and keyword-only defaults: static methods, classes -/
/-- how the arguments stand in the parameters' order, of values and of trees -/
def VArr (K : PySem.W.Frag) (n m : Nat) (gV : List V → List V → List V) (arr : List D → List D → List D) : Prop :=
  ∀ {I : Hp} {al : List Addr} {vs zs : List V} {ds es : List D}, vs.length = n → zs.length = m → Reps K I al vs ds → Reps K I al zs es → Reps K I al (gV vs zs) (arr ds es)
theorem Reps.reverse {K : PySem.W.Frag} {I : Hp} {al : List Addr} : ∀ {vs : List V} {ds : List D}, Reps K I al vs ds → Reps K I al vs.reverse ds.reverse
  | _, _, .nil => .nil
  | _, _, .cons a t => by
    rw [List.reverse_cons, List.reverse_cons]
    exact (Reps.reverse t).append (Reps.one a)
/-- both lists of arguments, then the def -/
def fSt (n m : Nat) (fl fk : Env → Mo (List D)) (arr : List D → List D → List D) (F : List D → Mo D) : Env → Mo D := fun ρ => bnd (fl ρ) fun xs => bnd (fk ρ) fun ys => grd (decide (xs.length = n) && decide (ys.length = m)) (F (arr xs ys))
/-- C.m may be called so: it does F -/
def StO (P : Program) (w : World) (K : PySem.W.Frag) (mg : Str → Option Value) (base : Heap) (k : Nat) (C m : Str) (n : Nat) (ks : List Str) (F : List D → Mo D) (arr : List D → List D → List D) : Prop :=
  ∃ f fd ps g gV, StatM K (He.ga K C) m f ∧ FnOk P w K mg base (L2.CX P w) k f fd ps (spF K F) ∧ KBn K fd ps n ks g gV ∧ VArr K n ks.length gV arr
/-- C(..) may be called so: it does F -/
def MkO (P : Program) (w : World) (K : PySem.W.Frag) (mg : Str → Option Value) (base : Heap) (k : Nat) (C : Str) (n : Nat) (ks : List Str) (F : List D → Mo D) (arr : List D → List D → List D) : Prop :=
  ∃ f fd ps g gV gW, Mk K (He.ga K C) f ∧ FnOk P w K mg base (L2.CX P w) k f fd ps (spI K C F) ∧ KBn K fd ps (n + 1) ks g gV ∧ (∀ x vs zs, gV (x :: vs) zs = x :: gW vs zs) ∧ VArr K n ks.length gW arr
section
variable {X : Cx} {O : List Nat} {E : XS} {e : Expr} {es : List Expr} {fl fk : Env → Mo (List D)} {pos apos p : Pos} {kws : List Keyword} {k n : Nat} {C m : Str} {ks : List Str} {F : List D → Mo D} {arr : List D → List D → List D}
theorem run_bk {pins : List (Addr × Obj)} {σ : L2.St} {H : Hp} {s : Shared} {Q : L2.VK} {us ws : List Value} {vs zs : List V} {f : Addr} {fd : FuncData} {ps : List Str} {sp : Sp} {g : List Value → List Value → List Value} {gV : List V → List V → List V} (Fn : FnOk X.prog X.w X.K X.mg X.base (L2.CX X.prog X.w) k f fd ps sp) (hr : Room k X.A) (tk : Tk X E)
    (hb : KBn X.K fd ps n ks g gV) (I : Inv X pins σ H s) (r : Vals vs us) (rz : Vals zs ws) (l1 : vs.length = n) (l2 : zs.length = ks.length) (h : sp (gV vs zs) H Q (E σ)) : wpAny (model X.prog X.w) X.A (call (.ref f) us (ks.zip ws)) (EP X pins σ Q) X.xe s := by
  refine wpAny_call (codeAny_mono (Fn.run X.A X.stack s H ⟨us, ks.zip ws⟩ (g us ws) (gV vs zs) Q (E σ) hr I.env0 (hb.to s us ws I.kIn (by rw [← r.length]; exact l1) (by rw [← rz.length]; exact l2)) (hb.rel r rz) h) fun z s' hz => ?_)
  match z, hz with
  | .error e, hz => exact passAt tk σ pins _ _ e s' I hz
  | .ok (.ret u), hz => exact I.after hz
  | .ok .next, hz => exact hz.elim
  | .ok .brk, hz => exact hz.elim
  | .ok .cont, hz => exact hz.elim
/-- what stands behind both lists -/
theorem args2 {T : Hp} {ρ : Env} {S : Objs.T} {g : Addr → Nat} {al : List Addr} {σ : L2.St} {H : Hp} {Q : L2.VK} {R : List V → List V → Hp → Prop} (s : SR X.K O T ρ S g al σ H) (w : Post (RR X.K) X.K O E T ρ σ g al H (fSt n m' fl fk arr F ρ) S Q)
    (h : ∀ us ws xs ys S2 g2 al2 H2, SR X.K O T ρ S2 g2 al2 σ H2 → us.length = n → ws.length = m' → xs.length = n → ys.length = m' → Reps X.K (reg g2 H2 1) al2 us xs → Reps X.K (reg g2 H2 1) al2 ws ys → Post (RR X.K) X.K O E T ρ σ g2 al2 H2 (F (arr xs ys)) S2 Q → R us ws H2) :
    lift (RRs X.K) X.K O E fl σ H fun us H1 => lift (RRs X.K) X.K O E fk σ H1 fun ws H2 => R us ws H2 := by
  refine ⟨T, ρ, S, g, al, s, ?_⟩
  unfold fSt at w
  refine w.bn fun us xs S1 g1 al1 H1 s1 l1 r1 w1 => ⟨T, ρ, S1, g1, al1, s1, w1.bn fun ws ys S2 g2 al2 H2 s2 l2 r2 w2 => ?_⟩
  obtain ⟨c, w3⟩ := w2.gd
  obtain ⟨c1, c2⟩ := Bool.and_eq_true_iff.mp c
  have c1 := of_decide_eq_true c1
  have c2 := of_decide_eq_true c2
  have r1' := Reps.mono l2.s l2.p _ _ r1
  exact h us ws xs ys S2 g2 al2 H2 s2 (r1.len.trans c1) (r2.len.trans c2) c1 c2 r1' r2 w3
/-- C.m(x, .., k = y, ..), m a static method of C -/
theorem ve_stat {pl : Sem Bool} (ok : StO X.prog X.w X.K X.mg X.base k C m n ks F arr) (hc : ClX.CRead X.K (He.ga X.K C) (.type "type")) (hr : Room k X.A) (tk : Tk X E) (hg : Gl X C) (hm : X.mg C = some (.ref (He.ga X.K C))) (ha : VA X O E (e :: es) fl) (hk : VKw X O E kws fk)
    (hall : (backToKw pos (keywordEach kws X.env)).all (·.1.isSome) = true := by rfl) (hks : (backToKw pos (keywordEach kws X.env)).filterMap (·.1) = ks := by rfl) (hdb : (C == ("__debug__" : Str)) = false := by decide)
    (he : starEach (e :: es) X.env = (false, eval e X.env) :: starEach es X.env := by rfl) (hpl : ((backTo pos (starEach (e :: es) X.env)).any (·.1) || (backToKw pos (keywordEach kws X.env)).any (·.1.isNone)) = false := by rfl)
    (hv : eval (.Call (.Attribute (.Name C p) m apos) (e :: es) kws pos) X.env = (eval (.Name C p) X.env >>= fun ov => standAt apos.atName >>= fun _ => holding [ov] (getMethod ov m pl) >>= fun p => callWith pos p.1 p.2 (backTo pos (starEach (e :: es) X.env)) (backToKw pos (keywordEach kws X.env))) := by rfl) :
    VE X O E (.Call (.Attribute (.Name C p) m apos) (e :: es) kws pos) (fSt n ks.length fl fk arr F) := by
  obtain ⟨f, fd, ps, g, gV, sm, Fn, hb, va⟩ := ok
  obtain ⟨q, hat, ⟨rest, hrc⟩, hkp⟩ := sm.ex
  refine ⟨fun pins s σ H Q I ⟨T, ρ, S, g', al, sr, w⟩ => PySem.W.methodCall_KW (pl := pl) (ld_glob I hg hm ?_ hdb) hv⟩
  refine PySem.W.method_cls I.kIn hc.ga (PySem.W.cls_bind I.kIn hc.rd hat (wpAny_call (PySem.W.sm_get (s := { s with toks := s.toks + 1 }) I.kIn hrc (PySem.W.handed_on rfl ?_))))
  have I1 : Inv X pins σ H { s with toks := s.toks + 1 } := I.tok _
  have q := args2 (m' := ks.length) (R := fun us ws H2 => us.length = n ∧ ws.length = ks.length ∧ spF X.K F (gV us ws) H2 Q (E σ)) sr w fun us ws xs ys S2 g2 al2 H2 s2 n1 n2 _ _ r1 r2 w2 => ⟨n1, n2, call_spF s2 (va n1 n2 r1 r2) w2⟩
  refine PySem.W.callWith_KW (first := []) (h₀ := X.base) I1.ok.mod.kin hkp hall (thn (ha.run pos pins _ σ H _ I1 q) fun us s1 ⟨vs, H1, I2, r, q2⟩ => thn (hk.run pos pins s1 σ H1 _ I2 q2) fun ws s2 ⟨zs, H2, I3, rz, l1, l2, q3⟩ => ⟨I3.kIn, ?_⟩) hpl he
  rw [hks]
  exact run_bk Fn hr tk hb I3 r rz l1 l2 q3
theorem run_vinK {pins : List (Addr × Obj)} {σ : L2.St} {H : Hp} {s : Shared} {Q : L2.VK} {us ws : List Value} {vs zs : List V} {c f : Addr} {fd : FuncData} {ps : List Str} {sp : Sp} {g : List Value → List Value → List Value} {gV : List V → List V → List V} (M : Mk X.K c f) (Fn : FnOk X.prog X.w X.K X.mg X.base (L2.CX X.prog X.w) k f fd ps sp) (hr : Room (k + 1) X.A) (tk : Tk X E)
    (hb : KBn X.K fd ps (n + 1) ks g gV) (I : Inv X pins σ H s) (r : Vals vs us) (rz : Vals zs ws) (l1 : vs.length = n) (l2 : zs.length = ks.length)
    (h : ∀ x dx, H x = none → H dx = none → dx ≠ x → sp (gV (V.ref x :: vs) zs) (upd (upd H dx (.own x)) x (.ins c dx [])) (fun v H2 => v = .non ∧ Q (.ref x) H2) (E σ)) : wpAny (model X.prog X.w) X.A (call (.ref c) us (ks.zip ws)) (EP X pins σ Q) X.xe s := by
  let N := s.heap.objs.size
  have q := h (N + 1) N (I.hok.fresh (Nat.le_succ _)) (I.hok.fresh (Nat.le_refl _)) (Nat.ne_of_lt (Nat.lt_succ_self _))
  have J := Inv.made (C := c) I
  have r1 : Vals (V.ref (N + 1) :: vs) (Value.ref (N + 1) :: us) := .cons rfl r
  have n1 : (Value.ref (N + 1) :: us).length = n + 1 := by rw [List.length_cons, ← r.length, l1]
  refine wpAny_call (make_map (f := f) I.kIn M.makes M.init (beq_iff_eq.mp M.fn) (codeAny_mono (Fn.run _ X.stack _ _ ⟨Value.ref (N + 1) :: us, ks.zip ws⟩ (g (Value.ref (N + 1) :: us) ws) (gV (V.ref (N + 1) :: vs) zs) _ (E σ) (hr.make c us (ks.zip ws)) (J.env0.make c us (ks.zip ws)) (hb.to _ _ ws J.kIn n1 (by rw [← rz.length]; exact l2)) (hb.rel r1 rz) q) fun z s' hz => ?_))
  match z, hz with
  | .error e, hz => exact passAt tk σ pins _ _ e s' J hz
  | .ok (.ret u), hz =>
    obtain ⟨v, H', J2, rv, ev, q3⟩ := J.after hz
    subst ev
    exact ⟨rv, ⟨V.ref (N + 1), H', J2, rfl, q3⟩⟩
  | .ok .next, hz => exact hz.elim
  | .ok .brk, hz => exact hz.elim
  | .ok .cont, hz => exact hz.elim
/-- C(x, .., k = y, ..) -/
theorem ve_makeK (ok : MkO X.prog X.w X.K X.mg X.base k C n ks F arr) (hr : Room (k + 1) X.A) (tk : Tk X E) (hg : Gl X C) (hm : X.mg C = some (.ref (He.ga X.K C))) (ha : VA X O E (e :: es) fl) (hk : VKw X O E kws fk)
    (hall : (backToKw pos (keywordEach kws X.env)).all (·.1.isSome) = true := by rfl) (hks : (backToKw pos (keywordEach kws X.env)).filterMap (·.1) = ks := by rfl) (hdb : (C == ("__debug__" : Str)) = false := by decide)
    (he : starEach (e :: es) X.env = (false, eval e X.env) :: starEach es X.env := by rfl) (hpl : ((backTo pos (starEach (e :: es) X.env)).any (·.1) || (backToKw pos (keywordEach kws X.env)).any (·.1.isNone)) = false := by rfl) :
    VE X O E (.Call (.Name C p) (e :: es) kws pos) (fSt n ks.length fl fk arr F) := by
  obtain ⟨f, fd, ps, g, gV, gW, M, Fn, hb, hgv, va⟩ := ok
  refine ⟨fun pins s σ H Q I ⟨T, ρ, S, g', al, sr, w⟩ => wpAny_Call_Name_kw (ld_glob I hg hm ?_ hdb)⟩
  have q := args2 (m' := ks.length) (R := fun us ws H2 => us.length = n ∧ ws.length = ks.length ∧ ∀ x dx, H2 x = none → H2 dx = none → dx ≠ x → spI X.K C F (V.ref x :: gW us ws) (upd (upd H2 dx (.own x)) x (.ins (He.ga X.K C) dx [])) (fun v H3 => v = .non ∧ Q (.ref x) H3) (E σ)) sr w
    fun us ws xs ys S2 g2 al2 H2 s2 n1 n2 _ _ r1 r2 w2 => ⟨n1, n2, fun x dx nx nd ne => make_spI s2 (va n1 n2 r1 r2) w2 nx nd ne⟩
  refine PySem.W.callWith_KW (first := []) (h₀ := X.base) I.ok.mod.kin M.kp hall (thn (ha.run pos pins _ σ H _ I q) fun us s1 ⟨vs, H1, I2, r, q2⟩ => thn (hk.run pos pins s1 σ H1 _ I2 q2) fun ws s2 ⟨zs, H2, I3, rz, l1, l2, q3⟩ => ⟨I3.kIn, ?_⟩) hpl he
  rw [hks]
  refine run_vinK M Fn hr tk hb I3 r rz l1 l2 fun x dx nx nd ne => ?_
  rw [hgv]
  exact q3 x dx nx nd ne
end
end Vl
set_option Elab.async false
set_option linter.all false
set_option maxRecDepth 100000
set_option maxHeartbeats 4000000
namespace Vl
open PySem PySem.Spec PyProof.Rows L2 Oc
variable [Ob : Objs]
/-! ### a static method with *more -/
/-- what is left over behind n arguments becomes a tuple -/
def starF (n : Nat) (F : List D → Mo D) : List D → Mo D := fun xs => grd (decide (n ≤ xs.length) && decide (xs.length ≤ LIM)) (F (xs.take n ++ [.tup (xs.drop n)]))
section
variable {P : Program} {w : World} {K : PySem.W.Frag} {mg : Str → Option Value} {base : Heap}
theorem fn_vstar {x qual : Str} {params : Arguments} {body : List Stmt} {scope : Scope} {f : Addr} {fd : FuncData} {N ps : List Str} {pv : Str} {k : Nat} {O' : List Nat} {m : MoS} (F : FunD K x qual params body scope [] [] f fd) (S : FnScope N (ps ++ [pv]) scope)
    (hb : ∀ (kV doc pm : Value) (an : Option Addr) (cdv ct : Value) (us rest : List Value), us.length = ps.length → bindArgs (PySem.W.fnOf x qual params body scope .none kV doc pm an cdv ct) ⟨us ++ rest, []⟩ = (newTuple rest >>= fun t => pure (ps.zip us ++ [(pv, t)])))
    (hbody : ∀ (cdv : Value) (A : Around) (outer : List PySem.Env) (s : Shared) (H : Hp) (E : XK), Room k (A.deeper (envOfC qual scope s.heap.objs.size f cdv)) →
      VB (cxOf (L2.CX P w) P w K mg base N qual scope f cdv A outer s H E) [] O' [] (XSof E) body m) : FnR P w K mg base (L2.CX P w) (k + 1) f (spF K (starF ps.length (fnM (ps.length + 1) N.length m))) := by
  obtain ⟨oc, od, dV, kV, doc, pm, an, cdv, ct, osl, rfl, lk, hcd, hD, hK⟩ := F.ex
  rcases hD with ⟨_, rfl⟩ | ⟨e, _⟩
  · refine (StX.fn_star (sp := spF K (fnM (ps.length + 1) N.length m)) (CX := L2.CX P w) (k := k) lk hcd S StX.cxUp (hb kV doc pm an cdv ct) (fun A outer s H vs Q E hr h => ?_)).imp fun vs H Q E h => ?_
    · obtain ⟨T, ds, S0, g, al, sr, n4, r, w⟩ := h
      refine ⟨_, hbody cdv A outer s H E hr, T, startD N.length ds, S0, g, al, sr.start r, ?_⟩
      unfold fnM at w
      split at w
      · rw [wp_bnd] at w
        refine wp_mono w (fun rr S1 w1 => ?_) fun C fs S1 q σ' g' al' H' dx s l x => q g' al' H' dx s l x
        obtain ⟨fl, ρ1⟩ := rr
        cases fl with
        | nx => exact fun σ' g' al' H' s' l => w1 .non g' al' H' s'.base l .non
        | rt d => exact fun v g' al' H' s' l r' => w1 v g' al' H' s' l r'
        | bk => exact w1.elim
        | ct => exact w1.elim
      · exact w.elim
    · obtain ⟨T, ds, S0, g, al, sr, n4, r, w⟩ := h
      unfold starF at w
      obtain ⟨c, w⟩ := wp_grd.mp w
      obtain ⟨c1, c2⟩ := Bool.and_eq_true_iff.mp c
      have c1 := of_decide_eq_true c1
      have c2 := of_decide_eq_true c2
      have hl := r.len
      refine ⟨vs.take ps.length, vs.drop ps.length, (List.take_append_drop _ _).symm, by rw [List.length_take]; omega, lim (Nat.le_trans (by rw [List.length_drop]; omega) c2), fun p np => ?_⟩
      have le : Lw g al H (put g p 1) al (upd H p (.tup (vs.drop ps.length))) := (Le.alloc np).w
      refine ⟨T, ds.take ps.length ++ [.tup (ds.drop ps.length)], S0, put g p 1, al, sr.alloc np, fun a => ?_, ?_, wp_mono w (fun d S' k v g' al' H' s' l r' => k v g' al' H' s' (le.trans l) r') fun C fs S' k g' al' H' dx s' l x => k g' al' H' dx s' (le.trans l) x⟩
      · unfold put
        split
        · decide
        · exact n4 a
      · exact (Reps.append ((r.take _).mono le.s List.prefix_rfl) (Reps.one (.tup (.inl (.inl (alloc_at np))) ((r.drop _).mono le.s List.prefix_rfl))))
  · exact absurd rfl e
end
def StR (P : Program) (w : World) (K : PySem.W.Frag) (mg : Str → Option Value) (base : Heap) (k : Nat) (C m : Str) (F : List D → Mo D) : Prop := ∃ f, StatM K (He.ga K C) m f ∧ FnR P w K mg base (L2.CX P w) k f (spF K F)
section
variable {X : Cx} {O : List Nat} {E : XS} {e : Expr} {es : List Expr} {fl : Env → Mo (List D)} {pos apos p : Pos} {k : Nat} {C m : Str} {F : List D → Mo D}
theorem run_fr {pins : List (Addr × Obj)} {σ : L2.St} {H : Hp} {s : Shared} {Q : L2.VK} {us : List Value} {vs : List V} {f : Addr} {sp : Sp} (Fn : FnR X.prog X.w X.K X.mg X.base (L2.CX X.prog X.w) k f sp) (hr : Room k X.A) (tk : Tk X E) (I : Inv X pins σ H s) (r : Vals vs us)
    (h : sp vs H Q (E σ)) : wpAny (model X.prog X.w) X.A (call (.ref f) us []) (EP X pins σ Q) X.xe s := by
  refine wpAny_call (codeAny_mono (Fn X.A X.stack s H us vs Q (E σ) hr I.env0 r h) fun z s' hz => ?_)
  match z, hz with
  | .error e, hz => exact passAt tk σ pins _ _ e s' I hz
  | .ok (.ret u), hz => exact I.after hz
  | .ok .next, hz => exact hz.elim
  | .ok .brk, hz => exact hz.elim
  | .ok .cont, hz => exact hz.elim
/-- C.m(x, ..), m a static method that takes any number -/
theorem ve_statR {pl : Sem Bool} (ok : StR X.prog X.w X.K X.mg X.base k C m F) (hc : ClX.CRead X.K (He.ga X.K C) (.type "type")) (hr : Room k X.A) (tk : Tk X E) (hg : Gl X C) (hm : X.mg C = some (.ref (He.ga X.K C))) (ha : VA X O E (e :: es) fl)
    (hdb : (C == ("__debug__" : Str)) = false := by decide) (he : starEach (e :: es) X.env = (false, eval e X.env) :: starEach es X.env := by rfl) (hpl : (backTo pos (starEach es X.env)).any (·.1) = false := by rfl)
    (hv : eval (.Call (.Attribute (.Name C p) m apos) (e :: es) [] pos) X.env = (eval (.Name C p) X.env >>= fun ov => standAt apos.atName >>= fun _ => holding [ov] (getMethod ov m pl) >>= fun p => callWith pos p.1 p.2 (backTo pos (starEach (e :: es) X.env)) (backToKw pos (keywordEach [] X.env))) := by rfl) :
    VE X O E (.Call (.Attribute (.Name C p) m apos) (e :: es) [] pos) (fN fl F) := by
  obtain ⟨f, sm, Fn⟩ := ok
  obtain ⟨q, hat, ⟨rest, hrc⟩, hkp⟩ := sm.ex
  refine ⟨fun pins s σ H Q I ⟨T, ρ, S, g', al, sr, w⟩ => PySem.W.methodCall_KW (pl := pl) (ld_glob I hg hm ?_ hdb) hv⟩
  refine PySem.W.method_cls I.kIn hc.ga (PySem.W.cls_bind I.kIn hc.rd hat (wpAny_call (PySem.W.sm_get (s := { s with toks := s.toks + 1 }) I.kIn hrc (PySem.W.handed_on rfl ?_))))
  have I1 : Inv X pins σ H { s with toks := s.toks + 1 } := I.tok _
  refine PySem.W.callWith_K (first := []) (h₀ := X.base) I1.ok.mod.kin hkp (thn (ha.run pos pins _ σ H (fun us H2 => spF X.K F us H2 Q (E σ)) I1 ⟨T, ρ, S, g', al, sr, w.bn fun us ds S1 g1 al1 H1 s1 l1 r1 w1 => call_spF s1 r1 w1⟩) fun us s1 ⟨vs, H1, I2, r, q2⟩ => ⟨I2.kIn, ?_⟩) he hpl
  exact run_fr Fn hr tk I2 r q2
end
end Vl
set_option Elab.async false
set_option linter.all false
set_option maxRecDepth 100000
set_option maxHeartbeats 4000000
namespace Vl
open PySem PySem.Spec PyProof.Rows L2 Oc
open LamX (CodeO TabS Tabs TabB LamS lamEnv lamCx)
/-! ### within a lambda's body; where a text's lambdas stand -/
theorem tk_lam {X : Cx} {A : Around} {outer : List PySem.Env} {s : Shared} {H : Hp} {E : XK} {scope : Scope} {f c' : Addr} : Tk (lamCx X A outer s H E scope f c') (XSof E) := takes_of rfl rfl rfl rfl
def sBody (s : Stmt) : List Stmt := match s with
  | .For _ _ b .. => b
  | .While _ b .. => b
  | _ => []
/-- the first lambda that a call in a statement gets: x = f(lambda..), if f(lambda..) != y -/
def sLam (s : Stmt) : Scope := match s with
  | .Assign _ (.Call _ (.Lambda _ _ sc _ :: _) ..) .. => sc
  | .If (.Compare (.Call _ (.Lambda _ _ sc _ :: _) ..) ..) .. => sc
  | _ => { kind := .function, names := [], isGenerator := false, isCoroutine := false }
end Vl
set_option Elab.async false
set_option linter.all false
set_option maxRecDepth 100000
set_option maxHeartbeats 4000000
namespace Vl
open PySem PySem.Spec PyProof.Rows L2 Oc
variable [Ob : Objs]
/-! ### for k in d; sorted(d) of a dict with one key at most -/
/-- a dict is locked while it is walked -/
theorem pe_lockd {X : Cx} {e : Expr} {t : TE} (he : PE X e t) : PE X e (fun σ H Q => t σ H fun x H1 => ∃ a kvs, x = .ref a ∧ ((∃ o, H1 a = some (.frz o (.dK kvs)) ∧ Q x H1) ∨ (H1 a = some (.dK kvs) ∧ ∀ od, Q x (upd H1 a (.frz od (.dK kvs)))))) := by
  refine ⟨fun pins s σ H Q I h => wpAny_mono (he.run pins s σ H _ I h) (fun u s1 ⟨x, H1, I1, rx, a, kvs, ex, q⟩ => ?_) fun _ _ z => z⟩
  rcases q with ⟨o, _, q⟩ | ⟨hd, q⟩
  · exact ⟨x, H1, I1, rx, q⟩
  · obtain ⟨od, I2⟩ := I1.lock hd trivial
    exact ⟨x, _, I2, rx, q od⟩
def keyV : Key → D
  | .inl i => .int i
  | .inr s => .str s
def keysD : D → Option (List D)
  | .dic kvs => some (kvs.map fun p => keyV p.1)
  | _ => none
def iKeyD (fe : Env → Mo D) : Env → Mo (List D) := fun ρ => bnd (fe ρ) fun d => opt (keysD d)
section
variable {K : PySem.W.Frag} {O : List Nat} {T : Hp} {ρ : Env} {S : Objs.T} {g : Addr → Nat} {al : List Addr} {σ : L2.St} {H : Hp} {a : Addr} {kvs : List (Key × V)}
theorem lock_le {od : Obj} (h : reg g H 1 a = some (.dK kvs)) : Le g al H g al (upd H a (.frz od (.dK kvs))) := by
  have t : g a = 1 := reg_tag h
  have e1 : reg g (upd H a (.frz od (.dK kvs))) 1 = upd (reg g H 1) a (.frz od (.dK kvs)) := by
    funext b
    unfold reg
    by_cases hb : b = a
    · rw [hb, if_pos t, upd_same, upd_same]
    · rw [upd_ne hb, upd_ne hb]
  refine ⟨⟨⟨fun b u r => ?_, fun b C dx fs r => ?_⟩, List.prefix_rfl⟩, reg_upd_ne (by rw [t]; decide)⟩
  · rw [e1]
    by_cases hb : b = a
    · subst hb
      rcases r with r | ⟨o, r⟩
      · rw [h] at r
        cases r
        exact .inr ⟨od, upd_same⟩
      · rw [h] at r
        cases r
    · rcases r with r | ⟨o, r⟩
      · exact .inl (by rw [upd_ne hb]; exact r)
      · exact .inr ⟨o, by rw [upd_ne hb]; exact r⟩
  · rw [e1]
    by_cases hb : b = a
    · subst hb
      rw [h] at r
      cases r
    · rw [upd_ne hb]
      exact r
theorem SR.lock {od : Obj} (s : SR K O T ρ S g al σ H) (h : reg g H 1 a = some (.dK kvs)) : SR K O T ρ S g al σ (upd H a (.frz od (.dK kvs))) := by
  have t : g a = 1 := reg_tag h
  have le : Le g al H g al (upd H a (.frz od (.dK kvs))) := lock_le h
  exact s.move le.w (reg_upd_ne (by rw [t]; decide)) le.o (by rw [reg_upd_ne (m := 2) (by rw [t]; decide)]; exact Objs.mono s.ob le.s)
theorem RepKv.at_ {I : Hp} : ∀ {vs : List (Key × V)} {ds : List (Key × D)} {i : Nat} {k : Key} {v : V}, RepKv K I al vs ds → vs[i]? = some (k, v) → ∃ d, ds[i]? = some (k, d)
  | _, _, _, _, _, .nil, e => by simp at e
  | _, _, 0, _, _, .cons _ _, e => by simp at e; obtain ⟨rfl, rfl⟩ := e; exact ⟨_, rfl⟩
  | _, _, i + 1, k, v, .cons _ t, e => by
    obtain ⟨d, h⟩ := RepKv.at_ (i := i) (k := k) (v := v) t (by simpa using e)
    exact ⟨d, by simpa using h⟩
theorem rep_key {I : Hp} (k : Key) : Rep K I al (kV k) (keyV k) := match k with
  | .inl i => .int i
  | .inr s => .str s
theorem wk_keys {o : Obj} {ds : List (Key × D)} (h : reg g H 1 a = some (.frz o (.dK kvs))) (r : RepKv K (reg g H 1) al kvs ds) : Wk K (Itk a o kvs) (ds.map fun p => keyV p.1) g al H := by
  have old : ∀ g' al' H', Lw g al H g' al' H' → Rd (reg g' H' 1) a (.dK kvs) ∧ Rd (reg g' H' 1) a (.frz o (.dK kvs)) := fun g' al' H' l => ⟨l.s.rd _ _ (.inr ⟨o, h⟩), l.s.rd _ _ (.inl h)⟩
  have at_ : ∀ g' al' H', Lw g al H g' al' H' → H' a = some (.frz o (.dK kvs)) := fun g' al' H' l => by
    obtain ⟨x, y⟩ := old g' al' H' l
    rcases y with y | ⟨o2, y⟩
    · exact reg_le _ _ y
    · rcases x with x | ⟨o3, x⟩
      · rw [x] at y; cases y
      · rw [x] at y; cases y
  have hl : (ds.map fun p => keyV p.1).length = kvs.length := by rw [List.length_map, r.len]
  refine ⟨fun g' al' H' i l hi => ⟨at_ g' al' H' l, by rw [hl] at hi; exact hi⟩, fun g' al' H' l => ⟨at_ g' al' H' l, by rw [hl]; exact Nat.le_refl _⟩, fun g' al' H' i x H2 l hi y => .inl ?_⟩
  obtain ⟨e, k, v, q, rfl⟩ := y
  obtain ⟨d, hd⟩ := r.at_ q
  exact ⟨e, keyV k, by rw [List.getElem?_map, hd]; rfl, rep_key k⟩
end
section
variable {X : Cx} {O : List Nat} {E : XS} {tg e : Expr} {fe : Env → Mo D}
theorem vi_keys (he : VE X O E e fe) : VI X O E tg e (iKeyD fe) := PI.weak (pi_keys (pe_lockd he)) fun σ H R h => liftI_bn h fun v d T ρ S g al H s r w => by
  obtain ⟨ds, e, w⟩ := wp_opt.mp w
  unfold keysD at e
  split at e
  · cases e
    cases r with | dic a b =>
    rename_i kvs p vs
    rcases a with a | ⟨o, a⟩
    · refine ⟨_, _, rfl, .inr ⟨reg_le _ _ a, fun od => ⟨_, od, rfl, .inl ⟨vs, upd_same, ?_⟩⟩⟩⟩
      have le : Le g al H g al (upd H p (.frz od (.dK vs))) := lock_le a
      exact w g al _ _ (s.lock a) le (wk_keys (reg_at upd_same (reg_tag a)) (b.mono le.s le.p))
    · exact ⟨_, _, rfl, .inl ⟨o, reg_le _ _ a, _, o, rfl, .inl ⟨vs, reg_le _ _ a, w g al H _ s .refl (wk_keys a b)⟩⟩⟩
  · cases e
theorem keys_eq {K : PySem.W.Frag} {I : Hp} {al : List Addr} : ∀ {vs : List (Key × V)} {ds : List (Key × D)}, RepKv K I al vs ds → vs.map (·.1) = ds.map (·.1)
  | _, _, .nil => rfl
  | _, _, .cons _ t => by rw [List.map_cons, List.map_cons, keys_eq t]
theorem Reps.flat {K : PySem.W.Frag} {I : Hp} {al : List Addr} {vs : List V} {ds : List D} (r : Reps K I al vs ds) : ∀ n : Nat, Reps K I al (List.replicate n vs).flatten (List.replicate n ds).flatten
  | 0 => .nil
  | n + 1 => by
    rw [List.replicate_succ, List.replicate_succ, List.flatten_cons, List.flatten_cons]
    exact r.append (Reps.flat r n)
/-- [x, ..] * n -/
def kRep (n : Int) (ds : List D) : Mo D := grd (decide (ds.length ≤ 1000) && (decide (0 ≤ n) && decide (n ≤ 100))) (ret (.lst (List.replicate n.toNat ds).flatten))
theorem ve_rep {es : List Expr} {fl : Env → Mo (List D)} {n : Int} {k : _} {p1 p2 pos : Pos} (h : VA X O E es fl) : VE X O E (.BinOp (.List es p1) .Mult (.Constant (.int n) k p2) pos) (fN fl (kRep n)) :=
  PE.weak (pe_op op_rep (pe_lst h) pe_int) fun σ H Q h => liftA (r := fun us H Q => us.length ≤ sizeLine ∧ ∀ p, H p = none → rRep (.ref p) (.int n) (upd H p (.lst us)) Q) (fun us xs T ρ S g al σ H Q s r w => by
    obtain ⟨c, w⟩ := w.gd
    simp only [Bool.and_eq_true, decide_eq_true_eq] at c
    obtain ⟨c1, c2, c3⟩ := c
    have hl := r.len
    refine ⟨by rw [hl]; exact Nat.le_of_lt (small1000 c1), fun p np => ⟨p, n, us, rfl, rfl, upd_same, by omega, by omega, lim ?_, fun q nq => ?_⟩⟩
    · rw [hl]
      have h1 : n.toNat ≤ 100 := by omega
      exact Nat.le_trans (Nat.mul_le_mul c1 h1) (by decide)
    · have r2 := r.mono (Le.alloc (al := al) (o := .lst us) np).s List.prefix_rfl
      have s2 := s.alloc (o := .lst us) np
      exact w.rt (s2.alloc nq) rfl ((Le.alloc np).trans (Le.alloc nq)) (.lst (.inl (alloc_at nq)) ((Reps.flat r2 n.toNat).mono (Le.alloc (al := al) nq).s List.prefix_rfl))) h
/-- a, b, .. = a list of that length -/
def gLs (n : Nat) (t : List D → Env → Option Env) : D → Env → Option Env := fun d ρ => match d with
  | .lst ds => if ds.length = n then t ds ρ else none
  | _ => none
theorem vg_lst {ts : List Nat} {es : List Expr} {k : Nat} {t : List D → Env → Option Env} {n : Nat} {pos : Pos} (hc : X.calm = true) (h : VGs X O ts es t) (hn : (assignEach es X.env).length = n := by rfl) (hst : (assignEach es X.env).findIdx? (·.1) = none := by rfl) :
    VG X O ts (.Tuple es k pos) (gLs n t) := PG.weak (pg_lst hc h hn hst) fun v σ H Q ⟨T, ρ, S, g, al, d, ρ', s, r, e, k⟩ => by
  unfold gLs at e
  split at e
  · next ds =>
    cases r with
    | lst a b =>
      split at e
      · next hl => exact ⟨_, _, rfl, .inl (rd_reg a), by rw [b.len]; exact hl, T, ρ, S, g, al, ds, ρ', s, b, e, k⟩
      · cases e
  · cases e
/-- sorted(d), one key at most -/
def kSortK : List D → Mo D
  | [.dic []] => ret (.lst [])
  | [.dic [(.inr s, _)]] => ret (.lst [.str s])
  | _ => nop
def rSortK : List V → Hp → L2.VK → Prop := fun xs H Q => ∃ (a : Addr) (kvs : List (Key × V)) (ks : List Str), xs = [.ref a] ∧ Rd H a (.dK kvs) ∧ kvs.map (·.1) = ks.map Sum.inr ∧ ks.length < 64 ∧
    ∀ ys p, ys.Perm ks → sortedS ys = true → H p = none → Q (.ref p) (upd H p (.lst (ys.map V.str)))
theorem reps_str {K : PySem.W.Frag} {I : Hp} {al : List Addr} : ∀ ss : List Str, Reps K I al (ss.map V.str) (ss.map D.str)
  | [] => .nil
  | s :: ss => .cons (.str s) (reps_str ss)
theorem by_sortK : ByN X O E rSortK kSortK := fun us xs T ρ S g al σ H Q s r w => by
  have key : ∀ (ks : List Str) (kvs : List (Key × D)), xs = [.dic kvs] → kvs.map (·.1) = ks.map Sum.inr → ks.length ≤ 1 → Post (RR X.K) X.K O E T ρ σ g al H (ret (.lst (ks.map D.str))) S Q → rSortK us H Q := fun ks kvs ex ek hl ew => by
    subst ex
    obtain ⟨v, rfl, r1⟩ := r.one
    obtain ⟨p, vs, rfl, a, b⟩ := r1.dic
    have e2 : vs.map (·.1) = kvs.map (·.1) := keys_eq b
    refine ⟨p, vs, ks, rfl, a, e2.trans ek, by omega, fun ys q pm _ np => ?_⟩
    have ey : ys = ks := by
      match ks, hl, pm with
      | [], _, pm => exact List.Perm.eq_nil pm
      | [z], _, pm => exact List.perm_singleton.mp pm
    subst ey
    exact ew.rt (s.alloc np) rfl (Le.alloc np) (.lst (.inl (alloc_at np)) (reps_str ys))
  unfold kSortK at w
  split at w
  · exact key [] [] rfl rfl (by decide) w
  · next z x => exact key [z] [(.inr z, x)] rfl rfl (Nat.le_refl _) w
  · exact w.elim
end
end Vl
set_option Elab.async false
set_option linter.all false
set_option maxRecDepth 100000
set_option maxHeartbeats 4000000
namespace Lw
open PySem PySem.Spec PyProof.Rows L2 Oc Os Vl
@[reducible] instance insO : Objs2 := tabO [("law", "law.<locals>.<lambda>")]
def hvA (fs : List (Str × D)) : Option D := (fs.lookup ("argument" : Str)).map fun x0 => x0
noncomputable def m_is_integer : MoS := (sRet (fAn (f1 (fVar 0) (kIsT ["int"])) (fNt (f1 (fVar 0) (kIsT ["bool"])))))
noncomputable def F_is_integer := fnM 1 1 m_is_integer
noncomputable def m_is_list : MoS := (sRet (f1 (fVar 0) (kIsT ["list", "tuple"])))
noncomputable def F_is_list := fnM 1 1 m_is_list
noncomputable def m_is_word : MoS := (sThen (sIf (tO (tNt (ft (f1 (fVar 0) (kIsT ["str"])))) (tNt (fun ρ => bnd ((fCh (fC (.int 1)) (fN (fCons (fVar 0) fNil) kLen) (fC (.int 8)) kLe kLe) ρ) kBl))) (sRet (fC (.bl false))) sNx)
  (sRet (f2 (fStrip (fVar 0) (fC (.str "abcdefghijklmnopqrstuvwxyz"))) (fC (.str "")) kEqT)))
noncomputable def F_is_word := fnM 1 1 m_is_word
noncomputable def m_are_different : MoS := (sRet (f2 (f1 (fVar 0) kDiff) (fN (fCons (fVar 0) fNil) kLen) kEq))
noncomputable def F_are_different := fnM 1 1 m_are_different
noncomputable def m_check_argument : MoS := (sIf (tNt (ft (fVar 0))) (sRaise1 "InvalidRule" "argument" (fVar 1)) sNx)
noncomputable def F_check_argument := fnM 2 2 m_check_argument
noncomputable def m_is_pair : MoS := (sThen (sIf (tO (tNt (ft (f1 (fVar 0) (kIsT ["tuple"])))) (fun ρ => bnd (f2 (fN (fCons (fVar 0) fNil) kLen) (fC (.int 2)) kNe ρ) kBl)) (sRet (fC (.bl false))) sNx)
  (sRet (fAn (fN (fCons (f2 (fVar 0) (fC (.int 0)) kGet) fNil) F_is_word) (fN (fCons (f2 (fVar 0) (fC (.int 1)) kGet) fNil) F_is_word))))
noncomputable def F_is_pair := fnM 1 1 m_is_pair
noncomputable def m_firsts_of : MoS := (sRet (fLc (iAny (fVar 0)) (gTp 2 (gCn (gN 1) (gCn (gN 2) gNl))) (fun _ => ret true) (fVar 1) [1, 2]))
noncomputable def F_firsts_of := fnM 1 3 m_firsts_of
noncomputable def m_seconds_of : MoS := (sRet (fLc (iAny (fVar 0)) (gTp 2 (gCn (gN 1) (gCn (gN 2) gNl))) (fun _ => ret true) (fVar 2) [1, 2]))
noncomputable def F_seconds_of := fnM 1 3 m_seconds_of
noncomputable def m_is_least : MoS := (sRet (fAn (fN (fCons (fVar 0) fNil) F_is_integer) (fCh (fC (.int 0)) (fVar 0) (fC (.int 2)) kLe kLe)))
noncomputable def F_is_least := fnM 1 1 m_is_least
noncomputable def m_is_most : MoS := (sThen (sIf (fun ρ => bnd (f2 (fVar 0) (fC .non) kIsN ρ) kBl) (sRet (f2 (fVar 1) (fC (.int 0)) kGt)) sNx)
  (sRet (fAn (fN (fCons (fVar 0) fNil) F_is_integer) (fCh (fVar 1) (fVar 0) (fC (.int 3)) kLe kLe))))
noncomputable def F_is_most := fnM 2 2 m_is_most
noncomputable def m_kept_where : MoS := (sThen (sIf (fun ρ => bnd (f2 (fVar 0) (fC .non) kIsN ρ) kBl) (sRet (fC (.dic []))) sNx)
  (sRet (fDc (iAny (fN (fCons (fVar 0) fNil) kSortK)) (gN 1) (fun _ => ret true) (fVar 1) (fN (fCons (fN (fCons (f2 (fVar 0) (fVar 1) kGet) fNil) kSort) fNil) kTuple) [1])))
noncomputable def F_kept_where := fnM 1 2 m_kept_where
noncomputable def m_Rule_told : MoS := (sRet (fN (fCons (f1 (fVar 0) (kAttr "_table" (("Rule", AtK.fld) :: []))) (fCons (f1 (fVar 0) (kAttr "_other" (("Rule", AtK.fld) :: []))) (fCons (f1 (fVar 0) (kAttr "_pairs" (("Rule", AtK.fld) :: []))) (fCons (f1 (fVar 0) (kAttr "_least" (("Rule", AtK.fld) :: []))) (fCons (f1 (fVar 0) (kAttr "_most" (("Rule", AtK.fld) :: []))) (fCons (f1 (fVar 0) (kAttr "_where" (("Rule", AtK.fld) :: []))) (fCons (f1 (fVar 0) (kAttr "_other_where" (("Rule", AtK.fld) :: []))) fNil))))))) kTup))
noncomputable def F_Rule_told := fnM 1 1 m_Rule_told
noncomputable def m_law_pen : MoS := (sRet (fPen (fPs (fC (.str "cells")) (fN (fCons (fSl (fVar 0) (fun _ => ret none) (fun ρ => bnd ((fC (.int 63)) ρ) kOi)) fNil) kList) (fPs (fC (.str "turn")) (fC (.int 0)) (fPs (fC (.str "left")) (fC (.int 0)) (fun _ => ret []))))))
noncomputable def F_law_pen := fnM 1 1 m_law_pen
noncomputable def m_law_draw : MoS := (sThen (sIf (fun ρ => bnd (f2 (f2 (fVar 0) (fC (.str "left")) kGet) (fC (.int 0)) kGt ρ) kBl) (sThen (sSet 2 (f2 (fN (fCons (f2 (fVar 0) (fC (.str "left")) kGet) fNil) kInt1) (fVar 1) kMod))
  (sThen (sPput (fVar 0) (fC (.str "left")) (f2 (f2 (fVar 0) (fC (.str "left")) kGet) (fVar 1) kDiv))
  (sRet (fVar 2)))) sNx)
  (sThen (sSet 3 (f2 (fVar 0) (fC (.str "turn")) kGet))
  (sThen (sPput (fVar 0) (fC (.str "turn")) (f2 (fVar 3) (fC (.int 1)) kAdd))
  (sThen (sSet 4 (f2 (f2 (fC (.int 43)) (fVar 3) kMulS) (fC (.int 19)) kAdd))
  (sThen (sIf (fun ρ => bnd (f2 (f2 (fVar 0) (fC (.str "cells")) kGet) (fN fNil kLst) kNe ρ) kBl) (sSet 4 (f2 (f2 (fVar 0) (fC (.str "cells")) kGet) (f2 (fN (fCons (fVar 3) fNil) kInt1) (fN (fCons (f2 (fVar 0) (fC (.str "cells")) kGet) fNil) kLen) kMod) kGet)) sNx)
  (sThen (sIf (tAn (fun ρ => bnd (f2 (fVar 3) (fN (fCons (f2 (fVar 0) (fC (.str "cells")) kGet) fNil) kLen) kLt ρ) kBl) (fun ρ => bnd (f2 (fN (fCons (fVar 4) fNil) kAbs) (f2 (fC (.int 10)) (fC (.int 18)) kPow) kGe ρ) kBl)) (sThen (sPput (fVar 0) (fC (.str "left")) (f2 (f2 (fN (fCons (fVar 4) fNil) kAbs) (f2 (fC (.int 10)) (fC (.int 18)) kPow) kSub) (fVar 1) kDiv))
  (sRet (f2 (fN (fCons (f2 (fN (fCons (fVar 4) fNil) kAbs) (f2 (fC (.int 10)) (fC (.int 18)) kPow) kSub) fNil) kInt1) (fVar 1) kMod))) sNx)
  (sThen (sSet 5 (fN (fCons (fC (.int 2147483629)) (fCons (fC (.int 2147483647)) (fCons (fC (.int 2147483587)) (fCons (fC (.int 2147483563)) (fCons (fC (.int 2147483579)) fNil))))) kLst))
  (sThen (sSet 6 (f2 (fVar 5) (f2 (fN (fCons (fVar 3) fNil) kInt1) (fC (.int 5)) kMod) kGet))
  (sThen (sSet 7 (f2 (fN (fCons (f2 (f2 (f2 (f2 (fN (fCons (fVar 4) fNil) kInt1) (fVar 6) kMod) (fC (.int 39373)) kMulS) (f2 (fVar 3) (f2 (f2 (fC (.int 30011)) (fVar 3) kMulS) (fC (.int 8117)) kAdd) kMulS) kAdd) (fC (.int 23)) kAdd) fNil) kInt1) (fVar 6) kMod))
  (sThen (sSet 7 (f2 (fN (fCons (f2 (fVar 7) (f2 (fVar 7) (fC (.int 69621)) kAdd) kMulS) fNil) kInt1) (f2 (fVar 5) (f2 (fN (fCons (f2 (fVar 3) (fC (.int 2)) kAdd) fNil) kInt1) (fC (.int 5)) kMod) kGet) kMod))
  (sRet (f2 (fN (fCons (f2 (f2 (fN (fCons (f2 (f2 (f2 (fVar 7) (fVar 7) kMulS) (f2 (fC (.int 16807)) (fVar 7) kMulS) kAdd) (fVar 3) kAdd) fNil) kInt1) (fC (.int 2147483549)) kMod) (fC (.int 64)) kDiv) fNil) kInt1) (fVar 1) kMod))))))))))))
noncomputable def F_law_draw := fnM 2 8 m_law_draw
noncomputable def m_law_pick : MoS := (sRet (f2 (fVar 1) (fN (fCons (fVar 0) (fCons (fN (fCons (fVar 1) fNil) kLen) fNil)) F_law_draw) kGet))
noncomputable def F_law_pick := fnM 2 2 m_law_pick
noncomputable def m_law_words : MoS := (sThen (sSet 2 (fC (.str "abcdefghijklmnopqrstuvwxyz")))
  (sThen (sSet 3 (fJoin (fC (.str "")) (fLc (fun ρ => bnd ((fCons (fN (fCons (fVar 0) (fCons (fC (.int 5)) fNil)) F_law_draw) fNil) ρ) fun xs => opt (rg1 xs)) (gN 8) (fun _ => ret true) (fN (fCons (fVar 0) (fCons (fVar 2) fNil)) F_law_pick) [8])))
  (sThen (sAsg (fN (fCons (fN (fCons (fVar 0) (fCons (f2 (fN (fCons (fVar 3) fNil) kLen) (fC (.int 1)) kAdd) fNil)) F_law_draw) (fCons (fN (fCons (fVar 0) (fCons (fC (.int 26)) fNil)) F_law_draw) (fCons (fN (fCons (fVar 0) (fCons (fN (fCons (fC (.int 1)) (fCons (fC (.int 3)) (fCons (fC (.int 5)) (fCons (fC (.int 7)) (fCons (fC (.int 9)) (fCons (fC (.int 11)) fNil)))))) kLst) fNil)) F_law_pick) fNil))) kTup) (gTp 3 (gCn (gN 4) (gCn (gN 5) (gCn (gN 6) gNl)))))
  (sThen (sSet 7 (fLc (fun ρ => bnd ((fCons (fVar 1) fNil) ρ) fun xs => opt (rg1 xs)) (gN 8) (fun _ => ret true) (f2 (f2 (fSl (fVar 3) (fun _ => ret none) (fun ρ => bnd ((fVar 4) ρ) kOi)) (f2 (fVar 2) (f2 (fN (fCons (f2 (fVar 5) (f2 (fVar 6) (fVar 8) kMulS) kAdd) fNil) kInt1) (fC (.int 26)) kMod) kGet) kAdd) (fSl (fVar 3) (fun ρ => bnd ((fVar 4) ρ) kOi) (fun _ => ret none)) kAdd) [8]))
  (sRet (fLc (fun ρ => bnd ((fCons (fVar 1) fNil) ρ) fun xs => opt (rg1 xs)) (gN 8) (fun _ => ret true) (f2 (f2 (fVar 7) (fVar 8) kGet) (f2 (fC (.str "q")) (fN (fCons (f2 (f2 (fN (fCons (fVar 8) fNil) kInt1) (fC (.int 3)) kMod) (fC (.int 2)) kEq) fNil) kInt1) kMulS) kAdd) [8]))))))
noncomputable def F_law_words := fnM 2 9 m_law_words
noncomputable def m_are_words : MoS := (sThen (sIf (tO (tNt (ft (fN (fCons (fVar 0) fNil) F_is_list))) (tNt (fun ρ => bnd ((fCh (fVar 1) (fN (fCons (fVar 0) fNil) kLen) (fVar 2) kLe kLe) ρ) kBl))) (sRet (fC (.bl false))) sNx)
  (sRet (fAn (fN (fCons (fLc (iAny (fVar 0)) (gN 3) (fun _ => ret true) (fN (fCons (fVar 3) fNil) F_is_word) [3]) fNil) kAll) (fN (fCons (fVar 0) fNil) F_are_different))))
noncomputable def F_are_words := fnM 3 4 m_are_words
noncomputable def m_are_pairs : MoS := (sThen (sIf (tO (tNt (ft (fN (fCons (fVar 0) fNil) F_is_list))) (fun ρ => bnd (f2 (fN (fCons (fVar 0) fNil) kLen) (fC (.int 2)) kGt ρ) kBl)) (sRet (fC (.bl false))) sNx)
  (sThen (sIf (tNt (ft (fN (fCons (fLc (iAny (fVar 0)) (gN 1) (fun _ => ret true) (fN (fCons (fVar 1) fNil) F_is_pair) [1]) fNil) kAll))) (sRet (fC (.bl false))) sNx)
  (sRet (fAn (fN (fCons (fN (fCons (fVar 0) fNil) F_firsts_of) fNil) F_are_different) (fN (fCons (fN (fCons (fVar 0) fNil) F_seconds_of) fNil) F_are_different)))))
noncomputable def F_are_pairs := fnM 1 2 m_are_pairs
noncomputable def m_is_where : MoS := (sThen (sIf (fun ρ => bnd (f2 (fVar 0) (fC .non) kIsN ρ) kBl) (sRet (fC (.bl true))) sNx)
  (sThen (sIf (tNt (ft (f1 (fVar 0) (kIsT ["dict"])))) (sRet (fC (.bl false))) sNx)
  (sRet (fN (fCons (fLc (iKeyD (fVar 0)) (gN 1) (fun _ => ret true) (fAn (fN (fCons (fVar 1) fNil) F_is_word) (fN (fCons (f2 (fVar 0) (fVar 1) kGet) (fCons (fC (.int 1)) (fCons (fC (.int 2)) fNil))) F_are_words)) [1]) fNil) kAll))))
noncomputable def F_is_where := fnM 1 2 m_is_where
noncomputable def m_Rule_init : MoS := (sThen (sDrop (fN (fCons (fN (fCons (fVar 1) fNil) F_is_word) (fCons (fC (.str "table")) fNil)) F_check_argument))
  (sThen (sDrop (fN (fCons (fN (fCons (fVar 2) fNil) F_is_word) (fCons (fC (.str "other")) fNil)) F_check_argument))
  (sThen (sDrop (fN (fCons (fN (fCons (fVar 3) fNil) F_are_pairs) (fCons (fC (.str "pairs")) fNil)) F_check_argument))
  (sThen (sDrop (fN (fCons (fN (fCons (fVar 4) fNil) F_is_least) (fCons (fC (.str "least")) fNil)) F_check_argument))
  (sThen (sDrop (fN (fCons (fN (fCons (fVar 5) (fCons (fVar 4) fNil)) F_is_most) (fCons (fC (.str "most")) fNil)) F_check_argument))
  (sThen (sDrop (fN (fCons (fN (fCons (fVar 6) fNil) F_is_where) (fCons (fC (.str "where")) fNil)) F_check_argument))
  (sThen (sDrop (fN (fCons (fN (fCons (fVar 7) fNil) F_is_where) (fCons (fC (.str "other_where")) fNil)) F_check_argument))
  (sThen (sFldS 0 "_table" ["Rule"] (fVar 1))
  (sThen (sFldS 0 "_other" ["Rule"] (fVar 2))
  (sThen (sFldS 0 "_pairs" ["Rule"] (fN (fCons (fLc (iAny (fVar 3)) (gTp 2 (gCn (gN 8) (gCn (gN 9) gNl))) (fun _ => ret true) (fN (fCons (fVar 8) (fCons (fVar 9) fNil)) kTup) [8, 9]) fNil) kTuple))
  (sThen (sFldS 0 "_least" ["Rule"] (fVar 4))
  (sThen (sFldS 0 "_most" ["Rule"] (fVar 5))
  (sThen (sFldS 0 "_where" ["Rule"] (fN (fCons (fVar 6) fNil) F_kept_where))
  (sFldS 0 "_other_where" ["Rule"] (fN (fCons (fVar 7) fNil) F_kept_where)))))))))))))))
noncomputable def F_Rule_init : List D → Mo D := fnI "Rule" 8 10 m_Rule_init
noncomputable def m_Rule_key : MoS := (sRet (fSt 5 0 (fCons (fVar 0) (fCons (fVar 0) (fCons (fLc (iAny (fVar 1)) (gN 2) (fun _ => ret true) (fN (fCons (fVar 2) (fCons (fVar 2) fNil)) kTup) [2]) (fCons (fC (.int 0)) (fCons (fC (.int 1)) fNil))))) fNil (fun xs ys => xs ++ [.non, .non]) F_Rule_init))
noncomputable def F_Rule_key : List D → Mo D := starF 1 (fnM 2 3 m_Rule_key)
noncomputable def m_Rule_reference : MoS := (sRet (fSt 5 1 (fCons (fVar 0) (fCons (fVar 1) (fCons (fVar 2) (fCons (fC (.int 1)) (fCons (fC .non) fNil))))) (fCons (fVar 3) fNil) (fun xs ys => xs ++ (ys ++ [.non])) F_Rule_init))
noncomputable def F_Rule_reference := fnM 4 4 m_Rule_reference
noncomputable def m_Rule_at_most : MoS := (sRet (fSt 5 2 (fCons (fVar 0) (fCons (fVar 1) (fCons (fVar 2) (fCons (fC (.int 0)) (fCons (fVar 3) fNil))))) (fCons (fVar 4) (fCons (fVar 5) fNil)) (fun xs ys => xs ++ ys) F_Rule_init))
noncomputable def F_Rule_at_most := fnM 6 6 m_Rule_at_most
noncomputable def m_Rule_exactly : MoS := (sRet (fSt 5 2 (fCons (fVar 0) (fCons (fVar 1) (fCons (fVar 2) (fCons (fVar 3) (fCons (fVar 3) fNil))))) (fCons (fVar 4) (fCons (fVar 5) fNil)) (fun xs ys => xs ++ ys) F_Rule_init))
noncomputable def F_Rule_exactly := fnM 6 6 m_Rule_exactly
noncomputable def m_Rule_none : MoS := (sRet (fSt 5 2 (fCons (fVar 0) (fCons (fVar 1) (fCons (fVar 2) (fCons (fC (.int 0)) (fCons (fC (.int 0)) fNil))))) (fCons (fVar 3) (fCons (fVar 4) fNil)) (fun xs ys => xs ++ ys) F_Rule_init))
noncomputable def F_Rule_none := fnM 5 5 m_Rule_none
noncomputable def m_Rule_eq : MoS := (sRet (fAn (f1 (fVar 1) (kIsO (("Rule", true) :: []) Oh.tys)) (f2 (fMt "_told" (("Rule", F_Rule_told) :: []) (fVar 0) fNil) (fMt "_told" (("Rule", F_Rule_told) :: []) (fVar 1) fNil) kEqN)))
noncomputable def F_Rule_eq := fnM 2 2 m_Rule_eq
noncomputable def m_law_keyed : MoS := (sThen (sIf (fun ρ => bnd (f2 (fN (fCons (fVar 1) fNil) kLen) (fC (.int 2)) kLt ρ) kBl) (sRet (fIf (fun ρ => bnd (f2 (fVar 1) (fN fNil kLst) kEq ρ) kBl) (fN (fCons (fVar 0) fNil) F_Rule_key) (fN (fCons (fVar 0) (fCons (f2 (fVar 1) (fC (.int 0)) kGet) fNil)) F_Rule_key))) sNx)
  (sThen (sIf (fun ρ => bnd (f2 (fN (fCons (fVar 1) fNil) kLen) (fC (.int 2)) kEq ρ) kBl) (sRet (fN (fCons (fVar 0) (fCons (f2 (fVar 1) (fC (.int 0)) kGet) (fCons (f2 (fVar 1) (fC (.int 1)) kGet) fNil))) F_Rule_key)) sNx)
  (sRet (fN (fCons (fVar 0) (fCons (f2 (fVar 1) (fC (.int 0)) kGet) (fCons (f2 (fVar 1) (fC (.int 1)) kGet) (fCons (f2 (fVar 1) (fC (.int 2)) kGet) fNil)))) F_Rule_key))))
noncomputable def F_law_keyed := fnM 2 2 m_law_keyed
noncomputable def m_law : MoS := (sThen (sSet 1 (fN (fCons (fVar 0) fNil) F_law_pen))
  (sThen (sFor (fun ρ => bnd ((fCons (fC (.int 15)) fNil) ρ) fun xs => opt (rg1 xs)) (gN 2) (sThen (sSet 3 (fN (fCons (fVar 1) (fCons (fC (.int 9)) fNil)) F_law_words))
  (sThen (sAsg (fN (fCons (fN (fCons (fVar 1) (fCons (fN (fCons (f2 (fVar 3) (fC (.int 0)) kGet) (fCons (f2 (fVar 3) (fC (.int 0)) kGet) (fCons (fC (.str "A")) fNil))) kLst) fNil)) F_law_pick) (fCons (fN (fCons (fVar 1) (fCons (fN (fCons (f2 (fVar 3) (fC (.int 0)) kGet) (fCons (f2 (fVar 3) (fC (.int 1)) kGet) (fCons (f2 (fVar 3) (fC (.int 2)) kGet) (fCons (fC (.str "")) fNil)))) kLst) fNil)) F_law_pick) fNil)) kTup) (gTp 2 (gCn (gN 4) (gCn (gN 5) gNl))))
  (sThen (sSet 6 (fN (fCons (fVar 1) (fCons (fN (fCons (fSl (fVar 3) (fun ρ => bnd ((fC (.int 3)) ρ) kOi) (fun ρ => bnd ((fC (.int 4)) ρ) kOi)) (fCons (fSl (fVar 3) (fun ρ => bnd ((fC (.int 3)) ρ) kOi) (fun ρ => bnd ((fC (.int 5)) ρ) kOi)) (fCons (fN fNil kLst) (fCons (fSl (fVar 3) (fun ρ => bnd ((fC (.int 3)) ρ) kOi) (fun ρ => bnd ((fC (.int 6)) ρ) kOi)) (fCons (fN (fCons (f2 (fVar 3) (fC (.int 3)) kGet) fNil) (kRep 2)) (fCons (fN (fCons (fC (.int 1)) fNil) kLst) fNil)))))) kLst) fNil)) F_law_pick))
  (sThen (sSet 7 (fun ρ => mCatch id "InvalidRule" hvA ((fSt 5 0 (fCons (fVar 4) (fCons (fVar 4) (fCons (fLc (iAny (fVar 6)) (gN 13) (fun _ => ret true) (fN (fCons (fVar 13) (fCons (fVar 13) fNil)) kTup) [13]) (fCons (fC (.int 0)) (fCons (fC (.int 1)) fNil))))) fNil (fun xs ys => xs ++ [.non, .non]) F_Rule_init) ρ)))
  (sThen (sIf (fun ρ => bnd (f2 (fun ρ => mCatch id "InvalidRule" hvA ((fN (fCons (fVar 4) (fCons (fVar 6) fNil)) F_law_keyed) ρ)) (fVar 7) (fun x y => nox (kNeO [("Rule", F_Rule_eq)] Oh.tys x y)) ρ) kBl) (sRet (fC (.bl false))) sNx)
  (sThen (sSet 8 (fLc (fun ρ => bnd ((fCons (fN (fCons (fVar 1) (fCons (fC (.int 4)) fNil)) F_law_draw) fNil) ρ) fun xs => opt (rg1 xs)) (gN 12) (fun _ => ret true) (fN (fCons (f2 (fVar 3) (f2 (fC (.int 3)) (fVar 12) kAdd) kGet) (fCons (f2 (fVar 3) (f2 (fC (.int 5)) (fVar 12) kAdd) kGet) fNil)) kTup) [12]))
  (sThen (sAsg (fLc (fun ρ => bnd ((fCons (fC (.int 2)) fNil) ρ) fun xs => opt (rg1 xs)) (gN 12) (fun _ => ret true) (fN (fCons (fVar 1) (fCons (fN (fCons (fC .non) (fCons (fC (.dic [])) (fCons (fDisp (fPs (f2 (fVar 3) (fC (.int 7)) kGet) (fSl (fVar 3) (fun _ => ret none) (fun ρ => bnd ((fC (.int 2)) ρ) kOi)) (fun _ => ret []))) (fCons (fDisp (fPs (f2 (fVar 3) (fC (.int 8)) kGet) (fSl (fVar 3) (fun _ => ret none) (fun ρ => bnd ((fC (.int 3)) ρ) kOi)) (fun _ => ret []))) fNil)))) kLst) fNil)) F_law_pick) [12]) (gLs 2 (gCn (gN 9) (gCn (gN 10) gNl))))
  (sThen (sSet 11 (fN (fCons (fVar 1) (fCons (fN (fCons (fC (.int 0)) (fCons (fC (.int 1)) (fCons (fC (.int 2)) (fCons (fC (.int 3)) (fCons (fC (.int 4)) (fCons (fC .non) (fCons (fC (.bl true)) fNil))))))) kLst) fNil)) F_law_pick))
  (sThen (sSet 7 (fun ρ => mCatch id "InvalidRule" hvA ((fSt 5 1 (fCons (fVar 4) (fCons (fVar 5) (fCons (fVar 8) (fCons (fC (.int 1)) (fCons (fC .non) fNil))))) (fCons (fVar 9) fNil) (fun xs ys => xs ++ (ys ++ [.non])) F_Rule_init) ρ)))
  (sThen (sIf (fun ρ => bnd (f2 (fun ρ => mCatch id "InvalidRule" hvA ((fSt 3 1 (fCons (fVar 4) (fCons (fVar 5) (fCons (fN (fCons (fVar 8) fNil) kTuple) fNil))) (fCons (fVar 9) fNil) (fun xs ys => xs ++ ys) F_Rule_reference) ρ)) (fVar 7) (fun x y => nox (kNeO [("Rule", F_Rule_eq)] Oh.tys x y)) ρ) kBl) (sRet (fC (.bl false))) sNx)
  (sThen (sSet 7 (fun ρ => mCatch id "InvalidRule" hvA ((fSt 5 2 (fCons (fVar 4) (fCons (fVar 5) (fCons (fVar 8) (fCons (fC (.int 0)) (fCons (fVar 11) fNil))))) (fCons (fVar 9) (fCons (fVar 10) fNil)) (fun xs ys => xs ++ ys) F_Rule_init) ρ)))
  (sThen (sIf (fun ρ => bnd (f2 (fun ρ => mCatch id "InvalidRule" hvA ((fSt 4 2 (fCons (fVar 4) (fCons (fVar 5) (fCons (fVar 8) (fCons (fVar 11) fNil)))) (fCons (fVar 9) (fCons (fVar 10) fNil)) (fun xs ys => xs ++ ys) F_Rule_at_most) ρ)) (fVar 7) (fun x y => nox (kNeO [("Rule", F_Rule_eq)] Oh.tys x y)) ρ) kBl) (sRet (fC (.bl false))) sNx)
  (sThen (sSet 7 (fun ρ => mCatch id "InvalidRule" hvA ((fSt 5 2 (fCons (fVar 4) (fCons (fVar 5) (fCons (fVar 8) (fCons (fVar 11) (fCons (fVar 11) fNil))))) (fCons (fVar 9) (fCons (fVar 10) fNil)) (fun xs ys => xs ++ ys) F_Rule_init) ρ)))
  (sThen (sIf (fun ρ => bnd (f2 (fun ρ => mCatch id "InvalidRule" hvA ((fSt 4 2 (fCons (fVar 4) (fCons (fVar 5) (fCons (fVar 8) (fCons (fVar 11) fNil)))) (fCons (fVar 10) (fCons (fVar 9) fNil)) (fun xs ys => xs ++ ys.reverse) F_Rule_exactly) ρ)) (fVar 7) (fun x y => nox (kNeO [("Rule", F_Rule_eq)] Oh.tys x y)) ρ) kBl) (sRet (fC (.bl false))) sNx)
  (sThen (sSet 7 (fun ρ => mCatch id "InvalidRule" hvA ((fSt 5 2 (fCons (fVar 4) (fCons (fVar 5) (fCons (fVar 8) (fCons (fC (.int 0)) (fCons (fC (.int 0)) fNil))))) (fCons (fVar 9) (fCons (fVar 10) fNil)) (fun xs ys => xs ++ ys) F_Rule_init) ρ)))
  (sIf (fun ρ => bnd (f2 (fun ρ => mCatch id "InvalidRule" hvA ((fSt 3 2 (fCons (fVar 4) (fCons (fVar 5) (fCons (fVar 8) fNil))) (fCons (fVar 9) (fCons (fVar 10) fNil)) (fun xs ys => xs ++ ys) F_Rule_none) ρ)) (fVar 7) (fun x y => nox (kNeO [("Rule", F_Rule_eq)] Oh.tys x y)) ρ) kBl) (sRet (fC (.bl false))) sNx)))))))))))))))))
  (sRet (fC (.bl true)))))
end Lw
set_option Elab.async false
set_option linter.all false
set_option maxRecDepth 100000
set_option maxHeartbeats 4000000
namespace Lw
open PySem PySem.Spec PyProof.Rows L2 Oc Os Vl
local macro_rules | `(tactic| walk_at "go") => `(tactic| (with_reducible repeat first | refine g_c6 ?_ | refine g_l ?_ | refine g_m ?_ | refine g_n ?_ | refine g_o ?_ | refine g_p ?_ | refine g_q ?_ | refine g_r ?_ | refine g_s ?_ | refine g_t ?_ | refine g_u ?_ | refine g_v ?_ | refine g_c7 ?_ | refine g_d ?_ | refine g_a ?_ | refine g_w ?_ | refine g_x (by with_unfolding_all exact rfl) ?_ | refine g_y ?_ | refine g_z (by with_unfolding_all exact rfl) ?_ | refine g_aa ?_ | refine g_ab ?_ | refine g_ac ?_ | refine g_ad (by with_unfolding_all exact rfl) ?_ | refine g_ae (by with_unfolding_all exact rfl) ?_ | refine g_af (by with_unfolding_all exact rfl) ?_ | refine g_ag ?_ | refine g_ah ?_ | refine g_ai ?_ | refine g_b (by with_unfolding_all exact rfl) ?_ | refine g_aj ?_ | refine g_ak ?_ | refine g_al ?_ | refine g_am ?_ | refine g_an ?_ | refine g_ao ?_ | refine g_ap ?_ | refine g_aq ?_ | refine g_ar ?_ | refine g_as ?_ | refine g_at ?_ | refine g_au ?_ | refine g_av ?_ | refine g_aw ?_ | refine g_ax ?_ | refine g_ay ?_ | refine g_az (by with_unfolding_all exact rfl) ?_ | refine g_a0 ?_ | refine g_a1 ?_ | refine g_a2 ?_ | refine g_a3 ?_ | refine g_a4 ?_ | refine g_a5 ?_ | refine g_a6 ?_ | refine g_a7 ?_ | refine g_a8 ?_ | refine g_a9 ?_ | refine g_ba ?_ | refine g_bb ?_ | refine g_bc ?_ | refine g_bd ?_ | refine g_e (by with_unfolding_all exact rfl) ?_ | refine g_f (by with_unfolding_all exact rfl) ?_ | refine g_be ?_ | refine g_bg (by with_unfolding_all exact rfl) ?_ | refine g_bf (by with_unfolding_all exact rfl) ?_ | refine g_bh ?_ | refine g_bi ?_ | refine g_bj ?_ | refine g_bk ?_ | refine g_bl ?_ | refine g_bm ?_ | refine g_bn ?_ | refine g_bo ?_ | refine g_bp ?_ | refine g_bq ?_ | refine g_br ?_ | refine g_bs ?_ | refine g_bt ?_ | refine g_bu ?_ | refine g_bv ?_ | refine g_bw ?_ | refine g_bx ?_ | refine g_by ?_ | refine g_bz ?_ | refine g_b0 ?_ | refine g_b1 ?_ | refine g_b2 ?_ | refine g_b3 ?_ | refine g_b4 ?_ | refine g_b5 ?_ | refine g_b6 ?_ | refine g_b7 ?_ | refine g_b8 ?_ | refine g_b9 ?_ | refine g_ca ?_ | refine g_cb ?_ | refine g_cc ?_ | refine g_cd ?_ | refine g_ce ?_ | refine g_i ?_ | refine g_j ?_ | refine g_cf ?_ | refine g_cg ?_ | refine g_ch ?_ | refine g_ci ?_ | refine g_cj ?_ | refine g_ck ?_ | refine g_cl ?_ | refine g_cm ?_ | refine g_cn ?_ | refine g_co ?_ | refine g_cp ?_ | refine g_cq ?_ | refine g_cr ?_ | refine g_cs ?_ | refine g_ct ?_ | refine g_cu ?_ | refine g_cv ?_ | refine g_cw ?_ | refine g_cx ?_ | refine g_cy ?_ | refine g_h ?_ | refine g_cz ?_ | refine g_c0 ?_ | refine g_c1 ?_ | refine g_c2 ?_ | refine g_c3 ?_ | refine g_c4 ?_ | refine g_k (by with_unfolding_all exact rfl) ?_ | refine g_c5 ?_))
local macro_rules | `(tactic| walk_at "gx") => `(tactic| (with_reducible repeat first | refine g_c6 ?_ | refine g_l ?_ | refine g_m ?_ | refine g_n ?_ | refine g_o ?_ | refine g_p ?_ | refine g_q ?_ | refine g_r ?_ | refine g_s ?_ | refine g_t ?_ | refine g_u ?_ | refine g_v ?_ | refine g_d ?_ | refine g_a ?_ | refine g_w ?_ | refine g_x (by with_unfolding_all exact rfl) ?_ | refine g_y ?_ | refine g_z (by with_unfolding_all exact rfl) ?_ | refine g_aa ?_ | refine g_ab ?_ | refine g_ac ?_ | refine g_ad (by with_unfolding_all exact rfl) ?_ | refine g_ae (by with_unfolding_all exact rfl) ?_ | refine g_af (by with_unfolding_all exact rfl) ?_ | refine g_ag ?_ | refine g_ah ?_ | refine g_ai ?_ | refine g_b (by with_unfolding_all exact rfl) ?_ | refine g_aj ?_ | refine g_ak ?_ | refine g_al ?_ | refine g_am ?_ | refine g_an ?_ | refine g_ao ?_ | refine g_ap ?_ | refine g_aq ?_ | refine g_ar ?_ | refine g_as ?_ | refine g_at ?_ | refine g_au ?_ | refine g_av ?_ | refine g_aw ?_ | refine g_ax ?_ | refine g_ay ?_ | refine g_az (by with_unfolding_all exact rfl) ?_ | refine g_a0 ?_ | refine g_a1 ?_ | refine g_a2 ?_ | refine g_a3 ?_ | refine g_a4 ?_ | refine g_a5 ?_ | refine g_a6 ?_ | refine g_a7 ?_ | refine g_a8 ?_ | refine g_a9 ?_ | refine g_ba ?_ | refine g_bb ?_ | refine g_bc ?_ | refine g_bd ?_ | refine g_e (by with_unfolding_all exact rfl) ?_ | refine g_f (by with_unfolding_all exact rfl) ?_ | refine g_be ?_ | refine g_bg (by with_unfolding_all exact rfl) ?_ | refine g_bf (by with_unfolding_all exact rfl) ?_ | refine g_bh ?_ | refine g_bi ?_ | refine g_bj ?_ | refine g_bk ?_ | refine g_bl ?_ | refine g_bm ?_ | refine g_bn ?_ | refine g_bo ?_ | refine g_bp ?_ | refine g_bq ?_ | refine g_br ?_ | refine g_bs ?_ | refine g_bt ?_ | refine g_bu ?_ | refine g_bv ?_ | refine g_bw ?_ | refine g_bx ?_ | refine g_by ?_ | refine g_bz ?_ | refine g_b0 ?_ | refine g_b1 ?_ | refine g_b2 ?_ | refine g_b3 ?_ | refine g_b4 ?_ | refine g_b5 ?_ | refine g_b6 ?_ | refine g_b7 ?_ | refine g_b8 ?_ | refine g_b9 ?_ | refine g_ca ?_ | refine g_cb ?_ | refine g_cc ?_ | refine g_cd ?_ | refine g_ce ?_ | refine g_i ?_ | refine g_j ?_ | refine g_cf ?_ | refine g_cg ?_ | refine g_ch ?_ | refine g_ci ?_ | refine g_cj ?_ | refine g_ck ?_ | refine g_cl ?_ | refine g_cm ?_ | refine g_cn ?_ | refine g_co ?_ | refine g_cp ?_ | refine g_cq ?_ | refine g_cr ?_ | refine g_cs ?_ | refine g_ct ?_ | refine g_cu ?_ | refine g_cv ?_ | refine g_cw ?_ | refine g_cx ?_ | refine g_cy ?_ | refine g_h ?_ | refine g_cz ?_ | refine g_c0 ?_ | refine g_c1 ?_ | refine g_c2 ?_ | refine g_c3 ?_ | refine g_c4 ?_ | refine g_k (by with_unfolding_all exact rfl) ?_ | refine g_c5 ?_))
structure Pn (n : Nat) (S : Option PenS × Unit) : Prop where
  ex : ∃ st : PenS, S = (some st, ()) ∧ st.cells.length ≤ 63 ∧ 0 ≤ st.left ∧ 0 ≤ st.turn ∧ st.turn ≤ n
theorem Pn.mono {n m : Nat} {S : Option PenS × Unit} (h : Pn n S) (l : n ≤ m) : Pn m S := by
  obtain ⟨st, e, h1, h2, h3, h4⟩ := h.ex
  exact ⟨st, e, h1, h2, h3, by omega⟩
theorem mod_nat {i : Int} {k : Nat} (h : 0 < k) : ∃ j : Nat, i % (k : Int) = (j : Int) ∧ j < k := by
  have h1 := Int.emod_nonneg i (by omega : (k : Int) ≠ 0)
  have h2 := Int.emod_lt_of_pos i (by omega : (0 : Int) < k)
  exact ⟨(i % (k : Int)).toNat, by omega, by omega⟩
theorem mod_in {i j : Int} (h : 0 < j) (h1 : j < 4294967296) : -(2 ^ 64) < i % j ∧ i % j < 2 ^ 64 := by
  have h2 := Int.emod_nonneg i (by omega : j ≠ 0)
  have h3 := Int.emod_lt_of_pos i h
  constructor <;> omega
def primes : List D := [.int 2147483629, .int 2147483647, .int 2147483587, .int 2147483563, .int 2147483579]
theorem prime_at (i : Int) : ∃ z : Int, atI primes (i % 5) = some (.int z) ∧ 0 < z ∧ z < 4294967296 := by
  obtain ⟨j, ej, hj⟩ := mod_nat (i := i) (k := 5) (by decide)
  have e : i % 5 = (j : Int) := ej
  rw [e]
  match j, hj with
  | 0, _ => exact ⟨_, rfl, by decide, by decide⟩
  | 1, _ => exact ⟨_, rfl, by decide, by decide⟩
  | 2, _ => exact ⟨_, rfl, by decide, by decide⟩
  | 3, _ => exact ⟨_, rfl, by decide, by decide⟩
  | 4, _ => exact ⟨_, rfl, by decide, by decide⟩
theorem toQ_ints : ∀ ns : List Int, toQ (ns.map D.int) = some (ns.map PyData.int)
  | [] => rfl
  | n :: ns => by
    show (match toE (.int n), toQ (ns.map D.int) with | some e, some es => some (e :: es) | _, _ => none) = _
    rw [toQ_ints ns]
    rfl
theorem at_ints {ns : List Int} {i : Int} (h0 : 0 < ns.length) : ∃ z : Int, atI (ns.map D.int) (i % (ns.length : Int)) = some (.int z) := by
  obtain ⟨j, ej, hj⟩ := mod_nat (i := i) (k := ns.length) h0
  rw [ej]
  unfold L2.atI L2.ixN
  rw [if_pos (by omega), List.length_map, if_pos (by omega)]
  refine ⟨ns[j], ?_⟩
  show (ns.map D.int)[((j : Int)).toNat]? = _
  rw [Int.toNat_natCast, List.getElem?_map, List.getElem?_eq_getElem hj]
  rfl
theorem sm_int (i : Int) : Sm (.int i) := ⟨rfl, by simp [PyData.depth]⟩
theorem shaped_ints (ns : List Int) : SeqAt.shaped (.list (ns.map PyData.int)) = true := shaped_list fun d hd => by
  obtain ⟨i, _, rfl⟩ := List.mem_map.mp hd
  exact sm_int i
theorem toE_ints (ns : List Int) : toE (.lst (ns.map D.int)) = some (.list (ns.map PyData.int)) := by
  show (toQ (ns.map D.int)).map PyData.list = _
  rw [toQ_ints]
  rfl
theorem ne_ints (ns : List Int) : PyData.eqv (.list (ns.map PyData.int)) (.list []) = decide (ns = []) := by
  cases ns with
  | nil => exact eqv_nil_nil
  | cons n ns => exact eqv_cons_nil _ _
theorem draw_ok {E : Ex} {n k : Nat} {S : Option PenS × Unit} (h : Pn n S) (hn : n < 1099511627776) (h0 : 0 < k) (h1 : k < 1073741824) : wp (F_law_draw [.hnd 0, .int k]) (fun d S' => ∃ j : Nat, d = .int j ∧ j < k ∧ Pn (n + 1) S') E S := by
  obtain ⟨st, rfl, hc, hl, ht, htn⟩ := h.ex
  have hk : (0 : Int) < k := by omega
  have hk2 : (k : Int) < 1073741824 := by omega
  unfold F_law_draw
  refine g_c rfl ?_
  unfold m_law_draw
  walk_at "go"
  refine g_dw (fun hp => ?_) fun hp => ?_
  · walk_at "go"
    refine g_do hk ?_
    walk_at "go"
    refine g_d1 hk hk2 ?_
    walk_at "go"
    obtain ⟨j, ej, hj⟩ := mod_nat (i := st.left) h0
    exact ⟨j, congrArg D.int ej, hj, _, rfl, hc, Int.ediv_nonneg hl (by omega), ht, by simp only; omega⟩
  · walk_at "gx"
    refine g_dp (by decide) (by decide) ?_
    walk_at "gx"
    refine wp_mono (Q := fun r S1 => ∃ cell : Int, r = (.nx, (List.set (startD 8 [D.hnd 0, D.int ↑k]) 3 (some (D.int st.turn))).set 4 (some (D.int cell))) ∧ S1 = (some { st with turn := st.turn + 1 }, ())) ?_ ?_ fun _ _ _ q => q
    · walk_at "go"
      refine g_dc (by decide) ?_
      walk_at "go"
      refine g_dx (toE_ints _) (show toE (.lst []) = some (.list []) from rfl) (shaped_ints _) (by decide) ?_
      rw [ne_ints]
      walk_at "go"
      refine g_dy (fun z => ?_) fun z => ?_
      · walk_at "go"
        have hl : 0 < st.cells.length := by
          cases hcs : st.cells with
          | nil => simp [hcs] at z
          | cons c cs => simp
        refine g_do (by rw [List.length_map]; exact Int.natCast_pos.mpr hl) ?_
        walk_at "go"
        rw [List.length_map]
        obtain ⟨c, ec⟩ := at_ints (i := st.turn) hl
        refine g_g ec ?_
        walk_at "go"
        exact ⟨c, by rw [List.set_set], rfl⟩
      · walk_at "go"
        exact ⟨_, rfl, rfl⟩
    · rintro _ _ ⟨cell, rfl, rfl⟩
      walk_at "gx"
      refine wp_mono (Q := fun (r : Fl × Vl.Env) S1 => (r = (.nx, (List.set (startD 8 [D.hnd 0, D.int ↑k]) 3 (some (D.int st.turn))).set 4 (some (D.int cell))) ∧ S1 = (some { st with turn := st.turn + 1 }, ())) ∨ ∃ (j : Nat) (ρ : Vl.Env), r = (.rt (.int j), ρ) ∧ j < k ∧ Pn (n + 1) S1) ?_ ?_ fun _ _ _ q => q
      · walk_at "go"
        have out : ∀ z : Bool, z = false → (if z = true then False else True) := fun z h => by rw [h]; trivial
        refine g_en (fun z => ?_) fun z => ?_
        · walk_at "go"
          refine g_d2 (by decide) (by decide) (by decide) ?_
          walk_at "go"
          refine g_dw (fun hp => ?_) fun hp => ?_
          · walk_at "go"
            refine g_d2 (by decide) (by decide) (by decide) ?_
            walk_at "go"
            refine g_d1 hk hk2 ?_
            walk_at "go"
            refine g_d2 (by decide) (by decide) (by decide) ?_
            walk_at "go"
            refine g_do hk ?_
            walk_at "go"
            obtain ⟨j, ej, hj⟩ := mod_nat (i := (if cell < 0 then -cell else cell) - 10 ^ (18 : Int).toNat) h0
            exact .inr ⟨j, _, by rw [ej], hj, _, rfl, hc, Int.ediv_nonneg (by have := hp; omega) (by omega), by simp only; omega, by simp only; omega⟩
          · walk_at "go"
            exact .inl ⟨rfl, rfl⟩
        · walk_at "go"
          exact .inl ⟨rfl, rfl⟩
      · rintro _ _ (⟨rfl, rfl⟩ | ⟨j, ρ, rfl, hj, pn⟩)
        · walk_at "go"
          refine g_dc (by decide) ?_
          walk_at "go"
          refine g_do (by decide) ?_
          obtain ⟨p1, e1, a1, b1⟩ := prime_at st.turn
          obtain ⟨p2, e2, a2, b2⟩ := prime_at (st.turn + 2)
          walk_at "go"
          refine g_g e1 ?_
          walk_at "go"
          refine g_do a1 ?_
          walk_at "go"
          obtain ⟨m1, m2⟩ := mod_in (i := cell) a1 b1
          refine g_dp m1 m2 ?_
          walk_at "go"
          refine g_dp (by decide) (by decide) ?_
          walk_at "go"
          refine g_dp (by omega) (by omega) ?_
          walk_at "go"
          refine g_do a1 ?_
          walk_at "go"
          obtain ⟨m3, m4⟩ := mod_in (i := cell % p1 * 39373 + st.turn * (30011 * st.turn + 8117) + 23) a1 b1
          refine g_dp m3 m4 ?_
          revert m3 m4
          generalize (cell % p1 * 39373 + st.turn * (30011 * st.turn + 8117) + 23) % p1 = w1
          intro m3 m4
          walk_at "go"
          refine g_do (by decide) ?_
          walk_at "go"
          refine g_g e2 ?_
          walk_at "go"
          refine g_do a2 ?_
          obtain ⟨m5, m6⟩ := mod_in (i := w1 * (w1 + 69621)) a2 b2
          revert m5 m6
          generalize w1 * (w1 + 69621) % p2 = w2
          intro m5 m6
          walk_at "go"
          refine g_dp m5 m6 ?_
          walk_at "go"
          refine g_dp (by decide) (by decide) ?_
          walk_at "go"
          refine g_do (by decide) ?_
          walk_at "go"
          refine g_d1 (by decide) (by decide) ?_
          walk_at "go"
          refine g_do hk ?_
          walk_at "go"
          obtain ⟨j, ej, hj⟩ := mod_nat (i := (w2 * w2 + 16807 * w2 + st.turn) % 2147483549 / 64) h0
          exact ⟨j, congrArg D.int ej, hj, _, rfl, hc, hl, by simp only; omega, by simp only; omega⟩
        · walk_at "go"
          exact ⟨j, rfl, hj, pn⟩
theorem draw_go {Q : Ct D} {E : Ex} {n k : Nat} {S : Option PenS × Unit} (h : Pn n S) (hn : n < 1099511627776) (h0 : 0 < k) (h1 : k < 1073741824) (c : ∀ (j : Nat) (S' : Option PenS × Unit), j < k → Pn (n + 1) S' → Q (.int j) S') : wp (F_law_draw [.hnd 0, .int k]) Q E S :=
  (draw_ok h hn h0 h1).to fun d S' ⟨j, e, hj, p⟩ => by
    subst e
    exact c j S' hj p
theorem atI_nat {α : Type} {xs : List α} {j : Nat} {x : α} (h : xs[j]? = some x) : atI xs (j : Int) = some x := by
  have hj : j < xs.length := (List.getElem?_eq_some_iff.mp h).1
  unfold L2.atI L2.ixN
  rw [if_pos (by omega), if_pos (by omega)]
  exact h
/-- what may be picked from -/
def optD : D → Option (List D)
  | .lst xs => some xs
  | .tup xs => some xs
  | .str z => if z.length ≤ LIM then some (Vl.signs z) else none
  | _ => none
theorem pick_ok {E : Ex} {n : Nat} {S : Option PenS × Unit} {o : D} {xs : List D} (h : Pn n S) (hn : n < 1099511627776) (ho : optD o = some xs) (h0 : 0 < xs.length) (h1 : xs.length < 1073741824) : wp (F_law_pick [.hnd 0, o]) (fun d S' => ∃ j : Nat, xs[j]? = some d ∧ Pn (n + 1) S') E S := by
  unfold F_law_pick
  refine g_c rfl ?_
  unfold m_law_pick
  walk_at "go"
  have fin : ∀ {Q : Ct D}, (∀ (j : Nat) (d : D) (S' : Option PenS × Unit), xs[j]? = some d → Pn (n + 1) S' → wp (kGet o (.int j)) Q E S') → wp (F_law_draw [.hnd 0, .int xs.length]) (fun d S' => wp (kGet o d) Q E S') E S := fun k => (draw_ok h hn h0 h1).to fun d S' ⟨j, e, hj, p⟩ => by
    subst e
    exact k j _ S' (List.getElem?_eq_getElem hj) p
  cases o with
  | lst ys =>
    cases ho
    walk_at "go"
    refine fin fun j d S' hj p => g_g (atI_nat hj) ?_
    walk_at "go"
    exact ⟨j, hj, p⟩
  | tup ys =>
    cases ho
    walk_at "go"
    refine fin fun j d S' hj p => g_d4 (atI_nat hj) ?_
    walk_at "go"
    exact ⟨j, hj, p⟩
  | str z =>
    have e : (if z.length ≤ LIM then some (Vl.signs z) else none) = some xs := ho
    split at e
    · next hz =>
      cases e
      refine g_d3 hz ?_
      walk_at "go"
      have el : ((z.length : Nat) : Int) = ((Vl.signs z).length : Nat) := by
        unfold Vl.signs
        rw [List.length_map]
        rfl
      rw [el]
      refine fin fun j d S' hj p => ?_
      have hj2 := hj
      unfold Vl.signs at hj2
      rw [List.getElem?_map] at hj2
      obtain ⟨c, hc, rfl⟩ := Option.map_eq_some_iff.mp hj2
      refine g_ec hz (atI_nat hc) ?_
      walk_at "go"
      exact ⟨j, hj, p⟩
    · cases e
  | _ => cases ho
theorem pick_go {Q : Ct D} {E : Ex} {n : Nat} {S : Option PenS × Unit} {o : D} {xs : List D} (h : Pn n S) (hn : n < 1099511627776) (ho : optD o = some xs) (h0 : 0 < xs.length) (h1 : xs.length < 1073741824) (c : ∀ (j : Nat) (d : D) (S' : Option PenS × Unit), xs[j]? = some d → Pn (n + 1) S' → Q d S') : wp (F_law_pick [.hnd 0, o]) Q E S :=
  (pick_ok h hn ho h0 h1).to fun d S' ⟨j, hj, p⟩ => c j d S' hj p
end Lw
set_option Elab.async false
set_option linter.all false
set_option maxRecDepth 100000
set_option maxHeartbeats 4000000
namespace Lw
open PySem PySem.Spec PyProof.Rows L2 Oc Os Vl
local macro_rules | `(tactic| walk_at "go") => `(tactic| (with_reducible repeat first | refine g_c6 ?_ | refine g_l ?_ | refine g_m ?_ | refine g_n ?_ | refine g_o ?_ | refine g_p ?_ | refine g_q ?_ | refine g_r ?_ | refine g_s ?_ | refine g_t ?_ | refine g_u ?_ | refine g_v ?_ | refine g_c7 ?_ | refine g_d ?_ | refine g_a ?_ | refine g_w ?_ | refine g_x (by with_unfolding_all exact rfl) ?_ | refine g_y ?_ | refine g_z (by with_unfolding_all exact rfl) ?_ | refine g_aa ?_ | refine g_ab ?_ | refine g_ac ?_ | refine g_ad (by with_unfolding_all exact rfl) ?_ | refine g_ae (by with_unfolding_all exact rfl) ?_ | refine g_af (by with_unfolding_all exact rfl) ?_ | refine g_ag ?_ | refine g_ah ?_ | refine g_ai ?_ | refine g_b (by with_unfolding_all exact rfl) ?_ | refine g_aj ?_ | refine g_ak ?_ | refine g_al ?_ | refine g_am ?_ | refine g_an ?_ | refine g_ao ?_ | refine g_ap ?_ | refine g_aq ?_ | refine g_ar ?_ | refine g_as ?_ | refine g_at ?_ | refine g_au ?_ | refine g_av ?_ | refine g_aw ?_ | refine g_ax ?_ | refine g_ay ?_ | refine g_az (by with_unfolding_all exact rfl) ?_ | refine g_a0 ?_ | refine g_a1 ?_ | refine g_a2 ?_ | refine g_a3 ?_ | refine g_a4 ?_ | refine g_a5 ?_ | refine g_a6 ?_ | refine g_a7 ?_ | refine g_a8 ?_ | refine g_a9 ?_ | refine g_ba ?_ | refine g_bb ?_ | refine g_bc ?_ | refine g_bd ?_ | refine g_e (by with_unfolding_all exact rfl) ?_ | refine g_f (by with_unfolding_all exact rfl) ?_ | refine g_be ?_ | refine g_bg (by with_unfolding_all exact rfl) ?_ | refine g_bf (by with_unfolding_all exact rfl) ?_ | refine g_bh ?_ | refine g_bi ?_ | refine g_bj ?_ | refine g_bk ?_ | refine g_bl ?_ | refine g_bm ?_ | refine g_bn ?_ | refine g_bo ?_ | refine g_bp ?_ | refine g_bq ?_ | refine g_br ?_ | refine g_bs ?_ | refine g_bt ?_ | refine g_bu ?_ | refine g_bv ?_ | refine g_bw ?_ | refine g_bx ?_ | refine g_by ?_ | refine g_bz ?_ | refine g_b0 ?_ | refine g_b1 ?_ | refine g_b2 ?_ | refine g_b3 ?_ | refine g_b4 ?_ | refine g_b5 ?_ | refine g_b6 ?_ | refine g_b7 ?_ | refine g_b8 ?_ | refine g_b9 ?_ | refine g_ca ?_ | refine g_cb ?_ | refine g_cc ?_ | refine g_cd ?_ | refine g_ce ?_ | refine g_i ?_ | refine g_j ?_ | refine g_cf ?_ | refine g_cg ?_ | refine g_ch ?_ | refine g_ci ?_ | refine g_cj ?_ | refine g_ck ?_ | refine g_cl ?_ | refine g_cm ?_ | refine g_cn ?_ | refine g_co ?_ | refine g_cp ?_ | refine g_cq ?_ | refine g_cr ?_ | refine g_cs ?_ | refine g_ct ?_ | refine g_cu ?_ | refine g_cv ?_ | refine g_cw ?_ | refine g_cx ?_ | refine g_cy ?_ | refine g_h ?_ | refine g_cz ?_ | refine g_c0 ?_ | refine g_c1 ?_ | refine g_c2 ?_ | refine g_c3 ?_ | refine g_c4 ?_ | refine g_k (by with_unfolding_all exact rfl) ?_ | refine g_c5 ?_))
theorem range_at {n j : Nat} (lo : Int) (h : j < n) : (rangeD lo n)[j]? = some (.int (lo + (j : Nat))) := by
  unfold rangeD
  rw [List.getElem?_map, List.getElem?_range h]
  rfl
theorem range_len (lo : Int) (n : Nat) : (rangeD lo n).length = n := by
  unfold rangeD
  rw [List.length_map, List.length_range]
theorem strs_map : ∀ ss : List Str, strsD (ss.map D.str) = some ss
  | [] => rfl
  | s :: ss => by
    show (match strD (.str s), strsD (ss.map D.str) with | some b, some bs => some (b :: bs) | _, _ => none) = _
    rw [strs_map ss]
    rfl
theorem picked_step {j : Nat} {d : D} (h : ([.int 1, .int 3, .int 5, .int 7, .int 9, .int 11] : List D)[j]? = some d) : ∃ s : Nat, d = .int (s : Int) ∧ Step s := by
  match j, h with
  | 0, h => cases h; exact ⟨1, rfl, .inl rfl⟩
  | 1, h => cases h; exact ⟨3, rfl, .inr (.inl rfl)⟩
  | 2, h => cases h; exact ⟨5, rfl, .inr (.inr (.inl rfl))⟩
  | 3, h => cases h; exact ⟨7, rfl, .inr (.inr (.inr (.inl rfl)))⟩
  | 4, h => cases h; exact ⟨9, rfl, .inr (.inr (.inr (.inr (.inl rfl))))⟩
  | 5, h => cases h; exact ⟨11, rfl, .inr (.inr (.inr (.inr (.inr rfl))))⟩
  | k + 6, h => exact nomatch h
theorem step_go {Q : Ct D} {E : Ex} {n : Nat} {S : Option PenS × Unit} (h : Pn n S) (hn : n < 1099511627776) (c : ∀ (s : Nat) (S' : Option PenS × Unit), Step s → Pn (n + 1) S' → Q (.int s) S') : wp (F_law_pick [.hnd 0, .lst [.int 1, .int 3, .int 5, .int 7, .int 9, .int 11]]) Q E S :=
  pick_go h hn (o := .lst [.int 1, .int 3, .int 5, .int 7, .int 9, .int 11]) rfl (by decide) (by decide) fun j d S' hj p => by
    obtain ⟨s, e, hs⟩ := picked_step hj
    subst e
    exact c s S' hs p
theorem lets_sign {j : Nat} {d : D} (h : (Vl.signs letters)[j]? = some d) : ∃ c, d = .str (sg c) ∧ c ∈ lets := by
  unfold Vl.signs at h
  rw [List.getElem?_map] at h
  obtain ⟨c, hc, rfl⟩ := Option.map_eq_some_iff.mp h
  exact ⟨c, rfl, List.mem_of_getElem? hc⟩
theorem mod26' (f s i : Nat) : ((f : Int) + (s : Int) * (0 + (i : Int))) % 26 = (((f + s * i) % 26 : Nat) : Int) := by
  rw [Int.zero_add]
  omega
theorem mod3' (i : Nat) : (0 + (i : Int)) % 3 = ((i % 3 : Nat) : Int) := by
  rw [Int.zero_add]
  omega
theorem q_eq' (i : Nat) : repS "q" (if PyData.eqv (.int ((0 + (i : Int)) % 3)) (.int 2) = true then 1 else 0) = Sx (qs i) := by
  rw [mod3']
  unfold qs
  by_cases h : i % 3 = 2
  · rw [if_pos h, h]
    rfl
  · have e : PyData.eqv (.int ((i % 3 : Nat) : Int)) (.int 2) = false := by
      unfold PyData.eqv
      simp
      omega
    rw [if_neg h, e, if_neg Bool.false_ne_true]
    rfl
theorem sh_int (i : Int) : SeqAt.shaped (.int i) = true := by
  simp [SeqAt.shaped, PyData.canLay0, PyData.depth]
theorem words_ok {E : Ex} {n m : Nat} {S : Option PenS × Unit} (h : Pn n S) (hn : n + 8 < 1099511627776) (hm : m ≤ 26) : wp (F_law_words [.hnd 0, .int m]) (fun d S' => ∃ ws : List Str, d = .lst (ws.map D.str) ∧ ws.length = m ∧ (∀ w ∈ ws, Wd w) ∧ ws.Nodup ∧ Pn (n + 8) S') E S := by
  unfold F_law_words
  refine g_c rfl ?_
  unfold m_law_words
  walk_at "go"
  refine draw_go (k := 5) h (by omega) (by decide) (by decide) ?_
  intro j S1 hj h1
  exact by
    walk_at "go"
    with_reducible refine g_dv ?_ ?_ ?_
    · omega
    · omega
    walk_at "go"
    refine g_c8 (by rw [range_len]; show _ ≤ 100000; omega) ?_
    refine map_go (fun i acc S' => Pn (n + 1 + i) S' ∧ ∃ cs : List Nat, acc = cs.map (fun c => D.str (sg c)) ∧ cs.length = i ∧ ∀ c ∈ cs, c ∈ lets) _ 0 [] _ ⟨h1, [], rfl, rfl, by simp⟩ ?_ ?_
    · rintro i d acc S2 hd ⟨h2, cs, rfl, lc, mc⟩
      have hi : i < j := by
        have := (List.getElem?_eq_some_iff.mp hd).1
        rw [range_len] at this
        omega
      refine ⟨_, rfl, ?_⟩
      walk_at "go"
      rw [if_pos rfl]
      walk_at "go"
      refine (pick_ok h2 (by omega) (xs := Vl.signs letters) rfl (by decide) (by decide)).to ?_
      rintro d2 S3 ⟨jj, hd2, h3⟩
      obtain ⟨c, rfl, hc⟩ := lets_sign hd2
      refine ⟨h3.mono (by omega), cs ++ [c], by rw [List.map_append]; rfl, by rw [List.length_append, lc]; rfl, fun x hx => ?_⟩
      rcases List.mem_append.mp hx with z | z
      · exact mc x z
      · rw [List.mem_singleton.mp z]; exact hc
    rintro ys S2 ⟨h2, st, rfl, ls, ms⟩
    exact by
      refine ⟨_, rfl, ?_⟩
      rw [range_len] at ls h2
      have ls : st.length = j := by omega
      have h2 : Pn (n + 1 + j) S2 := h2.mono (by omega)
      have em : st.map (fun c => D.str (sg c)) = (st.map sg).map D.str := by rw [List.map_map]; rfl
      rw [em]
      with_reducible refine g_ep (strs_map _) ?_ ?_
      · rw [signs_sum, List.length_map]
        show st.length + st.length * 0 ≤ 100000
        omega
      rw [show Txt.join ("" : Str) (st.map sg) = Sx st from join_signs st]
      walk_at "go"
      with_reducible refine g_d3 ?_ ?_
      · rw [Sx_len]; show _ ≤ 100000; omega
      walk_at "go"
      rw [Sx_len]
      refine draw_go (k := st.length + 1) h2 (by omega) (by omega) (by omega) ?_
      intro a S3 ha h3
      exact by
        walk_at "go"
        refine draw_go (k := 26) h3 (by omega) (by decide) (by decide) ?_
        intro f S4 hf h4
        walk_at "go"
        with_reducible refine g_dc (by decide) ?_
        walk_at "go"
        refine step_go h4 (by omega) ?_
        intro s S5 hs h5
        have hs11 := hs.le
        walk_at "go"
        with_reducible refine g_dq (Nat.le_of_ble_eq_true rfl) ?_
        exact by
          walk_at "go"
          with_reducible refine g_dv ?_ ?_ ?_
          · omega
          · omega
          walk_at "go"
          refine g_c8 (by rw [range_len]; show _ ≤ 100000; omega) ?_
          refine map_go (fun i acc S' => S' = S5 ∧ acc = (words0 st a f s i).map D.str) _ 0 [] _ ⟨rfl, rfl⟩ ?_ ?_
          · rintro i d acc S6 hd ⟨rfl, rfl⟩
            have hi : i < m := by
              have := (List.getElem?_eq_some_iff.mp hd).1
              rw [range_len] at this
              omega
            rw [range_at 0 (by omega : i < (m : Int).toNat)] at hd
            cases hd
            refine ⟨_, rfl, ?_⟩
            walk_at "go"
            rw [if_pos rfl]
            have h26 : (f + s * i) % 26 < 26 := Nat.mod_lt _ (by decide)
            have hc0 := codes0_len st a f s i
            have hcut1 : (cutS (Sx st) none (some (a : Int))).length ≤ 4 := by
              rw [cut_to (by omega), Sx_len, List.length_take]
              omega
            have hcut2 : (cutS (Sx st) (some (a : Int)) none).length ≤ 4 := by
              rw [cut_from (by omega), Sx_len, List.length_drop]
              omega
            have hlst : (Sx st).length ≤ LIM := by rw [Sx_len]; show _ ≤ 100000; omega
            walk_at "go"
            with_reducible refine g_ee hlst ?_
            walk_at "go"
            with_reducible refine g_dp ?_ ?_ ?_
            · omega
            · omega
            walk_at "go"
            with_reducible refine g_do (by decide) ?_
            walk_at "go"
            rw [mod26']
            refine g_ec (by decide) (atI_nat (lets_at h26)) ?_
            walk_at "go"
            with_reducible refine g_d0 ?_ ?_
            · show _ + 1 ≤ 100000
              omega
            walk_at "go"
            with_reducible refine g_ee hlst ?_
            walk_at "go"
            with_reducible refine g_d0 ?_ ?_
            · rw [Str.length_append]
              show _ + 1 + _ ≤ 100000
              omega
            walk_at "go"
            refine ⟨rfl, ?_⟩
            rw [Nat.zero_add, words0_succ, List.map_append, ← made0_eq (by omega)]
            rfl
          rintro ys S6 ⟨rfl, rfl⟩
          exact by
            refine ⟨_, rfl, ?_⟩
            rw [range_len, Nat.zero_add, show (m : Int).toNat = m by omega]
            walk_at "go"
            with_reducible refine g_dv ?_ ?_ ?_
            · omega
            · omega
            walk_at "go"
            refine g_c8 (by rw [range_len]; show _ ≤ 100000; omega) ?_
            refine map_go (fun i acc S' => S' = S6 ∧ acc = (words st a f s i).map D.str) _ 0 [] _ ⟨rfl, rfl⟩ ?_ ?_
            · rintro i d acc S7 hd ⟨rfl, rfl⟩
              have hi : i < m := by
                have := (List.getElem?_eq_some_iff.mp hd).1
                rw [range_len] at this
                omega
              rw [range_at 0 (by omega : i < (m : Int).toNat)] at hd
              cases hd
              refine ⟨_, rfl, ?_⟩
              walk_at "go"
              rw [if_pos rfl]
              have hw : ((words0 st a f s m).map D.str)[i]? = some (.str (Sx (codes0 st a f s i))) := by
                rw [List.getElem?_map, words0_at hi]
                rfl
              have hc0 := codes0_len st a f s i
              have hql : (qs i).length ≤ 1 := by unfold qs; split <;> decide
              walk_at "go"
              rw [Int.zero_add]
              refine g_g (atI_nat hw) ?_
              walk_at "go"
              with_reducible refine g_do (by decide) ?_
              walk_at "go"
              refine g_dr rfl rfl (sh_int _) (sh_int _) ?_
              walk_at "go"
              have hq := q_eq' i
              rw [Int.zero_add] at hq
              refine g_eo (by split <;> decide) (by split <;> decide) (by decide) ?_
              rw [hq]
              walk_at "go"
              with_reducible refine g_d0 ?_ ?_
              · rw [Sx_len, Sx_len]
                show _ ≤ 100000
                omega
              walk_at "go"
              refine ⟨rfl, ?_⟩
              rw [Nat.zero_add, words_succ, List.map_append, codes_q, Sx_add]
              rfl
            rintro ys S7 ⟨rfl, rfl⟩
            refine ⟨_, rfl, ?_⟩
            rw [range_len, Nat.zero_add, show (m : Int).toNat = m by omega]
            walk_at "go"
            exact ⟨_, rfl, words_len .., words_wd (by omega) ms, words_nodup hs hm, h5.mono (by omega)⟩
end Lw
set_option Elab.async false
set_option linter.all false
set_option maxRecDepth 100000
set_option maxHeartbeats 4000000
namespace Lw
open PySem PySem.Spec PyProof.Rows L2 Oc Os Vl
local macro_rules | `(tactic| walk_at "go") => `(tactic| (with_reducible repeat first | refine g_c6 ?_ | refine g_l ?_ | refine g_m ?_ | refine g_n ?_ | refine g_o ?_ | refine g_p ?_ | refine g_q ?_ | refine g_r ?_ | refine g_s ?_ | refine g_t ?_ | refine g_u ?_ | refine g_v ?_ | refine g_c7 ?_ | refine g_d ?_ | refine g_a ?_ | refine g_w ?_ | refine g_x (by with_unfolding_all exact rfl) ?_ | refine g_y ?_ | refine g_z (by with_unfolding_all exact rfl) ?_ | refine g_aa ?_ | refine g_ab ?_ | refine g_ac ?_ | refine g_ad (by with_unfolding_all exact rfl) ?_ | refine g_ae (by with_unfolding_all exact rfl) ?_ | refine g_af (by with_unfolding_all exact rfl) ?_ | refine g_ag ?_ | refine g_ah ?_ | refine g_ai ?_ | refine g_b (by with_unfolding_all exact rfl) ?_ | refine g_aj ?_ | refine g_ak ?_ | refine g_al ?_ | refine g_am ?_ | refine g_an ?_ | refine g_ao ?_ | refine g_ap ?_ | refine g_aq ?_ | refine g_ar ?_ | refine g_as ?_ | refine g_at ?_ | refine g_au ?_ | refine g_av ?_ | refine g_aw ?_ | refine g_ax ?_ | refine g_ay ?_ | refine g_az (by with_unfolding_all exact rfl) ?_ | refine g_a0 ?_ | refine g_a1 ?_ | refine g_a2 ?_ | refine g_a3 ?_ | refine g_a4 ?_ | refine g_a5 ?_ | refine g_a6 ?_ | refine g_a7 ?_ | refine g_a8 ?_ | refine g_a9 ?_ | refine g_ba ?_ | refine g_bb ?_ | refine g_bc ?_ | refine g_bd ?_ | refine g_e (by with_unfolding_all exact rfl) ?_ | refine g_f (by with_unfolding_all exact rfl) ?_ | refine g_be ?_ | refine g_bg (by with_unfolding_all exact rfl) ?_ | refine g_bf (by with_unfolding_all exact rfl) ?_ | refine g_bh ?_ | refine g_bi ?_ | refine g_bj ?_ | refine g_bk ?_ | refine g_bl ?_ | refine g_bm ?_ | refine g_bn ?_ | refine g_bo ?_ | refine g_bp ?_ | refine g_bq ?_ | refine g_br ?_ | refine g_bs ?_ | refine g_bt ?_ | refine g_bu ?_ | refine g_bv ?_ | refine g_bw ?_ | refine g_bx ?_ | refine g_by ?_ | refine g_bz ?_ | refine g_b0 ?_ | refine g_b1 ?_ | refine g_b2 ?_ | refine g_b3 ?_ | refine g_b4 ?_ | refine g_b5 ?_ | refine g_b6 ?_ | refine g_b7 ?_ | refine g_b8 ?_ | refine g_b9 ?_ | refine g_ca ?_ | refine g_cb ?_ | refine g_cc ?_ | refine g_cd ?_ | refine g_ce ?_ | refine g_i ?_ | refine g_j ?_ | refine g_cf ?_ | refine g_cg ?_ | refine g_ch ?_ | refine g_ci ?_ | refine g_cj ?_ | refine g_ck ?_ | refine g_cl ?_ | refine g_cm ?_ | refine g_cn ?_ | refine g_co ?_ | refine g_cp ?_ | refine g_cq ?_ | refine g_cr ?_ | refine g_cs ?_ | refine g_ct ?_ | refine g_cu ?_ | refine g_cv ?_ | refine g_cw ?_ | refine g_cx ?_ | refine g_cy ?_ | refine g_h ?_ | refine g_cz ?_ | refine g_c0 ?_ | refine g_c1 ?_ | refine g_c2 ?_ | refine g_c3 ?_ | refine g_c4 ?_ | refine g_k (by with_unfolding_all exact rfl) ?_ | refine g_c5 ?_))
local macro_rules | `(tactic| walk_at "gx") => `(tactic| (with_reducible repeat first | refine g_c6 ?_ | refine g_l ?_ | refine g_m ?_ | refine g_n ?_ | refine g_o ?_ | refine g_p ?_ | refine g_q ?_ | refine g_r ?_ | refine g_s ?_ | refine g_t ?_ | refine g_u ?_ | refine g_v ?_ | refine g_d ?_ | refine g_a ?_ | refine g_w ?_ | refine g_x (by with_unfolding_all exact rfl) ?_ | refine g_y ?_ | refine g_z (by with_unfolding_all exact rfl) ?_ | refine g_aa ?_ | refine g_ab ?_ | refine g_ac ?_ | refine g_ad (by with_unfolding_all exact rfl) ?_ | refine g_ae (by with_unfolding_all exact rfl) ?_ | refine g_af (by with_unfolding_all exact rfl) ?_ | refine g_ag ?_ | refine g_ah ?_ | refine g_ai ?_ | refine g_b (by with_unfolding_all exact rfl) ?_ | refine g_aj ?_ | refine g_ak ?_ | refine g_al ?_ | refine g_am ?_ | refine g_an ?_ | refine g_ao ?_ | refine g_ap ?_ | refine g_aq ?_ | refine g_ar ?_ | refine g_as ?_ | refine g_at ?_ | refine g_au ?_ | refine g_av ?_ | refine g_aw ?_ | refine g_ax ?_ | refine g_ay ?_ | refine g_az (by with_unfolding_all exact rfl) ?_ | refine g_a0 ?_ | refine g_a1 ?_ | refine g_a2 ?_ | refine g_a3 ?_ | refine g_a4 ?_ | refine g_a5 ?_ | refine g_a6 ?_ | refine g_a7 ?_ | refine g_a8 ?_ | refine g_a9 ?_ | refine g_ba ?_ | refine g_bb ?_ | refine g_bc ?_ | refine g_bd ?_ | refine g_e (by with_unfolding_all exact rfl) ?_ | refine g_f (by with_unfolding_all exact rfl) ?_ | refine g_be ?_ | refine g_bg (by with_unfolding_all exact rfl) ?_ | refine g_bf (by with_unfolding_all exact rfl) ?_ | refine g_bh ?_ | refine g_bi ?_ | refine g_bj ?_ | refine g_bk ?_ | refine g_bl ?_ | refine g_bm ?_ | refine g_bn ?_ | refine g_bo ?_ | refine g_bp ?_ | refine g_bq ?_ | refine g_br ?_ | refine g_bs ?_ | refine g_bt ?_ | refine g_bu ?_ | refine g_bv ?_ | refine g_bw ?_ | refine g_bx ?_ | refine g_by ?_ | refine g_bz ?_ | refine g_b0 ?_ | refine g_b1 ?_ | refine g_b2 ?_ | refine g_b3 ?_ | refine g_b4 ?_ | refine g_b5 ?_ | refine g_b6 ?_ | refine g_b7 ?_ | refine g_b8 ?_ | refine g_b9 ?_ | refine g_ca ?_ | refine g_cb ?_ | refine g_cc ?_ | refine g_cd ?_ | refine g_ce ?_ | refine g_i ?_ | refine g_j ?_ | refine g_cf ?_ | refine g_cg ?_ | refine g_ch ?_ | refine g_ci ?_ | refine g_cj ?_ | refine g_ck ?_ | refine g_cl ?_ | refine g_cm ?_ | refine g_cn ?_ | refine g_co ?_ | refine g_cp ?_ | refine g_cq ?_ | refine g_cr ?_ | refine g_cs ?_ | refine g_ct ?_ | refine g_cu ?_ | refine g_cv ?_ | refine g_cw ?_ | refine g_cx ?_ | refine g_cy ?_ | refine g_h ?_ | refine g_cz ?_ | refine g_c0 ?_ | refine g_c1 ?_ | refine g_c2 ?_ | refine g_c3 ?_ | refine g_c4 ?_ | refine g_k (by with_unfolding_all exact rfl) ?_ | refine g_c5 ?_))
abbrev St2 := Option PenS × Unit
abbrev N0 : Ex := fun _ _ _ => False
section
variable {E : Ex} {S : St2} {ρ : Vl.Env} {t : D → Vl.Env → Option Vl.Env} {fe : Vl.Env → Mo D} {tt : Vl.Env → Mo Bool}
/-- comprehensions that change nothing -/
theorem map_det {Q : Ct (List D)} {ds : List D} (g : Nat → D) (h : ∀ (j : Nat) (d : D), ds[j]? = some d → ∃ ρ2, t d ρ = some ρ2 ∧ wp (fe ρ2) (fun y S3 => S3 = S ∧ y = g j) N0 S) (k : Q ((List.range ds.length).map g) S) : wp (mapC t (fun _ => Vl.ret true) fe ρ ds) (fun ys S1 => Q ys S1) N0 S := by
  refine map_go (fun i acc S' => S' = S ∧ acc = (List.range i).map g) _ 0 [] _ ⟨rfl, rfl⟩ ?_ ?_
  · rintro j d acc S1 hd ⟨rfl, rfl⟩
    obtain ⟨ρ2, e, w⟩ := h j d hd
    refine ⟨ρ2, e, ?_⟩
    rw [w_ret, if_pos rfl]
    refine wp_mono w (fun y S3 q => ?_) fun _ _ _ q => q
    obtain ⟨rfl, rfl⟩ := q
    refine ⟨rfl, ?_⟩
    rw [Nat.zero_add, List.range_succ, List.map_append]
    rfl
  · rintro ys S1 ⟨rfl, rfl⟩
    refine ⟨_, rfl, ?_⟩
    rw [Nat.zero_add]
    exact k
theorem range_map {α β : Type} (f : α → β) (g : Nat → β) : ∀ (xs : List α), (∀ j x, xs[j]? = some x → g j = f x) → (List.range xs.length).map g = xs.map f := fun xs h => by
  refine List.ext_getElem? fun j => ?_
  rw [List.getElem?_map, List.getElem?_map]
  by_cases hj : j < xs.length
  · rw [List.getElem?_range hj, List.getElem?_eq_getElem hj]
    exact congrArg some (h j _ (List.getElem?_eq_getElem hj))
  · rw [List.getElem?_eq_none (by rw [List.length_range]; omega), List.getElem?_eq_none (by omega)]
    rfl
/-- the same, by the things walked over -/
theorem map_fun {Q : Ct (List D)} {ds : List D} (f : D → D) (h : ∀ d ∈ ds, ∃ ρ2, t d ρ = some ρ2 ∧ wp (fe ρ2) (fun y S3 => S3 = S ∧ y = f d) N0 S) (k : Q (ds.map f) S) : wp (mapC t (fun _ => Vl.ret true) fe ρ ds) (fun ys S1 => Q ys S1) N0 S := by
  refine map_det (fun j => f (ds.getD j .non)) (fun j d hd => ?_) ?_
  · obtain ⟨ρ2, e, w⟩ := h d (List.mem_of_getElem? hd)
    refine ⟨ρ2, e, ?_⟩
    rw [List.getD_eq_getElem?_getD, hd]
    exact w
  · rw [range_map f _ ds fun j x hx => by rw [List.getD_eq_getElem?_getD, hx]; rfl]
    exact k
/-- with a test -/
theorem map_filt {Q : Ct (List D)} {ds : List D} (p : D → Bool) (f : D → D) (h : ∀ d ∈ ds, ∃ ρ2, t d ρ = some ρ2 ∧ wp (tt ρ2) (fun b S2 => b = p d ∧ S2 = S ∧ (b = true → wp (fe ρ2) (fun y S3 => S3 = S ∧ y = f d) N0 S)) N0 S) (k : Q ((ds.filter p).map f) S) : wp (mapC t tt fe ρ ds) (fun ys S1 => Q ys S1) N0 S := by
  refine map_go (fun i acc S' => S' = S ∧ acc = ((ds.take i).filter p).map f) _ 0 [] _ ⟨rfl, rfl⟩ ?_ ?_
  · rintro j d acc S1 hd ⟨rfl, rfl⟩
    obtain ⟨ρ2, e, w⟩ := h d (List.mem_of_getElem? hd)
    refine ⟨ρ2, e, wp_mono w (fun b S2 q => ?_) fun _ _ _ q => q⟩
    obtain ⟨rfl, rfl, w2⟩ := q
    have et : ds.take (0 + j + 1) = ds.take j ++ [d] := by rw [Nat.zero_add]; exact (List.take_append_getElem? hd).symm
    have es : ((ds.take (0 + j + 1)).filter p).map f = ((ds.take j).filter p).map f ++ (if p d = true then [f d] else []) := by
      rw [et, List.filter_append, List.map_append]
      congr 1
      cases hp : p d
      · rw [List.filter_cons_of_neg (by rw [hp]; exact Bool.false_ne_true)]; rfl
      · rw [List.filter_cons_of_pos hp]; rfl
    by_cases hp : p d = true
    · rw [if_pos hp]
      refine wp_mono (w2 hp) (fun y S3 q => ?_) fun _ _ _ q => q
      obtain ⟨rfl, rfl⟩ := q
      rw [es, if_pos hp, Nat.zero_add]
      exact ⟨rfl, rfl⟩
    · rw [if_neg hp, es, if_neg hp, List.append_nil, Nat.zero_add]
      exact ⟨rfl, rfl⟩
  · rintro ys S1 ⟨rfl, rfl⟩
    refine ⟨_, rfl, ?_⟩
    rw [Nat.zero_add, List.take_length]
    exact k
end
/-! ### words -/
/-- a value without things of own classes ahead -/
def Ent : D → Prop
  | .str z => z.length ≤ LIM
  | .ins _ _ => False
  | .hnd _ => False
  | _ => True
def wordB : D → Bool
  | .str z => wdB z
  | _ => false
theorem isA_str : ∀ t ∈ tyNames, isAny t ["str"] = some (t == "str") := by decide +kernel
theorem isA_tup : ∀ t ∈ tyNames, isAny t ["tuple"] = some (t == "tuple") := by decide +kernel
theorem isA_lt : ∀ t ∈ tyNames, isAny t ["list", "tuple"] = some (t == "list" || t == "tuple") := by decide +kernel
theorem wdB_eq (z : Str) : wdB z = (decide (1 ≤ z.length) && (decide (z.length ≤ 8) && (z.cps.toList.map fun c => decide (c ∈ lets)).all id)) := by
  unfold wdB
  rw [List.all_map]
  rfl
theorem lets_has (c : Nat) : decide (c ∈ lets) = ("abcdefghijklmnopqrstuvwxyz" : Str).cps.contains c := by
  rw [← Array.contains_toList, show ("abcdefghijklmnopqrstuvwxyz" : Str).cps.toList = lets by decide +kernel, List.contains_eq_mem]
theorem beq_dec (a b : Str) : (a == b) = decide (a = b) := by
  by_cases h : a = b
  · rw [decide_eq_true h, beq_iff_eq.mpr h]
  · rw [decide_eq_false h, beq_eq_false_iff_ne.mpr h]
theorem bls_map {α : Type} (f : α → Bool) : ∀ xs : List α, blsD (xs.map fun x => .bl (f x)) = some (xs.map f)
  | [] => rfl
  | x :: xs => by
    show (match blD (.bl (f x)), blsD (xs.map fun x => .bl (f x)) with | some b, some bs => some (b :: bs) | _, _ => none) = _
    rw [bls_map f xs]
    rfl
theorem is_word_go {Q : Ct D} {E : Ex} {S : St2} {x : D} (hx : Ent x) (h : Q (.bl (wordB x)) S) : wp (F_is_word [x]) Q E S := by
  have key : ∀ ty, tyD x = some ty → isAny ty ["str"] = some false → wordB x = false → wp (F_is_word [x]) Q E S := fun ty e1 e2 e3 => by
    unfold F_is_word
    refine g_c rfl ?_
    unfold m_is_word
    walk_at "go"
    refine g_dd e1 e2 ?_
    walk_at "go"
    rw [← e3]
    exact h
  cases x with
  | str z =>
    have hz : z.length ≤ LIM := hx
    unfold F_is_word
    refine g_c rfl ?_
    unfold m_is_word
    walk_at "go"
    refine g_dd rfl (isA_str _ (by decide)) ?_
    rw [show (("str" : String) == "str") = true by decide]
    walk_at "go"
    refine g_d3 hz ?_
    walk_at "go"
    have bad : wdB z = false → Q (.bl false) S := fun e => by
      rw [← e]
      exact h
    refine g_dz (fun p => ?_) fun p => ?_
    · have p1 := of_decide_eq_true p
      walk_at "gx"
      refine g_dy (fun q => ?_) fun q => ?_
      · walk_at "go"
        have q1 : ¬ ((z.length : Int) ≤ 8) := by simpa using q
        exact bad (by rw [wdB_eq, decide_eq_false (by omega : ¬ z.length ≤ 8), Bool.false_and, Bool.and_false])
      · walk_at "go"
        have q1 : (z.length : Int) ≤ 8 := by simpa using q
        refine g_ey ?_
        walk_at "go"
        refine g_ez ?_
        walk_at "go"
        refine g_e0 hz ?_
        walk_at "go"
        refine g_e1 ?_
        walk_at "go"
        have e : wordB (.str z) = (Txt.stripChars z "abcdefghijklmnopqrstuvwxyz" == "") := by
          show wdB z = _
          rw [wdB_eq, decide_eq_true (by omega : 1 ≤ z.length), decide_eq_true (by omega : z.length ≤ 8), Bool.true_and, Bool.true_and, beq_dec, strip_none, List.all_map]
          exact congrArg (fun f => z.cps.toList.all f) (funext fun c => lets_has c)
        rw [← e]
        exact h
    · have p1 : ¬ ((1 : Int) ≤ (z.length : Int)) := of_decide_eq_false p
      walk_at "go"
      exact bad (by rw [wdB_eq, decide_eq_false (by omega : ¬ 1 ≤ z.length), Bool.false_and])
  | non => exact key _ rfl (isA_str _ (by decide)) rfl
  | bl b => exact key _ rfl (isA_str _ (by decide)) rfl
  | int i => exact key _ rfl (isA_str _ (by decide)) rfl
  | lst xs => exact key _ rfl (isA_str _ (by decide)) rfl
  | tup xs => exact key _ rfl (isA_str _ (by decide)) rfl
  | dic xs => exact key _ rfl (isA_str _ (by decide)) rfl
  | ins C fs => exact hx.elim
  | hnd k => exact hx.elim
end Lw
set_option Elab.async false
set_option linter.all false
set_option maxRecDepth 100000
set_option maxHeartbeats 4000000
namespace Lw
open PySem PySem.Spec PyProof.Rows L2 Oc Os Vl

theorem filt_nil (cs : List Nat) (f : Nat → D) : (cs.filter fun c => !decide (c ∈ lets)).map f = [] ↔ (cs.map fun c => decide (c ∈ lets)).all id = true := by
  rw [List.map_eq_nil_iff, List.filter_eq_nil_iff, List.all_map, List.all_eq_true]
  simp
theorem toE_strs (cs : List Nat) : toE (.lst (cs.map fun c => D.str ⟨#[c]⟩)) = some (.list (cs.map fun c => PyData.str ⟨#[c]⟩)) := by
  have e : ∀ cs : List Nat, toQ (cs.map fun c => D.str ⟨#[c]⟩) = some (cs.map fun c => PyData.str ⟨#[c]⟩) := fun cs => by
    induction cs with
    | nil => rfl
    | cons c cs ih =>
      show (match toE (.str ⟨#[c]⟩), toQ (cs.map fun c => D.str ⟨#[c]⟩) with | some e, some es => some (e :: es) | _, _ => none) = _
      rw [ih]
      rfl
  show (toQ _).map PyData.list = _
  rw [e]
  rfl
/-- what is shown, laid out: texts with usual signs -/
def Lay : D → Prop
  | .str z => PyData.canLay0 (.str z) = true
  | _ => True
end Lw
set_option Elab.async false
set_option linter.all false
set_option maxRecDepth 100000
set_option maxHeartbeats 4000000
namespace Lw
open PySem PySem.Spec PyProof.Rows L2 Oc Os Vl

def strsT (ms : List Str) : D := .tup (ms.map D.str)
def mkD : Option (List Str) → D
  | none => .non
  | some ms => strsT ms
def colD (c : Col) : D := .tup [.str c.1, mkD c.2]
/-- may this stand in that column -/
def entD (c : Col) : D → Bool
  | .str w => wdB w && (match c.2 with | none => true | some ms => decide (w ∈ ms))
  | _ => false
def rowB (cols : List Col) : D → Bool
  | .tup xs => decide (xs.length = cols.length) && ((cols.zip xs).map fun p => entD p.1 p.2).all id
  | _ => false
theorem entD_bad {c : Col} {x : D} (h : wordB x = false) : entD c x = false := by
  cases x <;> first | rfl | skip
  show (wdB _ && _) = false
  rw [show wdB _ = false from h, Bool.false_and]
theorem toV_strs (ms : List Str) : (ms.map D.str).map toV = ms.map V.str := by
  rw [List.map_map]
  rfl
theorem flat_strs (ms : List Str) : (ms.map D.str).all flatD = true := by
  rw [List.all_map]
  exact List.all_eq_true.mpr fun _ _ => rfl
theorem in_strsT (w : Str) (ms : List Str) : kInB (.str w) (strsT ms) = some (decide (w ∈ ms)) := by
  show (if flatD (.str w) && (ms.map D.str).all flatD then some (inD (.str w) (ms.map D.str)) else none) = _
  rw [flat_strs]
  show some (inV (.str w) ((ms.map D.str).map toV)) = _
  rw [toV_strs, in_strs]
/-- the table made of these columns -/
structure TabD (d : D) (cols : List Col) : Prop where
  ex : ∃ (fs : List (Str × D)) (kvs : List (Key × D)), d = .ins "Table" fs ∧ fs.lookup ("_columns" : Str) = some (strsT (cols.map Prod.fst)) ∧ fs.lookup ("_marks" : Str) = some (.dic kvs) ∧ (∀ c ∈ cols, valD kvs (.inr c.1) = c.2.map strsT) ∧ (fs.lookup ("_is_entry" : Str)).isNone = true ∧ (fs.lookup ("is_row" : Str)).isNone = true
theorem pairs_mem : ∀ {xs : List Str} {ys : List D} {d : D}, d ∈ pairs (xs.map D.str) ys → ∃ x y, x ∈ xs ∧ y ∈ ys ∧ d = .tup [.str x, y]
  | [], ys, d, h => by cases h
  | x :: xs, [], d, h => by cases h
  | x :: xs, y :: ys, d, h => by
    rcases List.mem_cons.mp h with e | h
    · exact ⟨x, y, List.mem_cons_self .., List.mem_cons_self .., e⟩
    · obtain ⟨a, b, h1, h2, h3⟩ := pairs_mem h
      exact ⟨a, b, List.mem_cons_of_mem _ h1, List.mem_cons_of_mem _ h2, h3⟩
theorem pairs_at2 : ∀ {cols : List Col} {ys : List D} {j : Nat} {d : D}, (pairs ((cols.map Prod.fst).map D.str) ys)[j]? = some d → ∃ c y, (cols.zip ys)[j]? = some (c, y) ∧ d = .tup [.str c.1, y]
  | [], ys, j, d, h => by cases h
  | x :: xs, [], j, d, h => by cases h
  | x :: xs, y :: ys, 0, d, h => by cases h; exact ⟨x, y, rfl, rfl⟩
  | x :: xs, y :: ys, j + 1, d, h => pairs_at2 (cols := xs) (ys := ys) (j := j) h
/-- a value as a law draws it -/
def Thg : D → Prop
  | .tup xs => ∀ x ∈ xs, Ent x ∧ Lay x
  | x => Ent x
theorem Thg.ent {x : D} (h : Thg x) : Ent x := by
  cases x <;> first | exact h | exact trivial
theorem len_ne {a b : Nat} : (!PyData.eqv (.int (a : Int)) (.int (b : Int))) = !decide (a = b) := by
  unfold PyData.eqv
  by_cases h : a = b
  · subst h; simp
  · rw [decide_eq_false h]
    have : ¬ ((a : Int) = (b : Int)) := by omega
    simp [this]
theorem all_zip (cols : List Col) (ys : List D) : ((cols.zip ys).map fun p => entD p.1 p.2).all id = true ↔ ∀ (j : Nat) (p : Col × D), (cols.zip ys)[j]? = some p → entD p.1 p.2 = true := by
  rw [List.all_map, List.all_eq_true]
  constructor
  · intro h j p hj
    exact h p (List.mem_of_getElem? hj)
  · intro h p hp
    obtain ⟨j, hj⟩ := List.getElem?_of_mem hp
    exact h j p hj
theorem zip_at {cols : List Col} {ys : List D} {j : Nat} {c : Col} {y : D} (h1 : cols[j]? = some c) (h2 : ys[j]? = some y) : (cols.zip ys)[j]? = some (c, y) := by
  rw [List.getElem?_zip_eq_some]
  exact ⟨h1, h2⟩
end Lw
set_option Elab.async false
set_option linter.all false
set_option maxRecDepth 100000
set_option maxHeartbeats 4000000
namespace Lw
open PySem PySem.Spec PyProof.Rows L2 Oc Os Vl

def Smq (xs : List D) : Prop := ∀ x ∈ xs, ∃ e, toE x = some e ∧ Sm e
theorem toQ_of : ∀ {xs : List D}, Smq xs → ∃ es, toQ xs = some es ∧ es.length = xs.length ∧ ∀ e ∈ es, Sm e
  | [], _ => ⟨[], rfl, rfl, fun _ h => absurd h List.not_mem_nil⟩
  | x :: xs, h => by
    obtain ⟨e, e1, e2⟩ := h x (List.mem_cons_self ..)
    obtain ⟨es, q1, q2, q3⟩ := toQ_of (xs := xs) fun y hy => h y (List.mem_cons_of_mem _ hy)
    refine ⟨e :: es, ?_, by rw [List.length_cons, List.length_cons, q2], fun z hz => ?_⟩
    · show (match toE x, toQ xs with | some e, some es => some (e :: es) | _, _ => none) = _
      rw [e1, q1]
    · rcases List.mem_cons.mp hz with c | c
      · rw [c]; exact e2
      · exact q3 z c
theorem smq_words {ws : List Str} (h : ∀ w ∈ ws, Wd w) : Smq (ws.map D.str) := fun x hx => by
  obtain ⟨w, hw, rfl⟩ := List.mem_map.mp hx
  exact ⟨.str w, rfl, sm_word (h w hw)⟩
theorem eqv_list_nil (es : List PyData) : PyData.eqv (.list es) (.list []) = es.isEmpty := by
  cases es with
  | nil => exact eqv_nil_nil
  | cons e es => exact eqv_cons_nil _ _
/-- compared with the empty list -/
theorem g_ge {Q : Ct D} {E : Ex} {S : St2} {xs : List D} (hs : Smq xs) (h : Q (.bl (!xs.isEmpty)) S) : wp (kNe (.lst xs) (.lst [])) Q E S := by
  obtain ⟨es, q1, q2, q3⟩ := toQ_of hs
  refine g_dx (d := .list es) (e := .list []) (by show (toQ xs).map PyData.list = _; rw [q1]; rfl) rfl (shaped_list q3) (by decide) ?_
  rw [eqv_list_nil]
  have : es.isEmpty = xs.isEmpty := by
    cases es <;> cases xs <;> first | rfl | cases q2
  rw [this]
  exact h
theorem seq_ix {j n : Nat} (h : j < n) : seqIndex? (j : Int) n = some j := by
  unfold seqIndex?
  simp
  omega
theorem erase_permD {α : Type} {ls : List α} {j : Nat} (hj : j < ls.length) : (ls[j] :: ls.eraseIdx j).Perm ls := by
  rw [List.eraseIdx_eq_take_drop_succ]
  have e : ls.take j ++ ls[j] :: ls.drop (j + 1) = ls := by
    rw [← List.drop_eq_getElem_cons hj, List.take_append_drop]
  exact (List.perm_middle.symm).trans (.of_eq e)
theorem perm_snoc {α : Type} {xs fs ls : List α} {j : Nat} (hj : j < ls.length) (h : (fs ++ ls).Perm xs) : ((fs ++ [ls[j]]) ++ ls.eraseIdx j).Perm xs := by
  rw [List.append_assoc]
  exact (List.Perm.append_left fs (erase_permD hj)).trans h
end Lw
set_option Elab.async false
set_option linter.all false
set_option maxRecDepth 100000
set_option maxHeartbeats 4000000
namespace Lw
open PySem PySem.Spec PyProof.Rows L2 Oc Os Vl
local macro_rules | `(tactic| walk_at "go") => `(tactic| (with_reducible repeat first | refine g_c6 ?_ | refine g_l ?_ | refine g_m ?_ | refine g_n ?_ | refine g_o ?_ | refine g_p ?_ | refine g_q ?_ | refine g_r ?_ | refine g_s ?_ | refine g_t ?_ | refine g_u ?_ | refine g_v ?_ | refine g_c7 ?_ | refine g_d ?_ | refine g_a ?_ | refine g_w ?_ | refine g_x (by with_unfolding_all exact rfl) ?_ | refine g_y ?_ | refine g_z (by with_unfolding_all exact rfl) ?_ | refine g_aa ?_ | refine g_ab ?_ | refine g_ac ?_ | refine g_ad (by with_unfolding_all exact rfl) ?_ | refine g_ae (by with_unfolding_all exact rfl) ?_ | refine g_af (by with_unfolding_all exact rfl) ?_ | refine g_ag ?_ | refine g_ah ?_ | refine g_ai ?_ | refine g_b (by with_unfolding_all exact rfl) ?_ | refine g_aj ?_ | refine g_ak ?_ | refine g_al ?_ | refine g_am ?_ | refine g_an ?_ | refine g_ao ?_ | refine g_ap ?_ | refine g_aq ?_ | refine g_ar ?_ | refine g_as ?_ | refine g_at ?_ | refine g_au ?_ | refine g_av ?_ | refine g_aw ?_ | refine g_ax ?_ | refine g_ay ?_ | refine g_az (by with_unfolding_all exact rfl) ?_ | refine g_a0 ?_ | refine g_a1 ?_ | refine g_a2 ?_ | refine g_a3 ?_ | refine g_a4 ?_ | refine g_a5 ?_ | refine g_a6 ?_ | refine g_a7 ?_ | refine g_a8 ?_ | refine g_a9 ?_ | refine g_ba ?_ | refine g_bb ?_ | refine g_bc ?_ | refine g_bd ?_ | refine g_e (by with_unfolding_all exact rfl) ?_ | refine g_f (by with_unfolding_all exact rfl) ?_ | refine g_be ?_ | refine g_bg (by with_unfolding_all exact rfl) ?_ | refine g_bf (by with_unfolding_all exact rfl) ?_ | refine g_bh ?_ | refine g_bi ?_ | refine g_bj ?_ | refine g_bk ?_ | refine g_bl ?_ | refine g_bm ?_ | refine g_bn ?_ | refine g_bo ?_ | refine g_bp ?_ | refine g_bq ?_ | refine g_br ?_ | refine g_bs ?_ | refine g_bt ?_ | refine g_bu ?_ | refine g_bv ?_ | refine g_bw ?_ | refine g_bx ?_ | refine g_by ?_ | refine g_bz ?_ | refine g_b0 ?_ | refine g_b1 ?_ | refine g_b2 ?_ | refine g_b3 ?_ | refine g_b4 ?_ | refine g_b5 ?_ | refine g_b6 ?_ | refine g_b7 ?_ | refine g_b8 ?_ | refine g_b9 ?_ | refine g_ca ?_ | refine g_cb ?_ | refine g_cc ?_ | refine g_cd ?_ | refine g_ce ?_ | refine g_i ?_ | refine g_j ?_ | refine g_cf ?_ | refine g_cg ?_ | refine g_ch ?_ | refine g_ci ?_ | refine g_cj ?_ | refine g_ck ?_ | refine g_cl ?_ | refine g_cm ?_ | refine g_cn ?_ | refine g_co ?_ | refine g_cp ?_ | refine g_cq ?_ | refine g_cr ?_ | refine g_cs ?_ | refine g_ct ?_ | refine g_cu ?_ | refine g_cv ?_ | refine g_cw ?_ | refine g_cx ?_ | refine g_cy ?_ | refine g_h ?_ | refine g_cz ?_ | refine g_c0 ?_ | refine g_c1 ?_ | refine g_c2 ?_ | refine g_c3 ?_ | refine g_c4 ?_ | refine g_k (by with_unfolding_all exact rfl) ?_ | refine g_c5 ?_))
theorem cutD_take {α : Type} (xs : List α) (k : Nat) : Vl.cutD xs none (some (k : Int)) = xs.take k := by
  unfold Vl.cutD
  rw [HT.sIx_none, HT.sIx_nat, List.drop_zero, Nat.sub_zero]
  by_cases h : k ≤ xs.length
  · rw [Nat.min_eq_left h]
  · rw [Nat.min_eq_right (by omega), List.take_length, List.take_of_length_le (by omega)]
theorem cutD_drop {α : Type} (xs : List α) (k : Nat) : Vl.cutD xs (some (k : Int)) none = xs.drop k := by
  unfold Vl.cutD
  rw [HT.sIx_none, HT.sIx_nat]
  by_cases h : k ≤ xs.length
  · rw [Nat.min_eq_left h]
    exact List.take_of_length_le (by rw [List.length_drop]; exact Nat.le_refl _)
  · rw [Nat.min_eq_right (by omega), List.drop_length, List.drop_eq_nil_of_le (by omega), List.take_nil]
theorem cutD_mid {α : Type} (xs : List α) (i k : Nat) (h : k ≤ xs.length) (hi : i ≤ k) : Vl.cutD xs (some (i : Int)) (some (k : Int)) = (xs.drop i).take (k - i) := by
  unfold Vl.cutD
  rw [HT.sIx_nat, HT.sIx_nat, Nat.min_eq_left h, Nat.min_eq_left (by omega)]
def unSD : D → Str
  | .str s => s
  | _ => ""
theorem strs_permD {ys : List D} {ws : List Str} (h : ys.Perm (ws.map D.str)) : ∃ us : List Str, ys = us.map D.str ∧ us.Perm ws := by
  refine ⟨ys.map unSD, ?_, ?_⟩
  · rw [List.map_map]
    refine (List.map_id ys).symm.trans (List.map_congr_left fun y hy => ?_)
    obtain ⟨w, _, rfl⟩ := List.mem_map.mp (h.mem_iff.mp hy)
    rfl
  · have := h.map unSD
    rw [List.map_map] at this
    refine this.trans (.of_eq ?_)
    refine (List.map_congr_left fun w _ => ?_).trans (List.map_id ws)
    rfl
def plD (t : Plain) : D := .tup [.str t.1, .lst (t.2.map colD)]
theorem marks2 {a b : Str} (ha : Wd a) (hb : Wd b) (h : a ≠ b) : OkMarks [a, b] := ⟨.inl rfl, fun m hm => by
  rcases List.mem_cons.mp hm with e | hm
  · rw [e]; exact ha
  · rw [List.mem_singleton.mp hm]; exact hb, by simp [h]⟩
theorem marks3 {a b c : Str} (ha : Wd a) (hb : Wd b) (hc : Wd c) (h1 : a ≠ b) (h2 : a ≠ c) (h3 : b ≠ c) : OkMarks [a, b, c] := ⟨.inr rfl, fun m hm => by
  rcases List.mem_cons.mp hm with e | hm
  · rw [e]; exact ha
  · rcases List.mem_cons.mp hm with e | hm
    · rw [e]; exact hb
    · rw [List.mem_singleton.mp hm]; exact hc, by simp [h1, h2, h3]⟩
theorem picked_mark {c d : D} {o1 o2 : Option (List Str)} {j : Nat} {x : D} (e1 : c = mkD o1) (e2 : d = mkD o2) (h1 : ∀ ms, o1 = some ms → OkMarks ms) (h2 : ∀ ms, o2 = some ms → OkMarks ms) (h : ([.non, .non, c, d] : List D)[j]? = some x) : ∃ o, x = mkD o ∧ ∀ ms, o = some ms → OkMarks ms := by
  match j, h with
  | 0, h => cases h; exact ⟨none, rfl, fun _ z => by cases z⟩
  | 1, h => cases h; exact ⟨none, rfl, fun _ z => by cases z⟩
  | 2, h => cases h; exact ⟨o1, e1, h1⟩
  | 3, h => cases h; exact ⟨o2, e2, h2⟩
  | k + 4, h => exact nomatch h
theorem take_succ_at {α : Type} {l : List α} {i : Nat} {x : α} (h : l[i]? = some x) : l.take (i + 1) = l.take i ++ [x] := (List.take_append_getElem? h).symm
theorem words_go {Q : Ct D} {E : Ex} {n m : Nat} {S : St2} (h : Pn n S) (hn : n + 8 < 1099511627776) (hm : m ≤ 26) (k : ∀ (ws : List Str) (S' : St2), ws.length = m → (∀ w ∈ ws, Wd w) → ws.Nodup → Pn (n + 8) S' → Q (.lst (ws.map D.str)) S') : wp (F_law_words [.hnd 0, .int m]) Q E S :=
  (words_ok h hn hm).to fun d S' ⟨ws, e, h1, h2, h3, h4⟩ => by
    subst e
    exact k ws S' h1 h2 h3 h4
/-- what a schema's columns are drawn from -/
structure Wm (ws : List Str) (ml : List D) : Prop where
  len : ws.length = 11
  wd : ∀ w ∈ ws, Wd w
  nd : ws.Nodup
  mks : ∃ o1 o2, ml = [mkD o1, mkD o2] ∧ (∀ ms, o1 = some ms → OkMarks ms) ∧ ∀ ms, o2 = some ms → OkMarks ms
theorem columns_go {R : Ct (Fl × Vl.Env)} {E : Ex} {n : Nat} {S : St2} {v1 v2 v5 v6 v8 : Option D} {ws zs : List Str} {ml : List D} (w : Wm ws ml) (h : Pn n S) (hn : n + 8 < 1099511627776) (lz : zs.length ≤ 3) (k : ∀ (cols : List Col) (v : Option D) (S' : St2), cols.map Prod.fst = zs → (∀ c ∈ cols, ∀ ms, c.2 = some ms → OkMarks ms) → Pn (n + zs.length) S' → R (.nx, [some (.hnd 0), v1, v2, some (.lst (ws.map D.str)), some (.lst ml), v5, v6, some (.lst (cols.map colD)), v]) S') :
    wp (forL (gN 8) (fun ρ => grd (hasOwn 7 ρ) (sApp 7 (fN (fCons (fVar 8) (fCons (fN (fCons (fVar 0) (fCons (fN (fCons (fC .non) (fCons (fC .non) (fCons (f2 (fVar 4) (fC (.int 0)) kGet) (fCons (f2 (fVar 4) (fC (.int 1)) kGet) fNil)))) kLst) fNil)) F_law_pick) fNil)) kTup) ρ)) (zs.map D.str) [some (.hnd 0), v1, v2, some (.lst (ws.map D.str)), some (.lst ml), v5, v6, some (.lst []), v8]) R E S := by
  obtain ⟨o1, o2, rfl, k1, k2⟩ := w.mks
  refine for_go (fun i ρ S' => ∃ (v : Option D) (cols : List Col), ρ = [some (.hnd 0), v1, v2, some (.lst (ws.map D.str)), some (.lst [mkD o1, mkD o2]), v5, v6, some (.lst (cols.map colD)), v] ∧ cols.map Prod.fst = zs.take i ∧ (∀ c ∈ cols, ∀ ms, c.2 = some ms → OkMarks ms) ∧ Pn (n + i) S') _ 0 _ _ ⟨v8, [], rfl, rfl, fun _ h => absurd h List.not_mem_nil, h⟩ ?_ ?_
  · rintro j d ρ S1 hd ⟨v, cols, rfl, e1, e2, p⟩
    rw [List.getElem?_map] at hd
    obtain ⟨z, hz, rfl⟩ := Option.map_eq_some_iff.mp hd
    have hj : j < zs.length := (List.getElem?_eq_some_iff.mp hz).1
    have lc : cols.length ≤ 3 := by
      have := congrArg List.length e1
      rw [List.length_map, List.length_take] at this
      omega
    refine ⟨_, rfl, ?_⟩
    walk_at "go"
    with_reducible refine g_g (d := mkD o1) (by with_unfolding_all exact rfl) ?_
    walk_at "go"
    with_reducible refine g_g (d := mkD o2) (by with_unfolding_all exact rfl) ?_
    walk_at "go"
    with_reducible refine g_dc (Nat.le_of_ble_eq_true rfl) ?_
    walk_at "go"
    refine pick_go p (by omega) rfl (show 0 < 4 by decide) (show 4 < 1073741824 by decide) ?_
    intro jj x S2 hx p2
    obtain ⟨o, rfl, ho⟩ := picked_mark rfl rfl k1 k2 hx
    walk_at "go"
    with_reducible refine g_dq (Nat.le_of_ble_eq_true rfl) ?_
    refine g_ek (by rw [List.length_map]; show _ < 100000; omega) ?_
    refine ⟨_, cols ++ [(z, o)], by rw [List.map_append]; rfl, ?_, fun c hc => ?_, p2⟩
    · rw [Nat.zero_add, take_succ_at hz, List.map_append, e1, Nat.zero_add]
      rfl
    · rcases List.mem_append.mp hc with q | q
      · exact e2 c q
      · rw [List.mem_singleton.mp q]
        exact ho
  · rintro ρ S1 ⟨v, cols, rfl, e1, e2, p⟩
    rw [Nat.zero_add, List.length_map, List.take_length] at e1
    rw [Nat.zero_add, List.length_map] at p
    exact k cols v S1 e1 e2 p
end Lw
set_option Elab.async false
set_option linter.all false
set_option maxRecDepth 100000
set_option maxHeartbeats 4000000
namespace Lw
open PySem PySem.Spec PyProof.Rows L2 Oc Os Vl
local macro_rules | `(tactic| walk_at "go") => `(tactic| (with_reducible repeat first | refine g_c6 ?_ | refine g_l ?_ | refine g_m ?_ | refine g_n ?_ | refine g_o ?_ | refine g_p ?_ | refine g_q ?_ | refine g_r ?_ | refine g_s ?_ | refine g_t ?_ | refine g_u ?_ | refine g_v ?_ | refine g_c7 ?_ | refine g_d ?_ | refine g_a ?_ | refine g_w ?_ | refine g_x (by with_unfolding_all exact rfl) ?_ | refine g_y ?_ | refine g_z (by with_unfolding_all exact rfl) ?_ | refine g_aa ?_ | refine g_ab ?_ | refine g_ac ?_ | refine g_ad (by with_unfolding_all exact rfl) ?_ | refine g_ae (by with_unfolding_all exact rfl) ?_ | refine g_af (by with_unfolding_all exact rfl) ?_ | refine g_ag ?_ | refine g_ah ?_ | refine g_ai ?_ | refine g_b (by with_unfolding_all exact rfl) ?_ | refine g_aj ?_ | refine g_ak ?_ | refine g_al ?_ | refine g_am ?_ | refine g_an ?_ | refine g_ao ?_ | refine g_ap ?_ | refine g_aq ?_ | refine g_ar ?_ | refine g_as ?_ | refine g_at ?_ | refine g_au ?_ | refine g_av ?_ | refine g_aw ?_ | refine g_ax ?_ | refine g_ay ?_ | refine g_az (by with_unfolding_all exact rfl) ?_ | refine g_a0 ?_ | refine g_a1 ?_ | refine g_a2 ?_ | refine g_a3 ?_ | refine g_a4 ?_ | refine g_a5 ?_ | refine g_a6 ?_ | refine g_a7 ?_ | refine g_a8 ?_ | refine g_a9 ?_ | refine g_ba ?_ | refine g_bb ?_ | refine g_bc ?_ | refine g_bd ?_ | refine g_e (by with_unfolding_all exact rfl) ?_ | refine g_f (by with_unfolding_all exact rfl) ?_ | refine g_be ?_ | refine g_bg (by with_unfolding_all exact rfl) ?_ | refine g_bf (by with_unfolding_all exact rfl) ?_ | refine g_bh ?_ | refine g_bi ?_ | refine g_bj ?_ | refine g_bk ?_ | refine g_bl ?_ | refine g_bm ?_ | refine g_bn ?_ | refine g_bo ?_ | refine g_bp ?_ | refine g_bq ?_ | refine g_br ?_ | refine g_bs ?_ | refine g_bt ?_ | refine g_bu ?_ | refine g_bv ?_ | refine g_bw ?_ | refine g_bx ?_ | refine g_by ?_ | refine g_bz ?_ | refine g_b0 ?_ | refine g_b1 ?_ | refine g_b2 ?_ | refine g_b3 ?_ | refine g_b4 ?_ | refine g_b5 ?_ | refine g_b6 ?_ | refine g_b7 ?_ | refine g_b8 ?_ | refine g_b9 ?_ | refine g_ca ?_ | refine g_cb ?_ | refine g_cc ?_ | refine g_cd ?_ | refine g_ce ?_ | refine g_i ?_ | refine g_j ?_ | refine g_cf ?_ | refine g_cg ?_ | refine g_ch ?_ | refine g_ci ?_ | refine g_cj ?_ | refine g_ck ?_ | refine g_cl ?_ | refine g_cm ?_ | refine g_cn ?_ | refine g_co ?_ | refine g_cp ?_ | refine g_cq ?_ | refine g_cr ?_ | refine g_cs ?_ | refine g_ct ?_ | refine g_cu ?_ | refine g_cv ?_ | refine g_cw ?_ | refine g_cx ?_ | refine g_cy ?_ | refine g_h ?_ | refine g_cz ?_ | refine g_c0 ?_ | refine g_c1 ?_ | refine g_c2 ?_ | refine g_c3 ?_ | refine g_c4 ?_ | refine g_k (by with_unfolding_all exact rfl) ?_ | refine g_c5 ?_))
theorem eqv_nat {a b : Nat} : PyData.eqv (.int (a : Int)) (.int (b : Int)) = decide (a = b) := by
  have := len_ne (a := a) (b := b)
  exact Bool.not_inj this
/-- a column as it is handed in -/
def gvD (c : Col) : D := match c.2 with
  | none => .str c.1
  | some ms => .tup [.str c.1, .lst (ms.map D.str)]
theorem gv_none {c : Col} (h : c.2 = none) : gvD c = .str c.1 := by
  unfold gvD
  rw [h]
theorem gv_some {c : Col} {ms : List Str} (h : c.2 = some ms) : gvD c = .tup [.str c.1, .lst (ms.map D.str)] := by
  unfold gvD
  rw [h]
section
variable {Q : Ct D} {E : Ex} {S : St2}
theorem different_go {ws : List Str} (hn : ws.Nodup) (hl : ws.length ≤ 1000) (h : Q (.bl true) S) : wp (F_are_different [.lst (ws.map D.str)]) Q E S := by
  unfold F_are_different
  refine g_c rfl ?_
  unfold m_are_different
  walk_at "go"
  refine g_eg (strs_map ws) (by omega) ?_
  walk_at "go"
  rw [(fm_all ws).mpr hn, List.length_map]
  refine g_dr rfl rfl (sh_int _) (sh_int _) ?_
  rw [eqv_nat, decide_eq_true rfl]
  walk_at "go"
  exact h
theorem word_str {w : Str} (h : Wd w) : Ent (.str w) ∧ wordB (.str w) = true := ⟨by show w.length ≤ 100000; have := h.2.1; omega, wdB_iff.mpr h⟩
theorem is_list_go {ds : List D} (h : Q (.bl true) S) : wp (F_is_list [.lst ds]) Q E S := by
  unfold F_is_list
  refine g_c rfl ?_
  unfold m_is_list
  walk_at "go"
  refine g_dd (ty := "list") rfl (isA_lt _ (by decide)) ?_
  walk_at "go"
  exact h
theorem true_map {α : Type} (xs : List α) (f : α → D) : ((xs.map f).map fun _ => D.bl true) = xs.map fun _ => D.bl true := by rw [List.map_map]; rfl
theorem are_words_go {ws : List Str} {lo hi : Nat} (hw : ∀ w ∈ ws, Wd w) (hn : ws.Nodup) (h1 : lo ≤ ws.length) (h2 : ws.length ≤ hi) (h3 : hi ≤ 1000) (h : Q (.bl true) S) : wp (F_are_words [.lst (ws.map D.str), .int lo, .int hi]) Q E S := by
  unfold F_are_words
  refine g_c rfl ?_
  unfold m_are_words
  walk_at "go"
  refine is_list_go ?_
  walk_at "go"
  rw [List.length_map, decide_eq_true (by omega : (lo : Int) ≤ (ws.length : Int))]
  walk_at "go"
  rw [decide_eq_true (by omega : (ws.length : Int) ≤ (hi : Int)), Bool.not_true]
  walk_at "go"
  refine g_c8 ?_ ?_
  · show (List.map _ _).length ≤ 100000
    rw [List.length_map]
    omega
  refine map_fun (fun _ => .bl true) (fun d hd => ?_) ?_
  · obtain ⟨w, hm, rfl⟩ := List.mem_map.mp hd
    refine ⟨_, rfl, ?_⟩
    walk_at "go"
    refine is_word_go (word_str (hw w hm)).1 ?_
    rw [(word_str (hw w hm)).2]
    exact ⟨rfl, rfl⟩
  · rw [true_map]
    walk_at "go"
    refine g_du (bls_map (fun _ => true) ws) ?_
    rw [show (ws.map fun _ => true).all id = true by rw [List.all_map]; exact List.all_eq_true.mpr fun _ _ => rfl]
    walk_at "go"
    refine different_go hn (by omega) ?_
    walk_at "go"
    exact h
theorem mem_gv {cols : List Col} {d : D} (h : d ∈ cols.map gvD) : ∃ c, c ∈ cols ∧ d = gvD c := by
  obtain ⟨c, hc, e⟩ := List.mem_map.mp h
  exact ⟨c, hc, e.symm⟩
end
end Lw
set_option Elab.async false
set_option linter.all false
set_option maxRecDepth 100000
set_option maxHeartbeats 4000000
namespace Lw
open PySem PySem.Spec PyProof.Rows L2 Oc Os Vl

theorem perm_of_map {α β : Type} (f : α → β) {ys xs : List β} (h : ys.Perm xs) : ∀ mc : List α, xs = mc.map f → ∃ mc2 : List α, ys = mc2.map f ∧ mc2.Perm mc := by
  induction h with
  | nil =>
    intro mc e
    cases mc with
    | nil => exact ⟨[], rfl, .refl _⟩
    | cons c cs => cases e
  | cons x p ih =>
    intro mc e
    cases mc with
    | nil => cases e
    | cons c cs =>
      rw [List.map_cons] at e
      injection e with e1 e2
      obtain ⟨m2, e3, p2⟩ := ih cs e2
      exact ⟨c :: m2, by rw [List.map_cons, e1, e3], .cons c p2⟩
  | swap x y l =>
    intro mc e
    match mc, e with
    | a :: b :: cs, e =>
      rw [List.map_cons, List.map_cons] at e
      injection e with e1 e2
      injection e2 with e2 e3
      exact ⟨b :: a :: cs, by rw [List.map_cons, List.map_cons, e1, e2, e3], .swap a b cs⟩
  | trans p q ih1 ih2 =>
    intro mc e
    obtain ⟨m2, e2, p2⟩ := ih2 mc e
    obtain ⟨m3, e3, p3⟩ := ih1 m2 e2
    exact ⟨m3, e3, p3.trans p2⟩
theorem zip_map2 {α β γ : Type} (f : α → β) (g : α → γ) : ∀ xs : List α, (xs.map f).zip (xs.map g) = xs.map fun x => (f x, g x)
  | [] => rfl
  | x :: xs => by rw [List.map_cons, List.map_cons, List.zip_cons_cons, zip_map2 f g xs, List.map_cons]
theorem sortD_map {α : Type} (f : α → D) (g : α → PyData) (xs : List α) : ∃ ys : List α, sortD (xs.map f) (xs.map g) = ys.map f ∧ ys.Perm xs := by
  unfold sortD
  rw [zip_map2]
  obtain ⟨ys, e, p⟩ := perm_of_map (fun x => (f x, g x)) (List.mergeSort_perm (xs.map fun x => (f x, g x)) (PySem.W.dataLe false Prod.snd)) xs rfl
  refine ⟨ys, ?_, p⟩
  rw [e, List.map_map]
  rfl
theorem toQ_strs : ∀ ws : List Str, toQ (ws.map D.str) = some (ws.map PyData.str)
  | [] => rfl
  | w :: ws => by
    show (match toE (.str w), toQ (ws.map D.str) with | some e, some es => some (e :: es) | _, _ => none) = _
    rw [toQ_strs ws]
    rfl
theorem toE_gv {c : Col} (h : c.2.isSome = true) : toE (gvD c) = some (dCol c) := by
  obtain ⟨w, m⟩ := c
  cases m with
  | none => cases h
  | some ms =>
    show (toQ [.str w, .lst (ms.map D.str)]).map PyData.tuple = _
    have e : toE (.lst (ms.map D.str)) = some (.list (ms.map PyData.str)) := by
      show (toQ _).map PyData.list = _
      rw [toQ_strs]
      rfl
    have e2 : toQ [.str w, .lst (ms.map D.str)] = some [.str w, .list (ms.map PyData.str)] := by
      show (match toE (.str w), toQ [.lst (ms.map D.str)] with | some e, some es => some (e :: es) | _, _ => none) = _
      have e3 : toQ [.lst (ms.map D.str)] = some [.list (ms.map PyData.str)] := by
        show (match toE (.lst (ms.map D.str)), toQ [] with | some e, some es => some (e :: es) | _, _ => none) = _
        rw [e]
        rfl
      rw [e3]
      rfl
    rw [e2]
    rfl
theorem toQ_gv : ∀ {mc : List Col}, (∀ c ∈ mc, c.2.isSome = true) → toQ (mc.map gvD) = some (mc.map dCol)
  | [], _ => rfl
  | c :: mc, h => by
    show (match toE (gvD c), toQ (mc.map gvD) with | some e, some es => some (e :: es) | _, _ => none) = _
    rw [toE_gv (h c (List.mem_cons_self ..)), toQ_gv fun x hx => h x (List.mem_cons_of_mem _ hx)]
    rfl
/-! ### dict comprehensions that change nothing -/
section
variable {E : Ex} {S : St2} {ρ : Vl.Env} {t : D → Vl.Env → Option Vl.Env} {fe fk : Vl.Env → Mo D}
theorem dic_go {Q : Ct (List (Key × D))} {α : Type} (f : α → D) (k : α → Key) (v : α → D) : ∀ (xs : List α) (acc : List (Key × D)), (∀ x ∈ xs, ∃ ρ2, t (f x) ρ = some ρ2 ∧ wp (fk ρ2) (fun y S2 => S2 = S ∧ keyD y = some (k x)) N0 S ∧ wp (fe ρ2) (fun z S3 => S3 = S ∧ z = v x) N0 S) → Q (xs.foldl (fun acc x => putKD acc (k x) (v x)) acc) S → wp (Vl.mapD t (fun _ => Vl.ret true) fk fe ρ (xs.map f) acc) (fun ys S1 => Q ys S1) N0 S
  | [], acc, _, q => q
  | x :: xs, acc, h, q => by
    obtain ⟨ρ2, e, w1, w2⟩ := h x (List.mem_cons_self ..)
    have next := dic_go f k v xs (putKD acc (k x) (v x)) (fun x hx => h x (List.mem_cons_of_mem _ hx)) q
    show wp (bnd (opt (t (f x) ρ)) fun ρ1 => bnd (Vl.ret true) fun b => if b = true then bnd (fk ρ1) fun y => bnd (opt (keyD y)) fun k => bnd (fe ρ1) fun z => Vl.mapD t (fun _ => Vl.ret true) fk fe ρ (xs.map f) (putKD acc k z) else Vl.mapD t (fun _ => Vl.ret true) fk fe ρ (xs.map f) acc) _ N0 S
    rw [w_bnd, e, w_some, w_bnd, w_ret, if_pos rfl, w_bnd]
    refine wp_mono w1 (fun y S2 c => ?_) fun _ _ _ c => c
    obtain ⟨rfl, ek⟩ := c
    rw [w_bnd, ek, w_some, w_bnd]
    refine wp_mono w2 (fun z S3 c => ?_) fun _ _ _ c => c
    obtain ⟨rfl, rfl⟩ := c
    exact next
end
theorem valD_append (xs ys : List (Key × D)) (k : Key) : valD (xs ++ ys) k = (valD xs k).or (valD ys k) := by
  induction xs with
  | nil => rfl
  | cons x xs ih =>
    rw [List.cons_append]
    by_cases e : x.1 = k
    · rw [valD_pos e, valD_pos e]; rfl
    · rw [valD_neg e, valD_neg e, ih]
theorem valD_any (xs : List (Key × D)) (k : Key) : (xs.any fun kv => decide (kv.1 = k)) = (valD xs k).isSome := by
  induction xs with
  | nil => rfl
  | cons x xs ih =>
    rw [List.any_cons]
    by_cases e : x.1 = k
    · rw [valD_pos e, decide_eq_true e]; rfl
    · rw [valD_neg e, decide_eq_false e, Bool.false_or, ih]
theorem valD_chg (xs : List (Key × D)) (k k' : Key) (d : D) : valD (xs.map fun kv => if kv.1 = k then (kv.1, d) else kv) k' = if k = k' then (valD xs k').map (fun _ => d) else valD xs k' := by
  induction xs with
  | nil =>
    rw [List.map_nil]
    split <;> rfl
  | cons x xs ih =>
    rw [List.map_cons]
    by_cases e : x.1 = k
    · rw [if_pos e]
      by_cases e2 : k = k'
      · rw [valD_pos (p := (x.1, d)) (e.trans e2), if_pos e2, valD_pos (e.trans e2)]
        rfl
      · rw [valD_neg (p := (x.1, d)) (fun z => e2 (e.symm.trans z)), ih, if_neg e2, if_neg e2, valD_neg (fun z => e2 (e.symm.trans z))]
    · rw [if_neg e]
      by_cases e2 : x.1 = k'
      · rw [valD_pos e2, valD_pos e2, if_neg (fun z => e (e2.trans z.symm))]
      · rw [valD_neg e2, valD_neg e2, ih]
theorem valD_put (xs : List (Key × D)) (k k' : Key) (d : D) : valD (putKD xs k d) k' = if k = k' then some d else valD xs k' := by
  unfold putKD
  rw [valD_any]
  cases e : valD xs k with
  | some v =>
    rw [show (some v).isSome = true from rfl, if_pos rfl, valD_chg]
    by_cases e2 : k = k'
    · rw [if_pos e2, if_pos e2, ← e2, e]
      rfl
    · rw [if_neg e2, if_neg e2]
  | none =>
    rw [show (none : Option D).isSome = false from rfl, if_neg Bool.false_ne_true, valD_append]
    by_cases e2 : k = k'
    · rw [if_pos e2, ← e2, e]
      rw [valD_pos (p := (k, d)) rfl]
      rfl
    · rw [if_neg e2, valD_neg (p := (k, d)) e2]
      cases valD xs k' <;> rfl
theorem valD_fold {α : Type} (k : α → Key) (v : α → D) : ∀ (xs : List α) (acc : List (Key × D)) (q : Key), (xs.map k).Nodup → (∀ x ∈ xs, k x = q → valD (xs.foldl (fun acc x => putKD acc (k x) (v x)) acc) q = some (v x)) ∧ ((∀ x ∈ xs, k x ≠ q) → valD (xs.foldl (fun acc x => putKD acc (k x) (v x)) acc) q = valD acc q)
  | [], acc, q, _ => ⟨fun _ h => absurd h List.not_mem_nil, fun _ => rfl⟩
  | x :: xs, acc, q, n => by
    rw [List.map_cons, List.nodup_cons] at n
    obtain ⟨h1, h2⟩ := valD_fold k v xs (putKD acc (k x) (v x)) q n.2
    refine ⟨fun y hy e => ?_, fun no => ?_⟩
    · rcases List.mem_cons.mp hy with rfl | hy
      · show valD (xs.foldl _ (putKD acc (k y) (v y))) q = _
        rw [h2 fun z hz ez => n.1 (by rw [e, ← ez]; exact List.mem_map_of_mem hz), valD_put, if_pos e]
      · exact h1 y hy e
    · show valD (xs.foldl _ (putKD acc (k x) (v x))) q = _
      rw [h2 fun z hz => no z (List.mem_cons_of_mem _ hz), valD_put, if_neg (no x (List.mem_cons_self ..))]
end Lw
set_option Elab.async false
set_option linter.all false
set_option maxRecDepth 100000
set_option maxHeartbeats 4000000
namespace Lw
open PySem PySem.Spec PyProof.Rows L2 Oc Os Vl

theorem put_ne {f g : Str} {x d : D} {r : List (Str × D)} (h : ¬ g = f) : putD f d ((g, x) :: r) = (g, x) :: putD f d r := if_neg h
theorem lk_ne {f g : Str} {x : D} {r : List (Str × D)} (h : ¬ f = g) : List.lookup f ((g, x) :: r) = List.lookup f r := by
  show (match f == g with | true => some x | false => List.lookup f r) = _
  rw [beq_eq_false_iff_ne.mpr h]
theorem lk_eq {f : Str} {x : D} {r : List (Str × D)} : List.lookup f ((f, x) :: r) = some x := by
  show (match f == f with | true => some x | false => List.lookup f r) = _
  rw [beq_self_eq_true]
theorem g_dt {R : Ct (Fl × Vl.Env)} {E : Ex} {S : St2} {ρ : Vl.Env} {d : D} {i : Nat} {f C : Str} {t : List Str} {fs fs' : List (Str × D)} (e : (ρ[i]?).join = some (.ins C fs)) (h1 : t.contains C = true) (h2 : fs.length < 1000) (e2 : putD f d fs = fs') (h : R (.nx, ρ.set i (some (.ins C fs'))) S) : kFd i f t ρ R E d S := by
  refine g_et ?_
  rw [e]
  refine g_eu h1 h2 ?_
  rw [e2]
  exact h
/-- the table with this name and these columns -/
def tabI (nm : Str) (cols : List Col) (kvs : List (Key × D)) : D := .ins "Table" [("_name", .str nm), ("_columns", strsT (cols.map Prod.fst)), ("_marks", .dic kvs)]
theorem tab_of {nm : Str} {cols : List Col} {kvs : List (Key × D)} (h : ∀ c ∈ cols, valD kvs (.inr c.1) = c.2.map strsT) : TabD (tabI nm cols kvs) cols := ⟨_, kvs, rfl, by rw [lk_ne (by decide +kernel), lk_eq], by rw [lk_ne (by decide +kernel), lk_ne (by decide +kernel), lk_eq], h, by rw [lk_ne (by decide +kernel), lk_ne (by decide +kernel), lk_ne (by decide +kernel)]; rfl, by rw [lk_ne (by decide +kernel), lk_ne (by decide +kernel), lk_ne (by decide +kernel)]; rfl⟩
def isTup : D → Bool
  | .tup _ => true
  | _ => false
theorem filt_gv (cols : List Col) : ((cols.map gvD).filter isTup).map id = (cols.filter fun c => c.2.isSome).map gvD := by
  rw [List.map_id, List.filter_map]
  congr 1
  refine List.filter_congr fun c _ => ?_
  obtain ⟨w, m⟩ := c
  cases m <;> rfl
end Lw
set_option Elab.async false
set_option linter.all false
set_option maxRecDepth 100000
set_option maxHeartbeats 4000000
namespace Lw
open PySem PySem.Spec PyProof.Rows L2 Oc Os Vl
local macro_rules | `(tactic| walk_at "go") => `(tactic| (with_reducible repeat first | refine g_c6 ?_ | refine g_l ?_ | refine g_m ?_ | refine g_n ?_ | refine g_o ?_ | refine g_p ?_ | refine g_q ?_ | refine g_r ?_ | refine g_s ?_ | refine g_t ?_ | refine g_u ?_ | refine g_v ?_ | refine g_c7 ?_ | refine g_d ?_ | refine g_a ?_ | refine g_w ?_ | refine g_x (by with_unfolding_all exact rfl) ?_ | refine g_y ?_ | refine g_z (by with_unfolding_all exact rfl) ?_ | refine g_aa ?_ | refine g_ab ?_ | refine g_ac ?_ | refine g_ad (by with_unfolding_all exact rfl) ?_ | refine g_ae (by with_unfolding_all exact rfl) ?_ | refine g_af (by with_unfolding_all exact rfl) ?_ | refine g_ag ?_ | refine g_ah ?_ | refine g_ai ?_ | refine g_b (by with_unfolding_all exact rfl) ?_ | refine g_aj ?_ | refine g_ak ?_ | refine g_al ?_ | refine g_am ?_ | refine g_an ?_ | refine g_ao ?_ | refine g_ap ?_ | refine g_aq ?_ | refine g_ar ?_ | refine g_as ?_ | refine g_at ?_ | refine g_au ?_ | refine g_av ?_ | refine g_aw ?_ | refine g_ax ?_ | refine g_ay ?_ | refine g_az (by with_unfolding_all exact rfl) ?_ | refine g_a0 ?_ | refine g_a1 ?_ | refine g_a2 ?_ | refine g_a3 ?_ | refine g_a4 ?_ | refine g_a5 ?_ | refine g_a6 ?_ | refine g_a7 ?_ | refine g_a8 ?_ | refine g_a9 ?_ | refine g_ba ?_ | refine g_bb ?_ | refine g_bc ?_ | refine g_bd ?_ | refine g_e (by with_unfolding_all exact rfl) ?_ | refine g_f (by with_unfolding_all exact rfl) ?_ | refine g_be ?_ | refine g_bg (by with_unfolding_all exact rfl) ?_ | refine g_bf (by with_unfolding_all exact rfl) ?_ | refine g_bh ?_ | refine g_bi ?_ | refine g_bj ?_ | refine g_bk ?_ | refine g_bl ?_ | refine g_bm ?_ | refine g_bn ?_ | refine g_bo ?_ | refine g_bp ?_ | refine g_bq ?_ | refine g_br ?_ | refine g_bs ?_ | refine g_bt ?_ | refine g_bu ?_ | refine g_bv ?_ | refine g_bw ?_ | refine g_bx ?_ | refine g_by ?_ | refine g_bz ?_ | refine g_b0 ?_ | refine g_b1 ?_ | refine g_b2 ?_ | refine g_b3 ?_ | refine g_b4 ?_ | refine g_b5 ?_ | refine g_b6 ?_ | refine g_b7 ?_ | refine g_b8 ?_ | refine g_b9 ?_ | refine g_ca ?_ | refine g_cb ?_ | refine g_cc ?_ | refine g_cd ?_ | refine g_ce ?_ | refine g_i ?_ | refine g_j ?_ | refine g_cf ?_ | refine g_cg ?_ | refine g_ch ?_ | refine g_ci ?_ | refine g_cj ?_ | refine g_ck ?_ | refine g_cl ?_ | refine g_cm ?_ | refine g_cn ?_ | refine g_co ?_ | refine g_cp ?_ | refine g_cq ?_ | refine g_cr ?_ | refine g_cs ?_ | refine g_ct ?_ | refine g_cu ?_ | refine g_cv ?_ | refine g_cw ?_ | refine g_cx ?_ | refine g_cy ?_ | refine g_h ?_ | refine g_cz ?_ | refine g_c0 ?_ | refine g_c1 ?_ | refine g_c2 ?_ | refine g_c3 ?_ | refine g_c4 ?_ | refine g_k (by with_unfolding_all exact rfl) ?_ | refine g_c5 ?_| refine g_c9 ?_ | refine g_de ?_ | refine g_df ?_ | refine g_dg ?_ | refine g_dh ?_ | refine g_di ?_ | refine g_dj ?_ | refine g_dk ?_ | refine g_dl ?_ | refine g_dm ?_ | refine g_dn ?_))
/-! ### k10: what Rule's arguments are held against -/
def Num : D → Prop
  | .int _ => True
  | .bl _ => True
  | .non => True
  | _ => False
def intB : D → Bool
  | .int _ => true
  | _ => false
section
variable {Q : Ct D} {E : Ex} {S : St2}
theorem g_ei {fa : Vl.Env → Mo D} {ρ : Vl.Env} (h : wp (fa ρ) (fun x S1 => ∃ b, x = .bl b ∧ Q (.bl (!b)) S1) E S) : wp (fNt fa ρ) Q E S := by
  unfold fNt
  rw [w_bnd]
  refine wp_mono h (fun x S1 ⟨b, e, q⟩ => ?_) fun _ _ _ q => q
  subst e
  exact q
theorem is_integer_go {x : D} (hx : Num x) (h : Q (.bl (intB x)) S) : wp (F_is_integer [x]) Q E S := by
  unfold F_is_integer
  refine g_c rfl ?_
  unfold m_is_integer
  cases x <;> first | exact hx.elim | skip
  · walk_at "go"
    refine g_dd (ty := "NoneType") rfl (by decide +kernel : isAny "NoneType" ["int"] = some false) ?_
    walk_at "go"
    exact h
  · walk_at "go"
    refine g_dd (ty := "bool") rfl (by decide +kernel : isAny "bool" ["int"] = some true) ?_
    walk_at "go"
    refine g_ei ?_
    walk_at "go"
    refine g_dd (ty := "bool") rfl (by decide +kernel : isAny "bool" ["bool"] = some true) ?_
    exact ⟨_, rfl, h⟩
  · walk_at "go"
    refine g_dd (ty := "int") rfl (by decide +kernel : isAny "int" ["int"] = some true) ?_
    walk_at "go"
    refine g_ei ?_
    walk_at "go"
    refine g_dd (ty := "int") rfl (by decide +kernel : isAny "int" ["bool"] = some false) ?_
    exact ⟨_, rfl, h⟩
theorem check_go {b : Bool} {a : Str} (h1 : b = true → Q .non S) (h2 : b = false → E "InvalidRule" [("argument", .str a)] S) : wp (F_check_argument [.bl b, .str a]) Q E S := by
  unfold F_check_argument
  refine g_c rfl ?_
  unfold m_check_argument
  walk_at "go"
  cases b
  · refine g_d ?_
    walk_at "go"
    exact h2 rfl
  · refine g_a ?_
    walk_at "go"
    exact h1 rfl
def prD (p : D × D) : D := .tup [p.1, p.2]
theorem is_pair_go {p : D × D} (ha : Ent p.1) (hb : Ent p.2) (h : Q (.bl (wordB p.1 && wordB p.2)) S) : wp (F_is_pair [prD p]) Q E S := by
  unfold F_is_pair prD
  refine g_c rfl ?_
  unfold m_is_pair
  walk_at "go"
  refine g_dd (ty := "tuple") rfl (isA_tup _ (by decide)) ?_
  rw [show (("tuple" : String) == "tuple") = true by decide]
  walk_at "go"
  refine g_dx rfl rfl (sh_int _) (sh_int _) ?_
  rw [show PyData.eqv (.int (([p.1, p.2] : List D).length : Nat)) (.int 2) = true from (eqv_nat (a := 2) (b := 2)).trans (decide_eq_true rfl), Bool.not_true]
  walk_at "go"
  refine g_d4 (d := p.1) rfl ?_
  walk_at "go"
  refine is_word_go ha ?_
  walk_at "go"
  cases e : wordB p.1
  · rw [e] at h
    refine g_f rfl ?_
    exact h
  · rw [e] at h
    refine g_e rfl ?_
    walk_at "go"
    refine g_d4 (d := p.2) rfl ?_
    walk_at "go"
    refine is_word_go hb ?_
    exact h
end
end Lw
set_option Elab.async false
set_option linter.all false
set_option maxRecDepth 100000
set_option maxHeartbeats 4000000
namespace Lw
open PySem PySem.Spec PyProof.Rows L2 Oc Os Vl
local macro_rules | `(tactic| walk_at "go") => `(tactic| (with_reducible repeat first | refine g_c6 ?_ | refine g_l ?_ | refine g_m ?_ | refine g_n ?_ | refine g_o ?_ | refine g_p ?_ | refine g_q ?_ | refine g_r ?_ | refine g_s ?_ | refine g_t ?_ | refine g_u ?_ | refine g_v ?_ | refine g_c7 ?_ | refine g_d ?_ | refine g_a ?_ | refine g_w ?_ | refine g_x (by with_unfolding_all exact rfl) ?_ | refine g_y ?_ | refine g_z (by with_unfolding_all exact rfl) ?_ | refine g_aa ?_ | refine g_ab ?_ | refine g_ac ?_ | refine g_ad (by with_unfolding_all exact rfl) ?_ | refine g_ae (by with_unfolding_all exact rfl) ?_ | refine g_af (by with_unfolding_all exact rfl) ?_ | refine g_ag ?_ | refine g_ah ?_ | refine g_ai ?_ | refine g_b (by with_unfolding_all exact rfl) ?_ | refine g_aj ?_ | refine g_ak ?_ | refine g_al ?_ | refine g_am ?_ | refine g_an ?_ | refine g_ao ?_ | refine g_ap ?_ | refine g_aq ?_ | refine g_ar ?_ | refine g_as ?_ | refine g_at ?_ | refine g_au ?_ | refine g_av ?_ | refine g_aw ?_ | refine g_ax ?_ | refine g_ay ?_ | refine g_az (by with_unfolding_all exact rfl) ?_ | refine g_a0 ?_ | refine g_a1 ?_ | refine g_a2 ?_ | refine g_a3 ?_ | refine g_a4 ?_ | refine g_a5 ?_ | refine g_a6 ?_ | refine g_a7 ?_ | refine g_a8 ?_ | refine g_a9 ?_ | refine g_ba ?_ | refine g_bb ?_ | refine g_bc ?_ | refine g_bd ?_ | refine g_e (by with_unfolding_all exact rfl) ?_ | refine g_f (by with_unfolding_all exact rfl) ?_ | refine g_be ?_ | refine g_bg (by with_unfolding_all exact rfl) ?_ | refine g_bf (by with_unfolding_all exact rfl) ?_ | refine g_bh ?_ | refine g_bi ?_ | refine g_bj ?_ | refine g_bk ?_ | refine g_bl ?_ | refine g_bm ?_ | refine g_bn ?_ | refine g_bo ?_ | refine g_bp ?_ | refine g_bq ?_ | refine g_br ?_ | refine g_bs ?_ | refine g_bt ?_ | refine g_bu ?_ | refine g_bv ?_ | refine g_bw ?_ | refine g_bx ?_ | refine g_by ?_ | refine g_bz ?_ | refine g_b0 ?_ | refine g_b1 ?_ | refine g_b2 ?_ | refine g_b3 ?_ | refine g_b4 ?_ | refine g_b5 ?_ | refine g_b6 ?_ | refine g_b7 ?_ | refine g_b8 ?_ | refine g_b9 ?_ | refine g_ca ?_ | refine g_cb ?_ | refine g_cc ?_ | refine g_cd ?_ | refine g_ce ?_ | refine g_i ?_ | refine g_j ?_ | refine g_cf ?_ | refine g_cg ?_ | refine g_ch ?_ | refine g_ci ?_ | refine g_cj ?_ | refine g_ck ?_ | refine g_cl ?_ | refine g_cm ?_ | refine g_cn ?_ | refine g_co ?_ | refine g_cp ?_ | refine g_cq ?_ | refine g_cr ?_ | refine g_cs ?_ | refine g_ct ?_ | refine g_cu ?_ | refine g_cv ?_ | refine g_cw ?_ | refine g_cx ?_ | refine g_cy ?_ | refine g_h ?_ | refine g_cz ?_ | refine g_c0 ?_ | refine g_c1 ?_ | refine g_c2 ?_ | refine g_c3 ?_ | refine g_c4 ?_ | refine g_k (by with_unfolding_all exact rfl) ?_ | refine g_c5 ?_| refine g_c9 ?_ | refine g_de ?_ | refine g_df ?_ | refine g_dg ?_ | refine g_dh ?_ | refine g_di ?_ | refine g_dj ?_ | refine g_dk ?_ | refine g_dl ?_ | refine g_dm ?_ | refine g_dn ?_))
/-! ### k10: pairs -/
inductive Sq (ds : List D) : D → Prop
  | l : Sq ds (.lst ds)
  | t : Sq ds (.tup ds)
def fstD : D → D
  | .tup (a :: _) => a
  | x => x
def sndD : D → D
  | .tup (_ :: b :: _) => b
  | x => x
def strO : D → Str
  | .str z => z
  | _ => ""
theorem str_of {x : D} (h : wordB x = true) : x = .str (strO x) := by
  cases x <;> first | rfl | cases h
def diffB (ws : List Str) : Bool := decide ((fm ws).length = ws.length)
def okP (p : D × D) : Bool := wordB p.1 && wordB p.2
def pairsB (ps : List (D × D)) : Bool := decide (ps.length ≤ 2) && ((ps.map okP).all id && (diffB (ps.map fun p => strO p.1) && diffB (ps.map fun p => strO p.2)))
section
variable {Q : Ct D} {E : Ex} {S : St2}
theorem firsts_go {ps : List (D × D)} {x : D} (hs : Sq (ps.map prD) x) (hl : ps.length ≤ 1000) (h : Q (.lst (ps.map fun p => p.1)) S) : wp (F_firsts_of [x]) Q E S := by
  have fin : wp (mapC (gTp 2 (gCn (gN 1) (gCn (gN 2) gNl))) (fun _ => Vl.ret true) (fVar 1) (wipeD (startD 3 [x]) [1, 2]) (ps.map prD)) (fun ys S1 => Q (.lst ys) S1) (fun _ _ _ => False) S := by
    refine map_fun fstD (fun d hd => ?_) ?_
    · obtain ⟨p, hp, rfl⟩ := List.mem_map.mp hd
      refine ⟨_, rfl, ?_⟩
      walk_at "go"
      exact ⟨rfl, rfl⟩
    · rw [List.map_map]
      exact h
  have hl2 : (ps.map prD).length ≤ 100000 := by rw [List.length_map]; omega
  unfold F_firsts_of
  refine g_c (by cases hs <;> rfl) ?_
  unfold m_firsts_of
  cases hs
  · walk_at "go"
    refine g_c8 hl2 fin
  · walk_at "go"
    refine g_c8 hl2 fin
theorem seconds_go {ps : List (D × D)} {x : D} (hs : Sq (ps.map prD) x) (hl : ps.length ≤ 1000) (h : Q (.lst (ps.map fun p => p.2)) S) : wp (F_seconds_of [x]) Q E S := by
  have fin : wp (mapC (gTp 2 (gCn (gN 1) (gCn (gN 2) gNl))) (fun _ => Vl.ret true) (fVar 2) (wipeD (startD 3 [x]) [1, 2]) (ps.map prD)) (fun ys S1 => Q (.lst ys) S1) (fun _ _ _ => False) S := by
    refine map_fun sndD (fun d hd => ?_) ?_
    · obtain ⟨p, hp, rfl⟩ := List.mem_map.mp hd
      refine ⟨_, rfl, ?_⟩
      walk_at "go"
      exact ⟨rfl, rfl⟩
    · rw [List.map_map]
      exact h
  have hl2 : (ps.map prD).length ≤ 100000 := by rw [List.length_map]; omega
  unfold F_seconds_of
  refine g_c (by cases hs <;> rfl) ?_
  unfold m_seconds_of
  cases hs
  · walk_at "go"
    refine g_c8 hl2 fin
  · walk_at "go"
    refine g_c8 hl2 fin
theorem different_any {ws : List Str} (hl : ws.length ≤ 1000) (h : Q (.bl (diffB ws)) S) : wp (F_are_different [.lst (ws.map D.str)]) Q E S := by
  unfold F_are_different
  refine g_c rfl ?_
  unfold m_are_different
  walk_at "go"
  refine g_eg (strs_map ws) (by omega) ?_
  walk_at "go"
  rw [List.length_map]
  refine g_dr rfl rfl (sh_int _) (sh_int _) ?_
  rw [eqv_nat]
  walk_at "go"
  exact h
theorem list_any {ds : List D} {x : D} (hs : Sq ds x) (h : Q (.bl true) S) : wp (F_is_list [x]) Q E S := by
  cases hs
  · exact is_list_go h
  · unfold F_is_list
    refine g_c rfl ?_
    unfold m_is_list
    walk_at "go"
    refine g_dd (ty := "tuple") rfl (isA_lt _ (by decide)) ?_
    walk_at "go"
    exact h
theorem are_pairs_go {ps : List (D × D)} {x : D} (hs : Sq (ps.map prD) x) (hl : ps.length ≤ 1000) (he : ∀ p ∈ ps, Ent p.1 ∧ Ent p.2) (h : Q (.bl (pairsB ps)) S) : wp (F_are_pairs [x]) Q E S := by
  have fin : ∀ {Q2 : Ct (List D)}, Q2 (ps.map fun p => .bl (okP p)) S → wp (mapC (gN 1) (fun _ => Vl.ret true) (fN (fCons (fVar 1) fNil) F_is_pair) (wipeD (startD 2 [x]) [1]) (ps.map prD)) Q2 (fun _ _ _ => False) S := fun {Q2} k => by
    refine map_fun (fun d => .bl (wordB (fstD d) && wordB (sndD d))) (fun d hd => ?_) ?_
    · obtain ⟨p, hp, rfl⟩ := List.mem_map.mp hd
      refine ⟨_, rfl, ?_⟩
      walk_at "go"
      refine is_pair_go (he p hp).1 (he p hp).2 ?_
      exact ⟨rfl, rfl⟩
    · rw [List.map_map]
      exact k
  have hl2 : (ps.map prD).length ≤ 100000 := by rw [List.length_map]; omega
  have big : (2 : Int) < (ps.length : Int) → Q (.bl false) S := fun q => by
    have e : pairsB ps = false := by
      unfold pairsB
      rw [decide_eq_false (by omega), Bool.false_and]
    rw [← e]
    exact h
  have e1 : (ps.map okP).all id = false → Q (.bl false) S := fun e => by
    have e : pairsB ps = false := by
      unfold pairsB
      rw [e, Bool.false_and, Bool.and_false]
    rw [← e]
    exact h
  have e2 : ¬ (2 : Int) < (ps.length : Int) → (ps.map okP).all id = true → Q (.bl (diffB (ps.map fun p => strO p.1) && diffB (ps.map fun p => strO p.2))) S := fun a b => by
    have e : pairsB ps = (diffB (ps.map fun p => strO p.1) && diffB (ps.map fun p => strO p.2)) := by
      unfold pairsB
      rw [b, decide_eq_true (by omega), Bool.true_and, Bool.true_and]
    rw [← e]
    exact h
  have w1 : (ps.map okP).all id = true → (ps.map fun p => p.1) = (ps.map fun p => strO p.1).map D.str ∧ (ps.map fun p => p.2) = (ps.map fun p => strO p.2).map D.str := fun b => by
    have b : ∀ p ∈ ps, okP p = true := fun p hp => List.all_eq_true.mp b _ (List.mem_map_of_mem hp)
    rw [List.map_map, List.map_map]
    exact ⟨List.map_congr_left fun p hp => str_of (Bool.and_eq_true_iff.mp (b p hp)).1, List.map_congr_left fun p hp => str_of (Bool.and_eq_true_iff.mp (b p hp)).2⟩
  unfold F_are_pairs
  refine g_c (by cases hs <;> rfl) ?_
  unfold m_are_pairs
  have hs2 := hs
  cases hs
  · walk_at "go"
    refine list_any hs2 ?_
    walk_at "go"
    rw [List.length_map]
    refine g_dw (fun q => ?_) fun q => ?_
    · walk_at "go"
      exact big q
    walk_at "go"
    refine g_c8 hl2 (fin ?_)
    walk_at "go"
    refine g_du (bls_map okP ps) ?_
    walk_at "go"
    cases e : (ps.map okP).all id
    · refine g_d ?_
      walk_at "go"
      exact e1 e
    refine g_a ?_
    walk_at "go"
    refine firsts_go hs2 hl ?_
    walk_at "go"
    rw [(w1 e).1]
    refine different_any (by rw [List.length_map]; exact hl) ?_
    have e3 := e2 q e
    cases e4 : diffB (ps.map fun p => strO p.1)
    · rw [e4] at e3
      refine g_f rfl ?_
      exact e3
    rw [e4] at e3
    refine g_e rfl ?_
    walk_at "go"
    refine seconds_go hs2 hl ?_
    walk_at "go"
    rw [(w1 e).2]
    refine different_any (by rw [List.length_map]; exact hl) ?_
    exact e3
  · walk_at "go"
    refine list_any hs2 ?_
    walk_at "go"
    rw [List.length_map]
    refine g_dw (fun q => ?_) fun q => ?_
    · walk_at "go"
      exact big q
    walk_at "go"
    refine g_c8 hl2 (fin ?_)
    walk_at "go"
    refine g_du (bls_map okP ps) ?_
    walk_at "go"
    cases e : (ps.map okP).all id
    · refine g_d ?_
      walk_at "go"
      exact e1 e
    refine g_a ?_
    walk_at "go"
    refine firsts_go hs2 hl ?_
    walk_at "go"
    rw [(w1 e).1]
    refine different_any (by rw [List.length_map]; exact hl) ?_
    have e3 := e2 q e
    cases e4 : diffB (ps.map fun p => strO p.1)
    · rw [e4] at e3
      refine g_f rfl ?_
      exact e3
    rw [e4] at e3
    refine g_e rfl ?_
    walk_at "go"
    refine seconds_go hs2 hl ?_
    walk_at "go"
    rw [(w1 e).2]
    refine different_any (by rw [List.length_map]; exact hl) ?_
    exact e3
end
end Lw
set_option Elab.async false
set_option linter.all false
set_option maxRecDepth 100000
set_option maxHeartbeats 4000000
namespace Lw
open PySem PySem.Spec PyProof.Rows L2 Oc Os Vl
local macro_rules | `(tactic| walk_at "go") => `(tactic| (with_reducible repeat first | refine g_c6 ?_ | refine g_l ?_ | refine g_m ?_ | refine g_n ?_ | refine g_o ?_ | refine g_p ?_ | refine g_q ?_ | refine g_r ?_ | refine g_s ?_ | refine g_t ?_ | refine g_u ?_ | refine g_v ?_ | refine g_c7 ?_ | refine g_d ?_ | refine g_a ?_ | refine g_w ?_ | refine g_x (by with_unfolding_all exact rfl) ?_ | refine g_y ?_ | refine g_z (by with_unfolding_all exact rfl) ?_ | refine g_aa ?_ | refine g_ab ?_ | refine g_ac ?_ | refine g_ad (by with_unfolding_all exact rfl) ?_ | refine g_ae (by with_unfolding_all exact rfl) ?_ | refine g_af (by with_unfolding_all exact rfl) ?_ | refine g_ag ?_ | refine g_ah ?_ | refine g_ai ?_ | refine g_b (by with_unfolding_all exact rfl) ?_ | refine g_aj ?_ | refine g_ak ?_ | refine g_al ?_ | refine g_am ?_ | refine g_an ?_ | refine g_ao ?_ | refine g_ap ?_ | refine g_aq ?_ | refine g_ar ?_ | refine g_as ?_ | refine g_at ?_ | refine g_au ?_ | refine g_av ?_ | refine g_aw ?_ | refine g_ax ?_ | refine g_ay ?_ | refine g_az (by with_unfolding_all exact rfl) ?_ | refine g_a0 ?_ | refine g_a1 ?_ | refine g_a2 ?_ | refine g_a3 ?_ | refine g_a4 ?_ | refine g_a5 ?_ | refine g_a6 ?_ | refine g_a7 ?_ | refine g_a8 ?_ | refine g_a9 ?_ | refine g_ba ?_ | refine g_bb ?_ | refine g_bc ?_ | refine g_bd ?_ | refine g_e (by with_unfolding_all exact rfl) ?_ | refine g_f (by with_unfolding_all exact rfl) ?_ | refine g_be ?_ | refine g_bg (by with_unfolding_all exact rfl) ?_ | refine g_bf (by with_unfolding_all exact rfl) ?_ | refine g_bh ?_ | refine g_bi ?_ | refine g_bj ?_ | refine g_bk ?_ | refine g_bl ?_ | refine g_bm ?_ | refine g_bn ?_ | refine g_bo ?_ | refine g_bp ?_ | refine g_bq ?_ | refine g_br ?_ | refine g_bs ?_ | refine g_bt ?_ | refine g_bu ?_ | refine g_bv ?_ | refine g_bw ?_ | refine g_bx ?_ | refine g_by ?_ | refine g_bz ?_ | refine g_b0 ?_ | refine g_b1 ?_ | refine g_b2 ?_ | refine g_b3 ?_ | refine g_b4 ?_ | refine g_b5 ?_ | refine g_b6 ?_ | refine g_b7 ?_ | refine g_b8 ?_ | refine g_b9 ?_ | refine g_ca ?_ | refine g_cb ?_ | refine g_cc ?_ | refine g_cd ?_ | refine g_ce ?_ | refine g_i ?_ | refine g_j ?_ | refine g_cf ?_ | refine g_cg ?_ | refine g_ch ?_ | refine g_ci ?_ | refine g_cj ?_ | refine g_ck ?_ | refine g_cl ?_ | refine g_cm ?_ | refine g_cn ?_ | refine g_co ?_ | refine g_cp ?_ | refine g_cq ?_ | refine g_cr ?_ | refine g_cs ?_ | refine g_ct ?_ | refine g_cu ?_ | refine g_cv ?_ | refine g_cw ?_ | refine g_cx ?_ | refine g_cy ?_ | refine g_h ?_ | refine g_cz ?_ | refine g_c0 ?_ | refine g_c1 ?_ | refine g_c2 ?_ | refine g_c3 ?_ | refine g_c4 ?_ | refine g_k (by with_unfolding_all exact rfl) ?_ | refine g_c5 ?_| refine g_c9 ?_ | refine g_de ?_ | refine g_df ?_ | refine g_dg ?_ | refine g_dh ?_ | refine g_di ?_ | refine g_dj ?_ | refine g_dk ?_ | refine g_dl ?_ | refine g_dm ?_ | refine g_dn ?_))
/-! ### k10: numbers, wheres -/
def leastB : D → Bool
  | .int i => decide (0 ≤ i) && decide (i ≤ 2)
  | _ => false
def mostB (j : Int) : D → Bool
  | .non => decide (0 < j)
  | .int i => decide (j ≤ i) && decide (i ≤ 3)
  | _ => false
/-- what the law lets a where be -/
inductive Wv where
  | non | nil | two (w a b : Str) | three (w a b c : Str)
def Wv.d : Wv → D
  | .non => .non
  | .nil => .dic []
  | .two w a b => .dic [(.inr w, .lst [.str a, .str b])]
  | .three w a b c => .dic [(.inr w, .lst [.str a, .str b, .str c])]
def Wv.ok : Wv → Bool
  | .three .. => false
  | _ => true
def Wv.Fine : Wv → Prop
  | .two w a b => Wd w ∧ (∀ x ∈ [a, b], Wd x) ∧ [a, b].Nodup
  | .three w _ _ _ => Wd w
  | _ => True
def Wv.kept : Wv → D
  | .two w a b => .dic [(.inr w, .tup (sortD [.str a, .str b] [.str a, .str b]))]
  | _ => .dic []
section
variable {Q : Ct D} {E : Ex} {S : St2}
theorem is_least_go {x : D} (hx : Num x) (h : Q (.bl (leastB x)) S) : wp (F_is_least [x]) Q E S := by
  unfold F_is_least
  refine g_c rfl ?_
  unfold m_is_least
  walk_at "go"
  refine is_integer_go hx ?_
  cases x <;> first | exact hx.elim | skip
  · refine g_f rfl ?_
    exact h
  · refine g_f rfl ?_
    exact h
  · next i =>
    refine g_e rfl ?_
    have h : Q (.bl (decide (0 ≤ i) && decide (i ≤ 2))) S := h
    walk_at "go"
    refine g_dz (fun p => ?_) fun p => ?_
    · rw [p, Bool.true_and] at h
      walk_at "go"
      exact h
    · rw [p, Bool.false_and] at h
      walk_at "go"
      exact h
theorem is_most_go {x : D} {j : Int} (hx : Num x) (h : Q (.bl (mostB j x)) S) : wp (F_is_most [x, .int j]) Q E S := by
  unfold F_is_most
  refine g_c rfl ?_
  unfold m_is_most
  walk_at "go"
  cases x <;> first | exact hx.elim | skip
  · refine g_d ?_
    walk_at "go"
    exact h
  · refine g_a ?_
    walk_at "go"
    refine is_integer_go hx ?_
    refine g_f rfl ?_
    exact h
  · next i =>
    refine g_a ?_
    walk_at "go"
    refine is_integer_go hx ?_
    refine g_e rfl ?_
    have h : Q (.bl (decide (j ≤ i) && decide (i ≤ 3))) S := h
    walk_at "go"
    refine g_dz (fun p => ?_) fun p => ?_
    · rw [p, Bool.true_and] at h
      walk_at "go"
      exact h
    · rw [p, Bool.false_and] at h
      walk_at "go"
      exact h
theorem words3_go {a b c : Str} (h : Q (.bl false) S) : wp (F_are_words [.lst [.str a, .str b, .str c], .int 1, .int 2]) Q E S := by
  unfold F_are_words
  refine g_c rfl ?_
  unfold m_are_words
  walk_at "go"
  refine is_list_go ?_
  walk_at "go"
  rw [show decide ((1 : Int) ≤ (([.str a, .str b, .str c] : List D).length : Nat)) = true from decide_eq_true (by show (1 : Int) ≤ ((3 : Nat) : Int); omega)]
  walk_at "go"
  rw [show decide ((([.str a, .str b, .str c] : List D).length : Int) ≤ 2) = false from decide_eq_false (by show ¬ (((3 : Nat) : Int) ≤ 2); omega), Bool.not_false]
  walk_at "go"
  exact h
theorem g_d7 {kvs : List (Key × D)} {z : Str} {d : D} (e : valD kvs (.inr z) = some d) (h : Q d S) : wp (kGet (.dic kvs) (.str z)) Q E S := by
  show wp (kPget (.dic kvs) (.str z)) Q E S
  unfold kPget
  simp only [e]
  exact h
theorem g_e4 (h : Q (.lst []) S) : wp (kSortK [.dic []]) Q E S := h
theorem g_e5 {z : Str} {d : D} (h : Q (.lst [.str z]) S) : wp (kSortK [.dic [(.inr z, d)]]) Q E S := h
theorem sort2 (a b : Str) : SortOk [.str a, .str b] := by
  have m : ∀ d ∈ ([.str a, .str b] : List PyData), ∃ z, d = .str z := fun d hd => by
    rcases List.mem_cons.mp hd with e | hd
    · exact ⟨a, e⟩
    · exact ⟨b, List.mem_singleton.mp hd⟩
  refine ⟨fun d hd e he => ?_, .inr fun d hd => ?_, fun d hd => ?_⟩
  · obtain ⟨y, rfl⟩ := m d hd
    obtain ⟨z, rfl⟩ := m e he
    rfl
  · obtain ⟨y, rfl⟩ := m d hd
    exact ⟨(fun e => by cases e), fun xs e => by cases e⟩
  · obtain ⟨y, rfl⟩ := m d hd
    simp [PyData.depth]
theorem g_d8 {fe : Vl.Env → Mo D} {ρ : Vl.Env} {P : Ct (List D)} (h : wp (fe ρ) (fun d S1 => ∃ kvs, d = .dic kvs ∧ P (kvs.map fun p => keyV p.1) S1) E S) : wp (iKeyD fe ρ) P E S := by
  unfold iKeyD
  rw [w_bnd]
  refine wp_mono h (fun d S1 ⟨kvs, e, q⟩ => ?_) fun _ _ _ q => q
  subst e
  exact q
theorem is_where_go {v : Wv} (hv : v.Fine) (h : Q (.bl v.ok) S) : wp (F_is_where [v.d]) Q E S := by
  unfold F_is_where
  refine g_c rfl ?_
  unfold m_is_where
  cases v with
  | non =>
    walk_at "go"
    refine g_d ?_
    walk_at "go"
    exact h
  | nil =>
    walk_at "go"
    refine g_a ?_
    walk_at "go"
    refine g_dd (ty := "dict") rfl (by decide +kernel : isAny "dict" ["dict"] = some true) ?_
    walk_at "go"
    refine g_d8 ?_
    walk_at "go"
    refine ⟨_, rfl, ?_⟩
    refine g_c8 (Nat.le_of_ble_eq_true rfl) ?_
    refine map_fun (fun d => d) (fun d hd => by cases hd) ?_
    walk_at "go"
    refine g_du (bs := []) rfl ?_
    walk_at "go"
    exact h
  | two w a b =>
    walk_at "go"
    refine g_a ?_
    walk_at "go"
    refine g_dd (ty := "dict") rfl (by decide +kernel : isAny "dict" ["dict"] = some true) ?_
    walk_at "go"
    refine g_d8 ?_
    walk_at "go"
    refine ⟨_, rfl, ?_⟩
    refine g_c8 (Nat.le_of_ble_eq_true rfl) ?_
    refine map_fun (fun _ => .bl true) (fun d hd => ?_) ?_
    · have e : d = .str w := List.mem_singleton.mp hd
      subst e
      refine ⟨_, rfl, ?_⟩
      walk_at "go"
      refine is_word_go (word_str hv.1).1 ?_
      rw [(word_str hv.1).2]
      refine g_e rfl ?_
      walk_at "go"
      refine g_d7 (valD_pos rfl) ?_
      walk_at "go"
      refine are_words_go (ws := [a, b]) (lo := 1) (hi := 2) hv.2.1 hv.2.2 (Nat.le_of_ble_eq_true rfl) (Nat.le_of_ble_eq_true rfl) (by decide) ?_
      exact ⟨rfl, rfl⟩
    walk_at "go"
    refine g_du (bs := [true]) rfl ?_
    walk_at "go"
    exact h
  | three w a b c =>
    walk_at "go"
    refine g_a ?_
    walk_at "go"
    refine g_dd (ty := "dict") rfl (by decide +kernel : isAny "dict" ["dict"] = some true) ?_
    walk_at "go"
    refine g_d8 ?_
    walk_at "go"
    refine ⟨_, rfl, ?_⟩
    refine g_c8 (Nat.le_of_ble_eq_true rfl) ?_
    refine map_fun (fun _ => .bl false) (fun d hd => ?_) ?_
    · have e : d = .str w := List.mem_singleton.mp hd
      subst e
      have hv : Wd w := hv
      refine ⟨_, rfl, ?_⟩
      walk_at "go"
      refine is_word_go (word_str hv).1 ?_
      rw [(word_str hv).2]
      refine g_e rfl ?_
      walk_at "go"
      refine g_d7 (valD_pos rfl) ?_
      walk_at "go"
      refine words3_go ?_
      exact ⟨rfl, rfl⟩
    walk_at "go"
    refine g_du (bs := [false]) rfl ?_
    walk_at "go"
    exact h
theorem kept_go {v : Wv} (hv : v.Fine) (ho : v.ok = true) (h : Q v.kept S) : wp (F_kept_where [v.d]) Q E S := by
  unfold F_kept_where
  refine g_c rfl ?_
  unfold m_kept_where
  cases v with
  | non =>
    walk_at "go"
    refine g_d ?_
    walk_at "go"
    exact h
  | nil =>
    walk_at "go"
    refine g_a ?_
    walk_at "go"
    refine g_e4 ?_
    walk_at "go"
    refine g_ed (Nat.le_of_ble_eq_true rfl) ?_
    exact h
  | two w a b =>
    walk_at "go"
    refine g_a ?_
    walk_at "go"
    refine g_e5 ?_
    walk_at "go"
    refine g_ed (Nat.le_of_ble_eq_true rfl) ?_
    refine dic_go D.str (fun s => (.inr s : Key)) (fun _ => .tup (sortD [.str a, .str b] [.str a, .str b])) [w] [] (fun c hc => ?_) ?_
    · have e : c = w := List.mem_singleton.mp hc
      subst e
      refine ⟨_, rfl, ?_, ?_⟩
      · walk_at "go"
        exact ⟨rfl, rfl⟩
      · walk_at "go"
        refine g_d7 (valD_pos rfl) ?_
        walk_at "go"
        refine g_eq (es := [.str a, .str b]) rfl (sort2 a b) ?_
        walk_at "go"
        exact ⟨rfl, rfl⟩
    exact h
  | three w a b c => cases ho
end
end Lw
set_option Elab.async false
set_option linter.all false
set_option maxRecDepth 100000
set_option maxHeartbeats 4000000
namespace Lw
open PySem PySem.Spec PyProof.Rows L2 Oc Os Vl
local macro_rules | `(tactic| walk_at "go") => `(tactic| (with_reducible repeat first | refine g_c6 ?_ | refine g_l ?_ | refine g_m ?_ | refine g_n ?_ | refine g_o ?_ | refine g_p ?_ | refine g_q ?_ | refine g_r ?_ | refine g_s ?_ | refine g_t ?_ | refine g_u ?_ | refine g_v ?_ | refine g_c7 ?_ | refine g_d ?_ | refine g_a ?_ | refine g_w ?_ | refine g_x (by with_unfolding_all exact rfl) ?_ | refine g_y ?_ | refine g_z (by with_unfolding_all exact rfl) ?_ | refine g_aa ?_ | refine g_ab ?_ | refine g_ac ?_ | refine g_ad (by with_unfolding_all exact rfl) ?_ | refine g_ae (by with_unfolding_all exact rfl) ?_ | refine g_af (by with_unfolding_all exact rfl) ?_ | refine g_ag ?_ | refine g_ah ?_ | refine g_ai ?_ | refine g_b (by with_unfolding_all exact rfl) ?_ | refine g_aj ?_ | refine g_ak ?_ | refine g_al ?_ | refine g_am ?_ | refine g_an ?_ | refine g_ao ?_ | refine g_ap ?_ | refine g_aq ?_ | refine g_ar ?_ | refine g_as ?_ | refine g_at ?_ | refine g_au ?_ | refine g_av ?_ | refine g_aw ?_ | refine g_ax ?_ | refine g_ay ?_ | refine g_az (by with_unfolding_all exact rfl) ?_ | refine g_a0 ?_ | refine g_a1 ?_ | refine g_a2 ?_ | refine g_a3 ?_ | refine g_a4 ?_ | refine g_a5 ?_ | refine g_a6 ?_ | refine g_a7 ?_ | refine g_a8 ?_ | refine g_a9 ?_ | refine g_ba ?_ | refine g_bb ?_ | refine g_bc ?_ | refine g_bd ?_ | refine g_e (by with_unfolding_all exact rfl) ?_ | refine g_f (by with_unfolding_all exact rfl) ?_ | refine g_be ?_ | refine g_bg (by with_unfolding_all exact rfl) ?_ | refine g_bf (by with_unfolding_all exact rfl) ?_ | refine g_bh ?_ | refine g_bi ?_ | refine g_bj ?_ | refine g_bk ?_ | refine g_bl ?_ | refine g_bm ?_ | refine g_bn ?_ | refine g_bo ?_ | refine g_bp ?_ | refine g_bq ?_ | refine g_br ?_ | refine g_bs ?_ | refine g_bt ?_ | refine g_bu ?_ | refine g_bv ?_ | refine g_bw ?_ | refine g_bx ?_ | refine g_by ?_ | refine g_bz ?_ | refine g_b0 ?_ | refine g_b1 ?_ | refine g_b2 ?_ | refine g_b3 ?_ | refine g_b4 ?_ | refine g_b5 ?_ | refine g_b6 ?_ | refine g_b7 ?_ | refine g_b8 ?_ | refine g_b9 ?_ | refine g_ca ?_ | refine g_cb ?_ | refine g_cc ?_ | refine g_cd ?_ | refine g_ce ?_ | refine g_i ?_ | refine g_j ?_ | refine g_cf ?_ | refine g_cg ?_ | refine g_ch ?_ | refine g_ci ?_ | refine g_cj ?_ | refine g_ck ?_ | refine g_cl ?_ | refine g_cm ?_ | refine g_cn ?_ | refine g_co ?_ | refine g_cp ?_ | refine g_cq ?_ | refine g_cr ?_ | refine g_cs ?_ | refine g_ct ?_ | refine g_cu ?_ | refine g_cv ?_ | refine g_cw ?_ | refine g_cx ?_ | refine g_cy ?_ | refine g_h ?_ | refine g_cz ?_ | refine g_c0 ?_ | refine g_c1 ?_ | refine g_c2 ?_ | refine g_c3 ?_ | refine g_c4 ?_ | refine g_k (by with_unfolding_all exact rfl) ?_ | refine g_c5 ?_| refine g_c9 ?_ | refine g_de ?_ | refine g_df ?_ | refine g_dg ?_ | refine g_dh ?_ | refine g_di ?_ | refine g_dj ?_ | refine g_dk ?_ | refine g_dl ?_ | refine g_dm ?_ | refine g_dn ?_))
/-! ### k10: a Rule made, or refused -/
inductive Rs where
  | ok (d : D) | er (a : Str)
def Rs.d : Rs → D
  | .ok d => d
  | .er a => .str a
def rulF (t o : Str) (ps : List (D × D)) (l m : D) (w v : Wv) : List (Str × D) :=
  [("_table", .str t), ("_other", .str o), ("_pairs", .tup (ps.map prD)), ("_least", l), ("_most", m), ("_where", w.kept), ("_other_where", v.kept)]
def intOf : D → Int
  | .int i => i
  | _ => 0
def rulR (t o : Str) (ps : List (D × D)) (l m : D) (w v : Wv) : Rs :=
  if wdB t = false then .er "table" else if wdB o = false then .er "other" else if pairsB ps = false then .er "pairs" else if leastB l = false then .er "least" else
    if mostB (intOf l) m = false then .er "most" else if w.ok = false then .er "where" else if v.ok = false then .er "other_where" else .ok (.ins "Rule" (rulF t o ps l m w v))
/-- what is wanted behind it -/
def Fin (Q : Ct D) (E : Ex) (S : St2) : Rs → Prop
  | .ok d => Q d S
  | .er a => E "InvalidRule" [("argument", .str a)] S
structure RArgs (t o : Str) (ps : List (D × D)) (l m : D) (w v : Wv) : Prop where
  ht : t.length ≤ 100000
  ho : o.length ≤ 100000
  hp : ps.length ≤ 1000
  en : ∀ p ∈ ps, Ent p.1 ∧ Ent p.2
  hl : Num l
  hm : Num m
  hw : w.Fine
  hv : v.Fine
section
variable {Q : Ct D} {E : Ex} {S : St2}
theorem put_new {f : Str} {d : D} : ∀ {fs : List (Str × D)} {names : List Str}, fs.map (·.1) = names → f ∉ names → putD f d fs = fs ++ [(f, d)]
  | [], _, _, _ => rfl
  | (g, x) :: r, names, hn, hd => by
    subst hn
    have h1 : ¬ g = f := fun e => hd (by rw [← e]; exact List.mem_cons_self ..)
    have h2 : f ∉ r.map (·.1) := fun e => hd (List.mem_cons_of_mem _ e)
    rw [put_ne h1, put_new rfl h2]
    rfl
theorem kia_sq {P : Ct (List D)} {ds : List D} {x : D} (hs : Sq ds x) (h : P ds S) : kIA P x S := by
  cases hs
  · exact g_i h
  · exact g_j h
theorem init_go {t o : Str} {ps : List (D × D)} {x l m : D} {w v : Wv} (A : RArgs t o ps l m w v) (hs : Sq (ps.map prD) x) (h : Fin Q E S (rulR t o ps l m w v)) : wp (F_Rule_init [.str t, .str o, x, l, m, w.d, v.d]) Q E S := by
  unfold rulR at h
  have st : startD 10 [.ins "Rule" [], .str t, .str o, x, l, m, w.d, v.d] = [some (.ins "Rule" []), some (.str t), some (.str o), some x, some l, some m, some w.d, some v.d, none, none] := rfl
  unfold F_Rule_init
  refine g_er rfl ?_
  rw [st]
  unfold m_Rule_init
  walk_at "go"
  refine is_word_go (x := .str t) A.ht ?_
  walk_at "go"
  refine check_go (fun c1 => ?_) fun c1 => ?_
  rotate_left
  · rw [if_pos (show wdB t = false from c1)] at h
    exact h
  rw [if_neg (by rw [show wdB t = true from c1]; decide)] at h
  exact by
    walk_at "go"
    refine is_word_go (x := .str o) A.ho ?_
    walk_at "go"
    refine check_go (fun c2 => ?_) fun c2 => ?_
    rotate_left
    · rw [if_pos (show wdB o = false from c2)] at h
      exact h
    rw [if_neg (by rw [show wdB o = true from c2]; decide)] at h
    exact by
      walk_at "go"
      refine are_pairs_go hs A.hp A.en ?_
      walk_at "go"
      refine check_go (fun c3 => ?_) fun c3 => ?_
      rotate_left
      · rw [if_pos c3] at h
        exact h
      rw [if_neg (by rw [c3]; decide)] at h
      exact by
        walk_at "go"
        refine is_least_go A.hl ?_
        walk_at "go"
        refine check_go (fun c4 => ?_) fun c4 => ?_
        rotate_left
        · rw [if_pos c4] at h
          exact h
        rw [if_neg (by rw [c4]; decide)] at h
        have el : ∃ j, l = .int j := by
          cases l <;> first | exact ⟨_, rfl⟩ | cases c4
        obtain ⟨j, rfl⟩ := el
        exact by
          walk_at "go"
          refine is_most_go A.hm ?_
          walk_at "go"
          refine check_go (fun c5 => ?_) fun c5 => ?_
          rotate_left
          · rw [if_pos (show mostB (intOf (.int j)) m = false from c5)] at h
            exact h
          rw [if_neg (by rw [show mostB (intOf (.int j)) m = true from c5]; decide)] at h
          exact by
            walk_at "go"
            refine is_where_go A.hw ?_
            walk_at "go"
            refine check_go (fun c6 => ?_) fun c6 => ?_
            rotate_left
            · rw [if_pos c6] at h
              exact h
            rw [if_neg (by rw [c6]; decide)] at h
            exact by
              walk_at "go"
              refine is_where_go A.hv ?_
              walk_at "go"
              refine check_go (fun c7 => ?_) fun c7 => ?_
              rotate_left
              · rw [if_pos c7] at h
                exact h
              rw [if_neg (by rw [c7]; decide)] at h
              exact by
                walk_at "go"
                refine g_dt rfl (by decide +kernel) (show 0 < 1000 by decide) rfl ?_
                walk_at "go"
                refine g_dt rfl (by decide +kernel) (show 1 < 1000 by decide) (put_new (names := ["_table"]) rfl (by decide +kernel)) ?_
                walk_at "go"
                refine kia_sq hs ?_
                refine g_c8 (by rw [List.length_map]; have := A.hp; show _ ≤ 100000; omega) ?_
                refine map_fun (fun d => d) (fun d hd => ?_) ?_
                · obtain ⟨p, hp, rfl⟩ := List.mem_map.mp hd
                  refine ⟨_, rfl, ?_⟩
                  walk_at "go"
                  refine g_dq (Nat.le_of_ble_eq_true rfl) ?_
                  exact ⟨rfl, rfl⟩
                rw [List.map_id']
                walk_at "go"
                refine g_dt rfl (by decide +kernel) (show 2 < 1000 by decide) (put_new (names := ["_table", "_other"]) rfl (by decide +kernel)) ?_
                walk_at "go"
                refine g_dt rfl (by decide +kernel) (show 3 < 1000 by decide) (put_new (names := ["_table", "_other", "_pairs"]) rfl (by decide +kernel)) ?_
                walk_at "go"
                refine g_dt rfl (by decide +kernel) (show 4 < 1000 by decide) (put_new (names := ["_table", "_other", "_pairs", "_least"]) rfl (by decide +kernel)) ?_
                walk_at "go"
                refine kept_go A.hw c6 ?_
                walk_at "go"
                refine g_dt rfl (by decide +kernel) (show 5 < 1000 by decide) (put_new (names := ["_table", "_other", "_pairs", "_least", "_most"]) rfl (by decide +kernel)) ?_
                walk_at "go"
                refine kept_go A.hv c7 ?_
                walk_at "go"
                refine g_dt rfl (by decide +kernel) (show 6 < 1000 by decide) (put_new (names := ["_table", "_other", "_pairs", "_least", "_most", "_where"]) rfl (by decide +kernel)) ?_
                refine g_k rfl ?_
                exact h
end
end Lw
set_option Elab.async false
set_option linter.all false
set_option maxRecDepth 100000
set_option maxHeartbeats 4000000
namespace Lw
open PySem PySem.Spec PyProof.Rows L2 Oc Os Vl
local macro_rules | `(tactic| walk_at "go") => `(tactic| (with_reducible repeat first | refine g_c6 ?_ | refine g_l ?_ | refine g_m ?_ | refine g_n ?_ | refine g_o ?_ | refine g_p ?_ | refine g_q ?_ | refine g_r ?_ | refine g_s ?_ | refine g_t ?_ | refine g_u ?_ | refine g_v ?_ | refine g_c7 ?_ | refine g_d ?_ | refine g_a ?_ | refine g_w ?_ | refine g_x (by with_unfolding_all exact rfl) ?_ | refine g_y ?_ | refine g_z (by with_unfolding_all exact rfl) ?_ | refine g_aa ?_ | refine g_ab ?_ | refine g_ac ?_ | refine g_ad (by with_unfolding_all exact rfl) ?_ | refine g_ae (by with_unfolding_all exact rfl) ?_ | refine g_af (by with_unfolding_all exact rfl) ?_ | refine g_ag ?_ | refine g_ah ?_ | refine g_ai ?_ | refine g_b (by with_unfolding_all exact rfl) ?_ | refine g_aj ?_ | refine g_ak ?_ | refine g_al ?_ | refine g_am ?_ | refine g_an ?_ | refine g_ao ?_ | refine g_ap ?_ | refine g_aq ?_ | refine g_ar ?_ | refine g_as ?_ | refine g_at ?_ | refine g_au ?_ | refine g_av ?_ | refine g_aw ?_ | refine g_ax ?_ | refine g_ay ?_ | refine g_az (by with_unfolding_all exact rfl) ?_ | refine g_a0 ?_ | refine g_a1 ?_ | refine g_a2 ?_ | refine g_a3 ?_ | refine g_a4 ?_ | refine g_a5 ?_ | refine g_a6 ?_ | refine g_a7 ?_ | refine g_a8 ?_ | refine g_a9 ?_ | refine g_ba ?_ | refine g_bb ?_ | refine g_bc ?_ | refine g_bd ?_ | refine g_e (by with_unfolding_all exact rfl) ?_ | refine g_f (by with_unfolding_all exact rfl) ?_ | refine g_be ?_ | refine g_bg (by with_unfolding_all exact rfl) ?_ | refine g_bf (by with_unfolding_all exact rfl) ?_ | refine g_bh ?_ | refine g_bi ?_ | refine g_bj ?_ | refine g_bk ?_ | refine g_bl ?_ | refine g_bm ?_ | refine g_bn ?_ | refine g_bo ?_ | refine g_bp ?_ | refine g_bq ?_ | refine g_br ?_ | refine g_bs ?_ | refine g_bt ?_ | refine g_bu ?_ | refine g_bv ?_ | refine g_bw ?_ | refine g_bx ?_ | refine g_by ?_ | refine g_bz ?_ | refine g_b0 ?_ | refine g_b1 ?_ | refine g_b2 ?_ | refine g_b3 ?_ | refine g_b4 ?_ | refine g_b5 ?_ | refine g_b6 ?_ | refine g_b7 ?_ | refine g_b8 ?_ | refine g_b9 ?_ | refine g_ca ?_ | refine g_cb ?_ | refine g_cc ?_ | refine g_cd ?_ | refine g_ce ?_ | refine g_i ?_ | refine g_j ?_ | refine g_cf ?_ | refine g_cg ?_ | refine g_ch ?_ | refine g_ci ?_ | refine g_cj ?_ | refine g_ck ?_ | refine g_cl ?_ | refine g_cm ?_ | refine g_cn ?_ | refine g_co ?_ | refine g_cp ?_ | refine g_cq ?_ | refine g_cr ?_ | refine g_cs ?_ | refine g_ct ?_ | refine g_cu ?_ | refine g_cv ?_ | refine g_cw ?_ | refine g_cx ?_ | refine g_cy ?_ | refine g_h ?_ | refine g_cz ?_ | refine g_c0 ?_ | refine g_c1 ?_ | refine g_c2 ?_ | refine g_c3 ?_ | refine g_c4 ?_ | refine g_k (by with_unfolding_all exact rfl) ?_ | refine g_c5 ?_| refine g_c9 ?_ | refine g_de ?_ | refine g_df ?_ | refine g_dg ?_ | refine g_dh ?_ | refine g_di ?_ | refine g_dj ?_ | refine g_dk ?_ | refine g_dl ?_ | refine g_dm ?_ | refine g_dn ?_))
/-! ### k10: the static methods -/
def kSt2 (n m : Nat) (arr : List D → List D → List D) (F : List D → Mo D) (xs : List D) (Q : Ct D) (E : Ex) : Ct (List D) := fun ys S2 => xs.length = n ∧ ys.length = m ∧ wp (F (arr xs ys)) Q E S2
def kSt1 (n m : Nat) (fk : Vl.Env → Mo (List D)) (arr : List D → List D → List D) (F : List D → Mo D) (ρ : Vl.Env) (Q : Ct D) (E : Ex) : Ct (List D) := fun xs S1 => wp (fk ρ) (kSt2 n m arr F xs Q E) E S1
section
variable {Q : Ct D} {E : Ex} {S : St2}
theorem g_da {n m : Nat} {fl fk : Vl.Env → Mo (List D)} {arr : List D → List D → List D} {F : List D → Mo D} {ρ : Vl.Env} (h : wp (fl ρ) (kSt1 n m fk arr F ρ Q E) E S) : wp (fSt n m fl fk arr F ρ) Q E S := by
  unfold fSt
  rw [w_bnd]
  refine wp_mono h (fun xs S1 q => ?_) fun _ _ _ q => q
  rw [w_bnd]
  refine wp_mono q (fun ys S2 q2 => ?_) fun _ _ _ q => q
  rw [w_grd]
  exact ⟨by rw [decide_eq_true q2.1, decide_eq_true q2.2.1]; rfl, q2.2.2⟩
theorem g_db {n m : Nat} {fk : Vl.Env → Mo (List D)} {arr : List D → List D → List D} {F : List D → Mo D} {ρ : Vl.Env} {xs : List D} (h : wp (fk ρ) (kSt2 n m arr F xs Q E) E S) : kSt1 n m fk arr F ρ Q E xs S := h
theorem Fin.ret {ρ : Vl.Env} {r : Rs} (h : Fin Q E S r) : Fin (kRet ρ (kFn Q)) E S r := by
  cases r <;> exact h
theorem ref_go {t o : Str} {ps : List (D × D)} {x : D} {w : Wv} (A : RArgs t o ps (.int 1) .non w .non) (hs : Sq (ps.map prD) x) (h : Fin Q E S (rulR t o ps (.int 1) .non w .non)) : wp (F_Rule_reference [.str t, .str o, x, w.d]) Q E S := by
  unfold F_Rule_reference
  refine g_c rfl ?_
  unfold m_Rule_reference
  walk_at "go"
  refine g_da ?_
  walk_at "go"
  refine g_db ?_
  walk_at "go"
  exact ⟨rfl, rfl, init_go (v := .non) A hs h.ret⟩
theorem at_most_go {t o : Str} {ps : List (D × D)} {x m : D} {w v : Wv} (A : RArgs t o ps (.int 0) m w v) (hs : Sq (ps.map prD) x) (h : Fin Q E S (rulR t o ps (.int 0) m w v)) : wp (F_Rule_at_most [.str t, .str o, x, m, w.d, v.d]) Q E S := by
  unfold F_Rule_at_most
  refine g_c rfl ?_
  unfold m_Rule_at_most
  walk_at "go"
  refine g_da ?_
  walk_at "go"
  refine g_db ?_
  walk_at "go"
  exact ⟨rfl, rfl, init_go A hs h.ret⟩
theorem exactly_go {t o : Str} {ps : List (D × D)} {x m : D} {w v : Wv} (A : RArgs t o ps m m w v) (hs : Sq (ps.map prD) x) (h : Fin Q E S (rulR t o ps m m w v)) : wp (F_Rule_exactly [.str t, .str o, x, m, w.d, v.d]) Q E S := by
  unfold F_Rule_exactly
  refine g_c rfl ?_
  unfold m_Rule_exactly
  walk_at "go"
  refine g_da ?_
  walk_at "go"
  refine g_db ?_
  walk_at "go"
  exact ⟨rfl, rfl, init_go A hs h.ret⟩
theorem none_go {t o : Str} {ps : List (D × D)} {x : D} {w v : Wv} (A : RArgs t o ps (.int 0) (.int 0) w v) (hs : Sq (ps.map prD) x) (h : Fin Q E S (rulR t o ps (.int 0) (.int 0) w v)) : wp (F_Rule_none [.str t, .str o, x, w.d, v.d]) Q E S := by
  unfold F_Rule_none
  refine g_c rfl ?_
  unfold m_Rule_none
  walk_at "go"
  refine g_da ?_
  walk_at "go"
  refine g_db ?_
  walk_at "go"
  exact ⟨rfl, rfl, init_go A hs h.ret⟩
def dupP (c : D) : D × D := (c, c)
theorem key_go {t : Str} {cols : List D} (A : RArgs t t (cols.map dupP) (.int 0) (.int 1) .non .non) (hl : cols.length ≤ 1000) (h : Fin Q E S (rulR t t (cols.map dupP) (.int 0) (.int 1) .non .non)) : wp (F_Rule_key (.str t :: cols)) Q E S := by
  unfold F_Rule_key starF
  rw [w_grd]
  refine ⟨by rw [List.length_cons, decide_eq_true (by omega), decide_eq_true (by show _ ≤ 100000; omega)]; rfl, ?_⟩
  show wp (fnM 2 3 m_Rule_key [.str t, .tup cols]) Q E S
  refine g_c rfl ?_
  unfold m_Rule_key
  walk_at "go"
  refine g_da ?_
  walk_at "go"
  refine g_c8 (by show _ ≤ 100000; omega) ?_
  refine map_fun (fun c => prD (dupP c)) (fun d hd => ⟨_, rfl, ?_⟩) ?_
  · walk_at "go"
    refine g_dq (Nat.le_of_ble_eq_true rfl) ?_
    exact ⟨rfl, rfl⟩
  walk_at "go"
  refine g_db ?_
  walk_at "go"
  refine ⟨rfl, rfl, init_go (w := .non) (v := .non) A ?_ h.ret⟩
  rw [List.map_map]
  exact .l
theorem told_go {m : Mo D} {r : Rs} (w : ∀ {Q2 : Ct D} {E2 : Ex}, Fin Q2 E2 S r → wp m Q2 E2 S) (h : Q r.d S) : wp (mCatch id "InvalidRule" hvA m : Mo D) Q E S := by
  refine g_e3 (w ?_)
  cases r with
  | ok d => exact h
  | er a => exact ⟨rfl, .str a, by unfold hvA; rw [lk_eq]; rfl, h⟩
theorem eqv_nn1 : SeqAt.shaped (.list []) = true := shaped_list fun _ h => absurd h List.not_mem_nil
theorem keyed_go {t : Str} {cols : List D} (A : RArgs t t (cols.map dupP) (.int 0) (.int 1) .non .non) (hl : cols.length ≤ 3) (he : Smq cols) (h : Fin Q E S (rulR t t (cols.map dupP) (.int 0) (.int 1) .non .non)) : wp (F_law_keyed [.str t, .lst cols]) Q E S := by
  unfold F_law_keyed
  refine g_c rfl ?_
  unfold m_law_keyed
  match cols, hl, he, A, h with
  | [], _, _, A, h =>
    walk_at "go"
    refine g_d ?_
    walk_at "go"
    refine g_dc (Nat.le_of_ble_eq_true rfl) ?_
    walk_at "go"
    refine g_dr (d := .list []) (e := .list []) rfl rfl eqv_nn1 eqv_nn1 ?_
    rw [eqv_nil_nil]
    walk_at "go"
    refine key_go (cols := []) A (Nat.le_of_ble_eq_true rfl) ?_
    exact Fin.ret (ρ := startD 2 [.str t, .lst []]) h
  | [c], _, he, A, h =>
    walk_at "go"
    refine g_d ?_
    walk_at "go"
    obtain ⟨es, e1, e2, e3⟩ := toQ_of he
    have e4 : toE (.lst [c]) = some (.list es) := by
      show (toQ [c]).map PyData.list = _
      rw [e1]
      rfl
    refine g_dc (Nat.le_of_ble_eq_true rfl) ?_
    walk_at "go"
    refine g_dr (e := .list []) e4 rfl (shaped_list e3) eqv_nn1 ?_
    rw [eqv_list_nil, show es.isEmpty = false by cases es <;> first | rfl | cases e2]
    walk_at "go"
    refine g_g (d := c) rfl ?_
    walk_at "go"
    exact key_go (cols := [c]) A (Nat.le_of_ble_eq_true rfl) (Fin.ret (ρ := startD 2 [.str t, .lst [c]]) h)
  | [a, b], _, _, A, h =>
    walk_at "go"
    refine g_a ?_
    walk_at "go"
    refine g_dr rfl rfl (sh_int _) (sh_int _) ?_
    rw [show PyData.eqv (.int (([a, b] : List D).length : Nat)) (.int 2) = true from (eqv_nat (a := 2) (b := 2)).trans (decide_eq_true rfl)]
    walk_at "go"
    refine g_g (d := a) rfl ?_
    walk_at "go"
    refine g_g (d := b) rfl ?_
    walk_at "go"
    exact key_go (cols := [a, b]) A (Nat.le_of_ble_eq_true rfl) (Fin.ret (ρ := startD 2 [.str t, .lst [a, b]]) h)
  | [a, b, c], _, _, A, h =>
    walk_at "go"
    refine g_a ?_
    walk_at "go"
    refine g_dr rfl rfl (sh_int _) (sh_int _) ?_
    rw [show PyData.eqv (.int (([a, b, c] : List D).length : Nat)) (.int 2) = false from (eqv_nat (a := 3) (b := 2)).trans (decide_eq_false (by decide))]
    walk_at "go"
    refine g_g (d := a) rfl ?_
    walk_at "go"
    refine g_g (d := b) rfl ?_
    walk_at "go"
    refine g_g (d := c) rfl ?_
    walk_at "go"
    exact key_go (cols := [a, b, c]) A (Nat.le_of_ble_eq_true rfl) (Fin.ret (ρ := startD 2 [.str t, .lst [a, b, c]]) h)
  | _ :: _ :: _ :: _ :: _, hl, _, _, _ => simp at hl
end
end Lw
set_option Elab.async false
set_option linter.all false
set_option maxRecDepth 100000
set_option maxHeartbeats 4000000
namespace Lw
open PySem PySem.Spec PyProof.Rows L2 Oc Os Vl
local macro_rules | `(tactic| walk_at "go") => `(tactic| (with_reducible repeat first | refine g_c6 ?_ | refine g_l ?_ | refine g_m ?_ | refine g_n ?_ | refine g_o ?_ | refine g_p ?_ | refine g_q ?_ | refine g_r ?_ | refine g_s ?_ | refine g_t ?_ | refine g_u ?_ | refine g_v ?_ | refine g_c7 ?_ | refine g_d ?_ | refine g_a ?_ | refine g_w ?_ | refine g_x (by with_unfolding_all exact rfl) ?_ | refine g_y ?_ | refine g_z (by with_unfolding_all exact rfl) ?_ | refine g_aa ?_ | refine g_ab ?_ | refine g_ac ?_ | refine g_ad (by with_unfolding_all exact rfl) ?_ | refine g_ae (by with_unfolding_all exact rfl) ?_ | refine g_af (by with_unfolding_all exact rfl) ?_ | refine g_ag ?_ | refine g_ah ?_ | refine g_ai ?_ | refine g_b (by with_unfolding_all exact rfl) ?_ | refine g_aj ?_ | refine g_ak ?_ | refine g_al ?_ | refine g_am ?_ | refine g_an ?_ | refine g_ao ?_ | refine g_ap ?_ | refine g_aq ?_ | refine g_ar ?_ | refine g_as ?_ | refine g_at ?_ | refine g_au ?_ | refine g_av ?_ | refine g_aw ?_ | refine g_ax ?_ | refine g_ay ?_ | refine g_az (by with_unfolding_all exact rfl) ?_ | refine g_a0 ?_ | refine g_a1 ?_ | refine g_a2 ?_ | refine g_a3 ?_ | refine g_a4 ?_ | refine g_a5 ?_ | refine g_a6 ?_ | refine g_a7 ?_ | refine g_a8 ?_ | refine g_a9 ?_ | refine g_ba ?_ | refine g_bb ?_ | refine g_bc ?_ | refine g_bd ?_ | refine g_e (by with_unfolding_all exact rfl) ?_ | refine g_f (by with_unfolding_all exact rfl) ?_ | refine g_be ?_ | refine g_bg (by with_unfolding_all exact rfl) ?_ | refine g_bf (by with_unfolding_all exact rfl) ?_ | refine g_bh ?_ | refine g_bi ?_ | refine g_bj ?_ | refine g_bk ?_ | refine g_bl ?_ | refine g_bm ?_ | refine g_bn ?_ | refine g_bo ?_ | refine g_bp ?_ | refine g_bq ?_ | refine g_br ?_ | refine g_bs ?_ | refine g_bt ?_ | refine g_bu ?_ | refine g_bv ?_ | refine g_bw ?_ | refine g_bx ?_ | refine g_by ?_ | refine g_bz ?_ | refine g_b0 ?_ | refine g_b1 ?_ | refine g_b2 ?_ | refine g_b3 ?_ | refine g_b4 ?_ | refine g_b5 ?_ | refine g_b6 ?_ | refine g_b7 ?_ | refine g_b8 ?_ | refine g_b9 ?_ | refine g_ca ?_ | refine g_cb ?_ | refine g_cc ?_ | refine g_cd ?_ | refine g_ce ?_ | refine g_i ?_ | refine g_j ?_ | refine g_cf ?_ | refine g_cg ?_ | refine g_ch ?_ | refine g_ci ?_ | refine g_cj ?_ | refine g_ck ?_ | refine g_cl ?_ | refine g_cm ?_ | refine g_cn ?_ | refine g_co ?_ | refine g_cp ?_ | refine g_cq ?_ | refine g_cr ?_ | refine g_cs ?_ | refine g_ct ?_ | refine g_cu ?_ | refine g_cv ?_ | refine g_cw ?_ | refine g_cx ?_ | refine g_cy ?_ | refine g_h ?_ | refine g_cz ?_ | refine g_c0 ?_ | refine g_c1 ?_ | refine g_c2 ?_ | refine g_c3 ?_ | refine g_c4 ?_ | refine g_k (by with_unfolding_all exact rfl) ?_ | refine g_c5 ?_| refine g_c9 ?_ | refine g_de ?_ | refine g_df ?_ | refine g_dg ?_ | refine g_dh ?_ | refine g_di ?_ | refine g_dj ?_ | refine g_dk ?_ | refine g_dl ?_ | refine g_dm ?_ | refine g_dn ?_))
/-! ### k10: what is told is equal to itself -/
theorem eqL_self {x : D} {e : PyData} (h : toE x = some e) (hs : SeqAt.shaped e = true) : eqL x x = some true := by
  unfold eqL
  rw [h]
  dsimp only
  rw [if_pos ⟨hs, hs⟩, PySem.SeqAt.eqv_refl e (SeqAt.canLay_of_shaped hs)]
theorem eqD1_self {x : D} {e : PyData} (h : toE x = some e) (hs : SeqAt.shaped e = true) : eqD1 x x = some true := by
  have z := eqL_self h hs
  cases x <;> first | exact z | cases h
theorem sh_of {e : PyData} (h : Sm e) : SeqAt.shaped e = true := by
  unfold SeqAt.shaped
  rw [h.1, decide_eq_true (by have := h.2; omega)]
  rfl
theorem shaped_tupS {ds : List PyData} (h : ∀ d ∈ ds, Sm d) : Sm (.tuple ds) ∨ True := .inr trivial
theorem eqZ_cons {d : D} {ds : List D} (h1 : eqD1 d d = some true) (h2 : eqZ ds ds = some true) : eqZ (d :: ds) (d :: ds) = some true := by
  unfold eqZ
  rw [h1, h2]
  rfl
/-- texts in tuples in a tuple -/
theorem toE_pair {p : D × D} (h : okP p = true) : ∃ e, toE (prD p) = some e ∧ e = .tuple [.str (strO p.1), .str (strO p.2)] ∧ Wd (strO p.1) ∧ Wd (strO p.2) := by
  obtain ⟨h1, h2⟩ := Bool.and_eq_true_iff.mp h
  have e1 := str_of h1
  have e2 := str_of h2
  refine ⟨_, ?_, rfl, ?_, ?_⟩
  · unfold prD
    rw [e1, e2]
    rfl
  · rw [e1] at h1
    exact wdB_iff.mp h1
  · rw [e2] at h2
    exact wdB_iff.mp h2
theorem canLay_tup {ds : List PyData} : PyData.canLay0 (.tuple ds) = PyData.canLay0 (.list ds) := by
  simp [PyData.canLay0]
theorem depth_tup {ds : List PyData} : PyData.depth (.tuple ds) = PyData.depth (.list ds) := by
  simp [PyData.depth]
theorem sm_tup {ds : List PyData} {n : Nat} (h : ∀ d ∈ ds, d.canLay0 = true ∧ d.depth ≤ n) : PyData.canLay0 (.tuple ds) = true ∧ PyData.depth (.tuple ds) ≤ n + 1 := by
  have key : ∀ {ds : List PyData}, (∀ d ∈ ds, d.canLay0 = true ∧ d.depth ≤ n) → PyData.canLayAll0 ds = true ∧ PyData.depthAll ds ≤ n := by
    intro ds
    induction ds with
    | nil => exact fun _ => ⟨rfl, Nat.zero_le _⟩
    | cons d ds ih =>
      intro h
      obtain ⟨a, b⟩ := ih fun x hx => h x (List.mem_cons_of_mem _ hx)
      obtain ⟨c, e⟩ := h d (List.mem_cons_self ..)
      refine ⟨?_, ?_⟩
      · simp only [PyData.canLayAll0, a, c, Bool.and_self]
      · simp only [PyData.depthAll]
        omega
  obtain ⟨a, b⟩ := key h
  refine ⟨?_, ?_⟩
  · simp only [PyData.canLay0, a]
  · simp only [PyData.depth]
    omega
theorem sh_str {w : Str} (h : Wd w) : SeqAt.shaped (.str w) = true := sh_of (sm_word h)
theorem toE_pairs : ∀ {ps : List (D × D)}, (∀ p ∈ ps, okP p = true) → ∃ es, toQ (ps.map prD) = some es ∧ ∀ e ∈ es, e.canLay0 = true ∧ e.depth ≤ 1
  | [], _ => ⟨[], rfl, fun _ h => absurd h List.not_mem_nil⟩
  | p :: ps, h => by
    obtain ⟨es, e1, e2⟩ := toE_pairs (ps := ps) fun q hq => h q (List.mem_cons_of_mem _ hq)
    obtain ⟨e, a, b, w1, w2⟩ := toE_pair (h p (List.mem_cons_self ..))
    refine ⟨e :: es, ?_, fun x hx => ?_⟩
    · show (match toE (prD p), toQ (ps.map prD) with | some e, some es => some (e :: es) | _, _ => none) = _
      rw [a, e1]
    · rcases List.mem_cons.mp hx with rfl | hx
      · subst b
        refine sm_tup (n := 0) fun d hd => ?_
        have z : ∃ w, Wd w ∧ d = .str w := by
          rcases List.mem_cons.mp hd with e | hd
          · exact ⟨_, w1, e⟩
          · exact ⟨_, w2, List.mem_singleton.mp hd⟩
        obtain ⟨w, hw, rfl⟩ := z
        exact ⟨(sm_word hw).1, by simp [PyData.depth]⟩
      · exact e2 x hx
theorem kept_self {v : Wv} (hv : v.Fine) : eqD1 v.kept v.kept = some true := by
  cases v with
  | two w a b =>
    have hm : ∀ d ∈ sortD [.str a, .str b] [.str a, .str b], ∃ z, Wd z ∧ d = .str z := fun d hd => by
      obtain ⟨ys, e, pm⟩ := sortD_map D.str PyData.str [a, b]
      have e : sortD [.str a, .str b] [.str a, .str b] = ys.map D.str := e
      rw [e] at hd
      obtain ⟨z, hz, rfl⟩ := List.mem_map.mp hd
      exact ⟨z, hv.2.1 z (pm.mem_iff.mp hz), rfl⟩
    have q : ∃ es, toQ (sortD [.str a, .str b] [.str a, .str b]) = some es ∧ ∀ e ∈ es, e.canLay0 = true ∧ e.depth ≤ 0 := by
      have key : ∀ {ds : List D}, (∀ d ∈ ds, ∃ z, Wd z ∧ d = .str z) → ∃ es, toQ ds = some es ∧ ∀ e ∈ es, e.canLay0 = true ∧ e.depth ≤ 0 := by
        intro ds
        induction ds with
        | nil => exact fun _ => ⟨[], rfl, fun _ h => absurd h List.not_mem_nil⟩
        | cons d ds ih =>
          intro h
          obtain ⟨es, e1, e2⟩ := ih fun x hx => h x (List.mem_cons_of_mem _ hx)
          obtain ⟨z, hz, rfl⟩ := h d (List.mem_cons_self ..)
          refine ⟨.str z :: es, ?_, fun x hx => ?_⟩
          · show (match toE (.str z), toQ ds with | some e, some es => some (e :: es) | _, _ => none) = _
            rw [e1]
            rfl
          · rcases List.mem_cons.mp hx with rfl | hx
            · exact ⟨(sm_word hz).1, by simp [PyData.depth]⟩
            · exact e2 x hx
      exact key hm
    obtain ⟨es, e1, e2⟩ := q
    have hs : SeqAt.shaped (.tuple es) = true := by
      obtain ⟨c, d⟩ := sm_tup e2
      unfold SeqAt.shaped
      rw [c, decide_eq_true (by omega)]
      rfl
    have he : toE (.tup (sortD [.str a, .str b] [.str a, .str b])) = some (.tuple es) := by
      show (toQ _).map PyData.tuple = _
      rw [e1]
      rfl
    show (if ([(.inr w : Key)]).Nodup then (eqGo [(.inr w, D.tup (sortD [.str a, .str b] [.str a, .str b]))] [(.inr w, D.tup (sortD [.str a, .str b] [.str a, .str b]))]).map fun b => (1 == 1) && b else none) = some true
    rw [if_pos (List.nodup_cons.mpr ⟨List.not_mem_nil, List.nodup_nil⟩)]
    unfold eqGo
    rw [valD_pos rfl]
    dsimp only
    rw [eqL_self he hs]
    rfl
  | _ => rfl
theorem told_self {t o : Str} {ps : List (D × D)} {j : Int} {m : D} {w v : Wv} (ht : Wd t) (ho : Wd o) (hp : ∀ p ∈ ps, okP p = true) (hm : Num m) (hw : w.Fine) (hv : v.Fine) :
    eqN (.tup [.str t, .str o, .tup (ps.map prD), .int j, m, w.kept, v.kept]) (.tup [.str t, .str o, .tup (ps.map prD), .int j, m, w.kept, v.kept]) = some true := by
  have n1 : eqL (.tup [.str t, .str o, .tup (ps.map prD), .int j, m, w.kept, v.kept]) (.tup [.str t, .str o, .tup (ps.map prD), .int j, m, w.kept, v.kept]) = none := by
    have e : toE (.tup [.str t, .str o, .tup (ps.map prD), .int j, m, w.kept, v.kept]) = none := by
      have e1 : toQ [v.kept] = none := by cases v <;> rfl
      have e2 : toQ [w.kept, v.kept] = none := by cases w <;> rfl
      have up : ∀ {d : D} {ds : List D}, toQ ds = none → toQ (d :: ds) = none := fun {d ds} h => by
        show (match toE d, toQ ds with | some e, some es => some (e :: es) | _, _ => none) = _
        rw [h]
        cases toE d <;> rfl
      show (toQ _).map PyData.tuple = none
      rw [up (up (up (up (up e2))))]
      rfl
    unfold eqL
    rw [e]
  obtain ⟨es, e1, e2⟩ := toE_pairs hp
  have e3 : toE (.tup (ps.map prD)) = some (.tuple es) := by
    show (toQ _).map PyData.tuple = _
    rw [e1]
    rfl
  have hs : SeqAt.shaped (.tuple es) = true := by
    obtain ⟨c, d⟩ := sm_tup e2
    unfold SeqAt.shaped
    rw [c, decide_eq_true (by omega)]
    rfl
  have em : eqD1 m m = some true := by
    cases m <;> first | exact hm.elim | skip
    · exact eqD1_self (e := .none) rfl rfl
    · next b => exact eqD1_self (e := .bool b) rfl rfl
    · next i => exact eqD1_self (e := .int i) rfl (sh_int _)
  unfold eqN
  rw [n1]
  dsimp only
  show (eqZ [.str t, .str o, .tup (ps.map prD), .int j, m, w.kept, v.kept] [.str t, .str o, .tup (ps.map prD), .int j, m, w.kept, v.kept]).map _ = some true
  rw [eqZ_cons (eqD1_self rfl (sh_str ht)) (eqZ_cons (eqD1_self rfl (sh_str ho)) (eqZ_cons (eqD1_self e3 hs) (eqZ_cons (eqD1_self rfl (sh_int j)) (eqZ_cons em (eqZ_cons (kept_self hw) (eqZ_cons (kept_self hv) rfl))))))]
  rfl
section
variable {Q : Ct D} {E : Ex} {S : St2}
theorem rul_at {f : Str} {t o : Str} {ps : List (D × D)} {l m : D} {w v : Wv} : True := trivial
theorem rtold_go {t o : Str} {ps : List (D × D)} {l m : D} {w v : Wv} (h : Q (.tup [.str t, .str o, .tup (ps.map prD), l, m, w.kept, v.kept]) S) : wp (F_Rule_told [.ins "Rule" (rulF t o ps l m w v)]) Q E S := by
  unfold F_Rule_told rulF
  refine g_c rfl ?_
  unfold m_Rule_told
  walk_at "go"
  refine g_ds lk_eq ?_
  walk_at "go"
  refine g_ds ((lk_ne (by decide +kernel)).trans lk_eq) ?_
  walk_at "go"
  refine g_ds ((lk_ne (by decide +kernel)).trans ((lk_ne (by decide +kernel)).trans lk_eq)) ?_
  walk_at "go"
  refine g_ds ((lk_ne (by decide +kernel)).trans ((lk_ne (by decide +kernel)).trans ((lk_ne (by decide +kernel)).trans lk_eq))) ?_
  walk_at "go"
  refine g_ds ((lk_ne (by decide +kernel)).trans ((lk_ne (by decide +kernel)).trans ((lk_ne (by decide +kernel)).trans ((lk_ne (by decide +kernel)).trans lk_eq)))) ?_
  walk_at "go"
  refine g_ds ((lk_ne (by decide +kernel)).trans ((lk_ne (by decide +kernel)).trans ((lk_ne (by decide +kernel)).trans ((lk_ne (by decide +kernel)).trans ((lk_ne (by decide +kernel)).trans lk_eq))))) ?_
  walk_at "go"
  refine g_ds ((lk_ne (by decide +kernel)).trans ((lk_ne (by decide +kernel)).trans ((lk_ne (by decide +kernel)).trans ((lk_ne (by decide +kernel)).trans ((lk_ne (by decide +kernel)).trans ((lk_ne (by decide +kernel)).trans lk_eq)))))) ?_
  walk_at "go"
  refine g_dq (Nat.le_of_ble_eq_true rfl) ?_
  walk_at "go"
  exact h
theorem rul_no {t o : Str} {ps : List (D × D)} {l m : D} {w v : Wv} : ((rulF t o ps l m w v).lookup ("_told" : Str)).isNone = true := by
  unfold rulF
  rw [lk_ne (by decide +kernel), lk_ne (by decide +kernel), lk_ne (by decide +kernel), lk_ne (by decide +kernel), lk_ne (by decide +kernel), lk_ne (by decide +kernel), lk_ne (by decide +kernel)]
  rfl
theorem req_go {t o : Str} {ps : List (D × D)} {j : Int} {m : D} {w v : Wv} (ht : Wd t) (ho : Wd o) (hp : ∀ p ∈ ps, okP p = true) (hm : Num m) (hw : w.Fine) (hv : v.Fine) (h : Q (.bl true) S) :
    wp (F_Rule_eq [.ins "Rule" (rulF t o ps (.int j) m w v), .ins "Rule" (rulF t o ps (.int j) m w v)]) Q E S := by
  unfold F_Rule_eq
  refine g_c rfl ?_
  unfold m_Rule_eq
  walk_at "go"
  refine g_ef rul_no ?_
  walk_at "go"
  refine g_h ?_
  refine rtold_go ?_
  walk_at "go"
  refine g_ef rul_no ?_
  walk_at "go"
  refine g_h ?_
  refine rtold_go ?_
  walk_at "go"
  refine g_ew (told_self ht ho hp hm hw hv) ?_
  walk_at "go"
  exact h
end
end Lw
set_option Elab.async false
set_option linter.all false
set_option maxRecDepth 100000
set_option maxHeartbeats 4000000
namespace Lw
open PySem PySem.Spec PyProof.Rows L2 Oc Os Vl

/-! ### k10: what is told twice is equal -/
theorem rul_cases (t o : Str) (ps : List (D × D)) (l m : D) (w v : Wv) : (∃ a, rulR t o ps l m w v = .er a ∧ SeqAt.shaped (.str a) = true) ∨
    (rulR t o ps l m w v = .ok (.ins "Rule" (rulF t o ps l m w v)) ∧ Wd t ∧ Wd o ∧ (∀ p ∈ ps, okP p = true) ∧ ∃ j, l = .int j) := by
  unfold rulR
  cases c1 : wdB t
  · exact .inl ⟨_, if_pos rfl, by decide +kernel⟩
  rw [if_neg (by decide)]
  cases c2 : wdB o
  · exact .inl ⟨_, if_pos rfl, by decide +kernel⟩
  rw [if_neg (by decide)]
  cases c3 : pairsB ps
  · exact .inl ⟨_, if_pos rfl, by decide +kernel⟩
  rw [if_neg (by decide)]
  cases c4 : leastB l
  · exact .inl ⟨_, if_pos rfl, by decide +kernel⟩
  rw [if_neg (by decide)]
  cases c5 : mostB (intOf l) m
  · exact .inl ⟨_, if_pos rfl, by decide +kernel⟩
  rw [if_neg (by decide)]
  cases c6 : w.ok
  · exact .inl ⟨_, if_pos rfl, by decide +kernel⟩
  rw [if_neg (by decide)]
  cases c7 : v.ok
  · exact .inl ⟨_, if_pos rfl, by decide +kernel⟩
  rw [if_neg (by decide)]
  refine .inr ⟨rfl, wdB_iff.mp c1, wdB_iff.mp c2, fun p hp => ?_, ?_⟩
  · unfold pairsB at c3
    exact List.all_eq_true.mp (Bool.and_eq_true_iff.mp (Bool.and_eq_true_iff.mp c3).2).1 _ (List.mem_map_of_mem hp)
  · cases l <;> first | exact ⟨_, rfl⟩ | cases c4
section
variable {Q : Ct D} {E : Ex} {S : St2}
theorem cmp_go {t o : Str} {ps : List (D × D)} {l m : D} {w v : Wv} (A : RArgs t o ps l m w v) (h : Q (.bl false) S) : wp (kNeO [("Rule", F_Rule_eq)] Oh.tys (rulR t o ps l m w v).d (rulR t o ps l m w v).d) Q E S := by
  rcases rul_cases t o ps l m w v with ⟨a, e, hs⟩ | ⟨e, ht, ho, hp, j, rfl⟩
  · rw [e]
    show wp (kNe (.str a) (.str a)) Q _ S
    refine g_dx rfl rfl hs hs ?_
    rw [PySem.SeqAt.eqv_refl _ (SeqAt.canLay_of_shaped hs)]
    exact h
  · rw [e]
    show wp (kNeO [("Rule", F_Rule_eq)] Oh.tys (.ins "Rule" _) (.ins "Rule" _)) Q _ S
    refine g_ex (by rfl) ?_
    refine req_go ht ho hp A.hm A.hw A.hv ?_
    exact h
/-- a comprehension's first turn -/
theorem map_one {t : D → Vl.Env → Option Vl.Env} {fe : Vl.Env → Mo D} {ρ ρ2 : Vl.Env} {d : D} {ds : List D} {Z : Ct (List D)} (e : t d ρ = some ρ2) (h : wp (fe ρ2) (fun y S1 => wp (mapC t (fun _ => Vl.ret true) fe ρ ds) (fun ys S2 => Z (y :: ys) S2) N0 S1) N0 S) :
    wp (mapC t (fun _ => Vl.ret true) fe ρ (d :: ds)) (fun ys S2 => Z ys S2) N0 S := by
  unfold mapC
  rw [w_bnd, e, w_some, w_bnd]
  show wp (bnd (fe ρ2) _) _ _ _
  rw [w_bnd]
  refine wp_mono h (fun y S1 q => ?_) fun _ _ _ q => q
  rw [w_bnd]
  exact wp_mono q (fun ys S2 q2 => q2) fun _ _ _ q => q
theorem map_end {t : D → Vl.Env → Option Vl.Env} {fe : Vl.Env → Mo D} {ρ : Vl.Env} {Z : Ct (List D)} (h : Z [] S) : wp (mapC t (fun _ => Vl.ret true) fe ρ []) (fun ys S2 => Z ys S2) N0 S := h
end
end Lw
set_option Elab.async false
set_option linter.all false
set_option maxRecDepth 100000
set_option maxHeartbeats 4000000
namespace Lw
open PySem PySem.Spec PyProof.Rows L2 Oc Os Vl
local macro_rules | `(tactic| walk_at "go") => `(tactic| (with_reducible repeat first | refine g_c6 ?_ | refine g_l ?_ | refine g_m ?_ | refine g_n ?_ | refine g_o ?_ | refine g_p ?_ | refine g_q ?_ | refine g_r ?_ | refine g_s ?_ | refine g_t ?_ | refine g_u ?_ | refine g_v ?_ | refine g_c7 ?_ | refine g_d ?_ | refine g_a ?_ | refine g_w ?_ | refine g_x (by with_unfolding_all exact rfl) ?_ | refine g_y ?_ | refine g_z (by with_unfolding_all exact rfl) ?_ | refine g_aa ?_ | refine g_ab ?_ | refine g_ac ?_ | refine g_ad (by with_unfolding_all exact rfl) ?_ | refine g_ae (by with_unfolding_all exact rfl) ?_ | refine g_af (by with_unfolding_all exact rfl) ?_ | refine g_ag ?_ | refine g_ah ?_ | refine g_ai ?_ | refine g_b (by with_unfolding_all exact rfl) ?_ | refine g_aj ?_ | refine g_ak ?_ | refine g_al ?_ | refine g_am ?_ | refine g_an ?_ | refine g_ao ?_ | refine g_ap ?_ | refine g_aq ?_ | refine g_ar ?_ | refine g_as ?_ | refine g_at ?_ | refine g_au ?_ | refine g_av ?_ | refine g_aw ?_ | refine g_ax ?_ | refine g_ay ?_ | refine g_az (by with_unfolding_all exact rfl) ?_ | refine g_a0 ?_ | refine g_a1 ?_ | refine g_a2 ?_ | refine g_a3 ?_ | refine g_a4 ?_ | refine g_a5 ?_ | refine g_a6 ?_ | refine g_a7 ?_ | refine g_a8 ?_ | refine g_a9 ?_ | refine g_ba ?_ | refine g_bb ?_ | refine g_bc ?_ | refine g_bd ?_ | refine g_e (by with_unfolding_all exact rfl) ?_ | refine g_f (by with_unfolding_all exact rfl) ?_ | refine g_be ?_ | refine g_bg (by with_unfolding_all exact rfl) ?_ | refine g_bf (by with_unfolding_all exact rfl) ?_ | refine g_bh ?_ | refine g_bi ?_ | refine g_bj ?_ | refine g_bk ?_ | refine g_bl ?_ | refine g_bm ?_ | refine g_bn ?_ | refine g_bo ?_ | refine g_bp ?_ | refine g_bq ?_ | refine g_br ?_ | refine g_bs ?_ | refine g_bt ?_ | refine g_bu ?_ | refine g_bv ?_ | refine g_bw ?_ | refine g_bx ?_ | refine g_by ?_ | refine g_bz ?_ | refine g_b0 ?_ | refine g_b1 ?_ | refine g_b2 ?_ | refine g_b3 ?_ | refine g_b4 ?_ | refine g_b5 ?_ | refine g_b6 ?_ | refine g_b7 ?_ | refine g_b8 ?_ | refine g_b9 ?_ | refine g_ca ?_ | refine g_cb ?_ | refine g_cc ?_ | refine g_cd ?_ | refine g_ce ?_ | refine g_i ?_ | refine g_j ?_ | refine g_cf ?_ | refine g_cg ?_ | refine g_ch ?_ | refine g_ci ?_ | refine g_cj ?_ | refine g_ck ?_ | refine g_cl ?_ | refine g_cm ?_ | refine g_cn ?_ | refine g_co ?_ | refine g_cp ?_ | refine g_cq ?_ | refine g_cr ?_ | refine g_cs ?_ | refine g_ct ?_ | refine g_cu ?_ | refine g_cv ?_ | refine g_cw ?_ | refine g_cx ?_ | refine g_cy ?_ | refine g_h ?_ | refine g_cz ?_ | refine g_c0 ?_ | refine g_c1 ?_ | refine g_c2 ?_ | refine g_c3 ?_ | refine g_c4 ?_ | refine g_k (by with_unfolding_all exact rfl) ?_ | refine g_c5 ?_| refine g_c9 ?_ | refine g_de ?_ | refine g_df ?_ | refine g_dg ?_ | refine g_dh ?_ | refine g_di ?_ | refine g_dj ?_ | refine g_dk ?_ | refine g_dl ?_ | refine g_dm ?_ | refine g_dn ?_))
def kPn (Q : Ct D) (E : Ex) : Ct (List (Key × D)) := fun kvs S => wp (penNew kvs) Q E S
theorem g_e6 {Q : Ct D} {E : Ex} {S : St2} {ρ : Vl.Env} {f : Vl.Env → Mo (List (Key × D))} (h : wp (f ρ) (kPn Q E) E S) : wp (fPen f ρ) Q E S := by
  unfold fPen
  rw [w_bnd]
  exact h
theorem intsD_map : ∀ ns : List Int, intsD (ns.map D.int) = some ns
  | [] => rfl
  | n :: ns => by
    show (match Vl.intD (.int n), intsD (ns.map D.int) with | some b, some bs => some (b :: bs) | _, _ => none) = _
    rw [intsD_map ns]
    rfl
theorem g_e7 {Q : Ct D} {E : Ex} {u : Unit} {ns : List Int} {t l : Int} (h : Q (.hnd 0) (some ⟨ns, t, l⟩, u)) : kPn Q E [(.inr "cells", .lst (ns.map D.int)), (.inr "turn", .int t), (.inr "left", .int l)] (none, u) := by
  show wp (penNew _) Q E _
  have e0 : penOf [(.inr "cells", .lst (ns.map D.int)), (.inr "turn", .int t), (.inr "left", .int l)] = some ⟨ns, t, l⟩ := by
    unfold penOf
    dsimp only
    rw [if_pos ⟨rfl, rfl, rfl⟩, intsD_map]
    rfl
  have e : penNew [(.inr "cells", .lst (ns.map D.int)), (.inr "turn", .int t), (.inr "left", .int l)] ((none, u) : St2) = some (.ok (.hnd 0), (some ⟨ns, t, l⟩, u)) := by
    unfold penNew
    rw [e0]
  unfold wp
  rw [e]
  exact h
theorem law_pen_go {Q : Ct D} {E : Ex} {ns : List Int} (hn : ns.length ≤ 63) (k : ∀ S' : St2, Pn 0 S' → Q (.hnd 0) S') : wp (F_law_pen [.lst (ns.map D.int)]) Q E ((none, ()) : St2) := by
  unfold F_law_pen
  refine g_c rfl ?_
  unfold m_law_pen
  walk_at "go"
  refine g_e6 ?_
  walk_at "go"
  have ec : Vl.cutD (ns.map D.int) none (some (63 : Int)) = ns.map D.int := by
    rw [show (63 : Int) = ((63 : Nat) : Int) from rfl, cutD_take, List.take_of_length_le (by rw [List.length_map]; exact hn)]
  rw [ec]
  walk_at "go"
  refine g_e7 ?_
  walk_at "go"
  exact k _ ⟨_, rfl, hn, Int.le_refl _, Int.le_refl _, Int.le_refl _⟩
/-! ### k10: what the law draws -/
theorem g_e8 {n : Nat} {t : List D → Vl.Env → Option Vl.Env} {ρ : Vl.Env} {xs : List D} {S : St2} {Q : Ct (Fl × Vl.Env)} (hl : xs.length = n) (h : kAs2 Q (t xs ρ) S) : kAsg (gLs n t) ρ Q (.lst xs) S := by
  unfold kAsg gLs
  dsimp only
  rw [if_pos hl]
  exact h
theorem nine {ws : List Str} (h : ws.length = 9) : ∃ a b c d e f g i j, ws = [a, b, c, d, e, f, g, i, j] := by
  match ws, h with
  | [a, b, c, d, e, f, g, i, j], _ => exact ⟨_, _, _, _, _, _, _, _, _, rfl⟩
theorem wd_len {w : Str} (h : Wd w) : w.length ≤ 100000 := (word_str h).1
theorem str_pick {ss : List Str} {j : Nat} {d : D} (h : (ss.map D.str)[j]? = some d) (hl : ∀ s ∈ ss, s.length ≤ 100000) : ∃ s : Str, d = .str s ∧ s.length ≤ 100000 := by
  obtain ⟨s, hs, rfl⟩ := List.mem_map.mp (List.mem_of_getElem? h)
  exact ⟨s, rfl, hl s hs⟩
def Cols (d : D) : Prop := ∃ cols, d = .lst cols ∧ cols.length ≤ 3 ∧ Smq cols ∧ ∀ c ∈ cols, Ent c
theorem cols_words {ws : List Str} (h : ∀ w ∈ ws, Wd w) (hl : ws.length ≤ 3) : Cols (.lst (ws.map D.str)) :=
  ⟨_, rfl, by rw [List.length_map]; exact hl, smq_words h, fun c hc => by
    obtain ⟨w, hw, rfl⟩ := List.mem_map.mp hc
    exact (word_str (h w hw)).1⟩
theorem cols_one : Cols (.lst [.int 1]) := ⟨_, rfl, Nat.le_of_ble_eq_true rfl, fun x hx => by
    rw [List.mem_singleton.mp hx]
    exact ⟨_, rfl, sm_int 1⟩, fun c hc => by
    rw [List.mem_singleton.mp hc]
    exact trivial⟩
theorem cols_pick {a0 a1 a2 a3 a4 a5 a6 a7 a8 : Str} (wd : ∀ {w}, w ∈ [a0, a1, a2, a3, a4, a5, a6, a7, a8] → Wd w) {j : Nat} {d : D} (h : ([.lst [.str a3], .lst [.str a3, .str a4], .lst [], .lst [.str a3, .str a4, .str a5], .lst [.str a3, .str a3], .lst [.int 1]] : List D)[j]? = some d) : Cols d := by
  have w3 : Wd a3 := wd (by simp)
  have w4 : Wd a4 := wd (by simp)
  have w5 : Wd a5 := wd (by simp)
  match j, h with
  | 0, h => cases h; exact cols_words (ws := [a3]) (by intro w hw; rw [List.mem_singleton.mp hw]; exact w3) (Nat.le_of_ble_eq_true rfl)
  | 1, h => cases h; exact cols_words (ws := [a3, a4]) (by intro w hw; simp at hw; rcases hw with rfl | rfl <;> assumption) (Nat.le_of_ble_eq_true rfl)
  | 2, h => cases h; exact cols_words (ws := []) (by intro w hw; cases hw) (Nat.le_of_ble_eq_true rfl)
  | 3, h => cases h; exact cols_words (ws := [a3, a4, a5]) (by intro w hw; simp at hw; rcases hw with rfl | rfl | rfl <;> assumption) (Nat.le_of_ble_eq_true rfl)
  | 4, h => cases h; exact cols_words (ws := [a3, a3]) (by intro w hw; simp at hw; rw [hw]; exact w3) (Nat.le_of_ble_eq_true rfl)
  | 5, h => cases h; exact cols_one
  | _ + 6, h => cases h
theorem g_e9 {n : Int} {ds : List D} {S : St2} {Q : Ct D} {E : Ex} (h1 : ds.length ≤ 1000) (h2 : 0 ≤ n) (h3 : n ≤ 100) (h : Q (.lst (List.replicate n.toNat ds).flatten) S) : wp (kRep n ds) Q E S := by
  unfold kRep
  rw [w_grd]
  exact ⟨by rw [decide_eq_true h1, decide_eq_true h2, decide_eq_true h3]; rfl, h⟩
theorem pairs_go {Q : Ct (List D)} {S : St2} {ρ : Vl.Env} {ws : List Str} {n : Nat} (hw : ws.length = 9) (hn : n < 4) (hρ : (ρ[3]?).join = some (.lst (ws.map D.str))) (h12 : ρ.length = 14)
    (h : Q (((List.range n).map fun i => ((.str (ws.getD (3 + i) ""), .str (ws.getD (5 + i) "")) : D × D)).map prD) S) :
    wp (mapC (gN 12) (fun _ => Vl.ret true) (fN (fCons (f2 (fVar 3) (f2 (fC (.int 3)) (fVar 12) kAdd) kGet) (fCons (f2 (fVar 3) (f2 (fC (.int 5)) (fVar 12) kAdd) kGet) fNil)) kTup) ρ (rangeD 0 n)) (fun ys S1 => Q ys S1) N0 S := by
  refine map_det (fun i => prD (.str (ws.getD (3 + i) ""), .str (ws.getD (5 + i) ""))) (fun i d hd => ?_) ?_
  · have hi : i < n := by
      have := (List.getElem?_eq_some_iff.mp hd).1
      rw [range_len] at this
      exact this
    rw [range_at 0 hi] at hd
    cases hd
    refine ⟨ρ.set 12 (some (.int (0 + (i : Nat)))), rfl, ?_⟩
    have e3 : ((ρ.set 12 (some (D.int (0 + (i : Nat)))))[3]?).join = some (.lst (ws.map D.str)) := by
      rw [List.getElem?_set_ne (by decide)]
      exact hρ
    have e12 : ((ρ.set 12 (some (D.int (0 + (i : Nat)))))[12]?).join = some (.int (0 + (i : Nat))) := by
      rw [List.getElem?_set_self (by omega)]
      rfl
    have at_ : ∀ k, k < 9 → atI (ws.map D.str) ((k : Nat) : Int) = some (.str (ws.getD k "")) := fun k hk => atI_nat (by
      rw [List.getElem?_map, List.getD_eq_getElem?_getD, List.getElem?_eq_getElem (by omega)]
      rfl)
    have a3 := at_ (3 + i) (by omega)
    have a5 := at_ (5 + i) (by omega)
    rw [show (((3 + i : Nat)) : Int) = 3 + (0 + (i : Int)) by omega] at a3
    rw [show (((5 + i : Nat)) : Int) = 5 + (0 + (i : Int)) by omega] at a5
    walk_at "go"
    refine g_b e3 ?_
    walk_at "go"
    refine g_b e12 ?_
    walk_at "go"
    refine g_g a3 ?_
    walk_at "go"
    refine g_b e3 ?_
    walk_at "go"
    refine g_b e12 ?_
    walk_at "go"
    refine g_g a5 ?_
    walk_at "go"
    refine g_dq (Nat.le_of_ble_eq_true rfl) ?_
    exact ⟨rfl, rfl⟩
  · rw [range_len]
    rw [List.map_map] at h
    exact h
def pairAt (ws : List Str) (i : Nat) : D × D := (.str (ws.getD (3 + i) ""), .str (ws.getD (5 + i) ""))
end Lw
set_option Elab.async false
set_option linter.all false
set_option maxRecDepth 100000
set_option maxHeartbeats 4000000
namespace Lw
open PySem PySem.Spec PyProof.Rows L2 Oc Os Vl
local macro_rules | `(tactic| walk_at "go") => `(tactic| (with_reducible repeat first | refine g_c6 ?_ | refine g_l ?_ | refine g_m ?_ | refine g_n ?_ | refine g_o ?_ | refine g_p ?_ | refine g_q ?_ | refine g_r ?_ | refine g_s ?_ | refine g_t ?_ | refine g_u ?_ | refine g_v ?_ | refine g_c7 ?_ | refine g_d ?_ | refine g_a ?_ | refine g_w ?_ | refine g_x (by with_unfolding_all exact rfl) ?_ | refine g_y ?_ | refine g_z (by with_unfolding_all exact rfl) ?_ | refine g_aa ?_ | refine g_ab ?_ | refine g_ac ?_ | refine g_ad (by with_unfolding_all exact rfl) ?_ | refine g_ae (by with_unfolding_all exact rfl) ?_ | refine g_af (by with_unfolding_all exact rfl) ?_ | refine g_ag ?_ | refine g_ah ?_ | refine g_ai ?_ | refine g_b (by with_unfolding_all exact rfl) ?_ | refine g_aj ?_ | refine g_ak ?_ | refine g_al ?_ | refine g_am ?_ | refine g_an ?_ | refine g_ao ?_ | refine g_ap ?_ | refine g_aq ?_ | refine g_ar ?_ | refine g_as ?_ | refine g_at ?_ | refine g_au ?_ | refine g_av ?_ | refine g_aw ?_ | refine g_ax ?_ | refine g_ay ?_ | refine g_az (by with_unfolding_all exact rfl) ?_ | refine g_a0 ?_ | refine g_a1 ?_ | refine g_a2 ?_ | refine g_a3 ?_ | refine g_a4 ?_ | refine g_a5 ?_ | refine g_a6 ?_ | refine g_a7 ?_ | refine g_a8 ?_ | refine g_a9 ?_ | refine g_ba ?_ | refine g_bb ?_ | refine g_bc ?_ | refine g_bd ?_ | refine g_e (by with_unfolding_all exact rfl) ?_ | refine g_f (by with_unfolding_all exact rfl) ?_ | refine g_be ?_ | refine g_bg (by with_unfolding_all exact rfl) ?_ | refine g_bf (by with_unfolding_all exact rfl) ?_ | refine g_bh ?_ | refine g_bi ?_ | refine g_bj ?_ | refine g_bk ?_ | refine g_bl ?_ | refine g_bm ?_ | refine g_bn ?_ | refine g_bo ?_ | refine g_bp ?_ | refine g_bq ?_ | refine g_br ?_ | refine g_bs ?_ | refine g_bt ?_ | refine g_bu ?_ | refine g_bv ?_ | refine g_bw ?_ | refine g_bx ?_ | refine g_by ?_ | refine g_bz ?_ | refine g_b0 ?_ | refine g_b1 ?_ | refine g_b2 ?_ | refine g_b3 ?_ | refine g_b4 ?_ | refine g_b5 ?_ | refine g_b6 ?_ | refine g_b7 ?_ | refine g_b8 ?_ | refine g_b9 ?_ | refine g_ca ?_ | refine g_cb ?_ | refine g_cc ?_ | refine g_cd ?_ | refine g_ce ?_ | refine g_i ?_ | refine g_j ?_ | refine g_cf ?_ | refine g_cg ?_ | refine g_ch ?_ | refine g_ci ?_ | refine g_cj ?_ | refine g_ck ?_ | refine g_cl ?_ | refine g_cm ?_ | refine g_cn ?_ | refine g_co ?_ | refine g_cp ?_ | refine g_cq ?_ | refine g_cr ?_ | refine g_cs ?_ | refine g_ct ?_ | refine g_cu ?_ | refine g_cv ?_ | refine g_cw ?_ | refine g_cx ?_ | refine g_cy ?_ | refine g_h ?_ | refine g_cz ?_ | refine g_c0 ?_ | refine g_c1 ?_ | refine g_c2 ?_ | refine g_c3 ?_ | refine g_c4 ?_ | refine g_k (by with_unfolding_all exact rfl) ?_ | refine g_c5 ?_| refine g_c9 ?_ | refine g_de ?_ | refine g_df ?_ | refine g_dg ?_ | refine g_dh ?_ | refine g_di ?_ | refine g_dj ?_ | refine g_dk ?_ | refine g_dl ?_ | refine g_dm ?_ | refine g_dn ?_))
noncomputable def tlB : MoS := (sThen (sSet 7 (fun ρ => mCatch id "InvalidRule" hvA ((fSt 5 1 (fCons (fVar 4) (fCons (fVar 5) (fCons (fVar 8) (fCons (fC (.int 1)) (fCons (fC .non) fNil))))) (fCons (fVar 9) fNil) (fun xs ys => xs ++ (ys ++ [.non])) F_Rule_init) ρ)))
  (sThen (sIf (fun ρ => bnd (f2 (fun ρ => mCatch id "InvalidRule" hvA ((fSt 3 1 (fCons (fVar 4) (fCons (fVar 5) (fCons (fN (fCons (fVar 8) fNil) kTuple) fNil))) (fCons (fVar 9) fNil) (fun xs ys => xs ++ ys) F_Rule_reference) ρ)) (fVar 7) (fun x y => nox (kNeO [("Rule", F_Rule_eq)] Oh.tys x y)) ρ) kBl) (sRet (fC (.bl false))) sNx)
  (sThen (sSet 7 (fun ρ => mCatch id "InvalidRule" hvA ((fSt 5 2 (fCons (fVar 4) (fCons (fVar 5) (fCons (fVar 8) (fCons (fC (.int 0)) (fCons (fVar 11) fNil))))) (fCons (fVar 9) (fCons (fVar 10) fNil)) (fun xs ys => xs ++ ys) F_Rule_init) ρ)))
  (sThen (sIf (fun ρ => bnd (f2 (fun ρ => mCatch id "InvalidRule" hvA ((fSt 4 2 (fCons (fVar 4) (fCons (fVar 5) (fCons (fVar 8) (fCons (fVar 11) fNil)))) (fCons (fVar 9) (fCons (fVar 10) fNil)) (fun xs ys => xs ++ ys) F_Rule_at_most) ρ)) (fVar 7) (fun x y => nox (kNeO [("Rule", F_Rule_eq)] Oh.tys x y)) ρ) kBl) (sRet (fC (.bl false))) sNx)
  (sThen (sSet 7 (fun ρ => mCatch id "InvalidRule" hvA ((fSt 5 2 (fCons (fVar 4) (fCons (fVar 5) (fCons (fVar 8) (fCons (fVar 11) (fCons (fVar 11) fNil))))) (fCons (fVar 9) (fCons (fVar 10) fNil)) (fun xs ys => xs ++ ys) F_Rule_init) ρ)))
  (sThen (sIf (fun ρ => bnd (f2 (fun ρ => mCatch id "InvalidRule" hvA ((fSt 4 2 (fCons (fVar 4) (fCons (fVar 5) (fCons (fVar 8) (fCons (fVar 11) fNil)))) (fCons (fVar 10) (fCons (fVar 9) fNil)) (fun xs ys => xs ++ ys.reverse) F_Rule_exactly) ρ)) (fVar 7) (fun x y => nox (kNeO [("Rule", F_Rule_eq)] Oh.tys x y)) ρ) kBl) (sRet (fC (.bl false))) sNx)
  (sThen (sSet 7 (fun ρ => mCatch id "InvalidRule" hvA ((fSt 5 2 (fCons (fVar 4) (fCons (fVar 5) (fCons (fVar 8) (fCons (fC (.int 0)) (fCons (fC (.int 0)) fNil))))) (fCons (fVar 9) (fCons (fVar 10) fNil)) (fun xs ys => xs ++ ys) F_Rule_init) ρ)))
  (sIf (fun ρ => bnd (f2 (fun ρ => mCatch id "InvalidRule" hvA ((fSt 3 2 (fCons (fVar 4) (fCons (fVar 5) (fCons (fVar 8) fNil))) (fCons (fVar 9) (fCons (fVar 10) fNil)) (fun xs ys => xs ++ ys) F_Rule_none) ρ)) (fVar 7) (fun x y => nox (kNeO [("Rule", F_Rule_eq)] Oh.tys x y)) ρ) kBl) (sRet (fC (.bl false))) sNx))))))))
noncomputable def fLets : Vl.Env → Mo D := (fN (fCons (fVar 1) (fCons (fN (fCons (fC .non) (fCons (fC (.dic [])) (fCons (fDisp (fPs (f2 (fVar 3) (fC (.int 7)) kGet) (fSl (fVar 3) (fun _ => ret none) (fun ρ => bnd ((fC (.int 2)) ρ) kOi)) (fun _ => ret []))) (fCons (fDisp (fPs (f2 (fVar 3) (fC (.int 8)) kGet) (fSl (fVar 3) (fun _ => ret none) (fun ρ => bnd ((fC (.int 3)) ρ) kOi)) (fun _ => ret []))) fNil)))) kLst) fNil)) F_law_pick)
noncomputable def tlA : MoS := (sThen (sAsg (fLc (fun ρ => bnd ((fCons (fC (.int 2)) fNil) ρ) fun xs => opt (rg1 xs)) (gN 12) (fun _ => ret true) fLets [12]) (gLs 2 (gCn (gN 9) (gCn (gN 10) gNl))))
  (sThen (sSet 11 (fN (fCons (fVar 1) (fCons (fN (fCons (fC (.int 0)) (fCons (fC (.int 1)) (fCons (fC (.int 2)) (fCons (fC (.int 3)) (fCons (fC (.int 4)) (fCons (fC .non) (fCons (fC (.bl true)) fNil))))))) kLst) fNil)) F_law_pick))
  tlB))
section
variable {Q : Ct (Fl × Vl.Env)} {E : Ex} {S : St2} {ρ : Vl.Env}
theorem pair_go {a b : Vl.Env → Mo D} {rest : MoS} {t o : Str} {ps : List (D × D)} {l m : D} {w v : Wv} (A : RArgs t o ps l m w v) (h7 : 7 < ρ.length)
    (ha : ∀ {Q2 : Ct D} {E2 : Ex}, Fin Q2 E2 S (rulR t o ps l m w v) → wp (a ρ) Q2 E2 S)
    (hb : ∀ {Q2 : Ct D} {E2 : Ex}, Fin Q2 E2 S (rulR t o ps l m w v) → wp (b (ρ.set 7 (some (rulR t o ps l m w v).d))) Q2 E2 S)
    (h : wp (rest (ρ.set 7 (some (rulR t o ps l m w v).d))) Q E S) :
    wp (sThen (sSet 7 (fun ρ => mCatch id "InvalidRule" hvA (a ρ))) (sThen (sIf (fun ρ => bnd (f2 (fun ρ => mCatch id "InvalidRule" hvA (b ρ)) (fVar 7) (fun x y => nox (kNeO [("Rule", F_Rule_eq)] Oh.tys x y)) ρ) kBl) (sRet (fC (.bl false))) sNx) rest) ρ) Q E S := by
  have e7 : ((ρ.set 7 (some (rulR t o ps l m w v).d))[7]?).join = some (rulR t o ps l m w v).d := by
    rw [List.getElem?_set_self h7]
    rfl
  walk_at "go"
  refine told_go ha ?_
  walk_at "go"
  refine told_go hb ?_
  walk_at "go"
  refine g_b e7 ?_
  walk_at "go"
  refine cmp_go A ?_
  walk_at "go"
  exact h
/-- the last pair -/
theorem pairE_go {a b : Vl.Env → Mo D} {t o : Str} {ps : List (D × D)} {l m : D} {w v : Wv} (A : RArgs t o ps l m w v) (h7 : 7 < ρ.length)
    (ha : ∀ {Q2 : Ct D} {E2 : Ex}, Fin Q2 E2 S (rulR t o ps l m w v) → wp (a ρ) Q2 E2 S)
    (hb : ∀ {Q2 : Ct D} {E2 : Ex}, Fin Q2 E2 S (rulR t o ps l m w v) → wp (b (ρ.set 7 (some (rulR t o ps l m w v).d))) Q2 E2 S)
    (h : Q (.nx, ρ.set 7 (some (rulR t o ps l m w v).d)) S) :
    wp (sThen (sSet 7 (fun ρ => mCatch id "InvalidRule" hvA (a ρ))) (sIf (fun ρ => bnd (f2 (fun ρ => mCatch id "InvalidRule" hvA (b ρ)) (fVar 7) (fun x y => nox (kNeO [("Rule", F_Rule_eq)] Oh.tys x y)) ρ) kBl) (sRet (fC (.bl false))) sNx) ρ) Q E S := by
  have e7 : ((ρ.set 7 (some (rulR t o ps l m w v).d))[7]?).join = some (rulR t o ps l m w v).d := by
    rw [List.getElem?_set_self h7]
    rfl
  walk_at "go"
  refine told_go ha ?_
  walk_at "go"
  refine told_go hb ?_
  walk_at "go"
  refine g_b e7 ?_
  walk_at "go"
  refine cmp_go A ?_
  walk_at "go"
  exact h
end
def env10 (v0 v2 v3 v6 v7 v12 v13 : Option D) (t o : Str) (ps : List (D × D)) (w v : Wv) (m : D) : Vl.Env := [v0, some (.hnd 0), v2, v3, some (.str t), some (.str o), v6, v7, some (.lst (ps.map prD)), some w.d, some v.d, some m, v12, v13]
theorem env_set7 {v0 v2 v3 v6 v7 v12 v13 x : Option D} {t o : Str} {ps : List (D × D)} {w v : Wv} {m : D} : (env10 v0 v2 v3 v6 v7 v12 v13 t o ps w v m).set 7 x = env10 v0 v2 v3 v6 x v12 v13 t o ps w v m := rfl
theorem tlB_go {Q : Ct (Fl × Vl.Env)} {E : Ex} {S : St2} {v0 v2 v3 v6 v7 v12 v13 : Option D} {t o : Str} {ps : List (D × D)} {w v : Wv} {m : D} (hm : Num m)
    (A : ∀ {l m : D} {w v : Wv}, Num l → Num m → w.Fine → v.Fine → RArgs t o ps l m w v) (hw : w.Fine) (hv : v.Fine) (h : ∀ v7, Q (.nx, env10 v0 v2 v3 v6 v7 v12 v13 t o ps w v m) S) : wp (tlB (env10 v0 v2 v3 v6 v7 v12 v13 t o ps w v m)) Q E S := by
  have A1 : RArgs t o ps (.int 1) .non w .non := A trivial trivial hw trivial
  have A2 : RArgs t o ps (.int 0) m w v := A trivial hm hw hv
  have A3 : RArgs t o ps m m w v := A hm hm hw hv
  have A4 : RArgs t o ps (.int 0) (.int 0) w v := A trivial trivial hw hv
  unfold tlB
  refine pair_go A1 (Nat.le_of_ble_eq_true rfl) (fun hf => ?_) (fun hf => ?_) ?_
  · unfold env10
    refine g_da ?_
    walk_at "go"
    refine g_db ?_
    walk_at "go"
    exact ⟨rfl, rfl, init_go (w := w) (v := .non) A1 .l hf⟩
  · unfold env10
    refine g_da ?_
    walk_at "go"
    refine g_db ?_
    walk_at "go"
    exact ⟨rfl, rfl, ref_go A1 .t hf⟩
  rw [env_set7]
  refine pair_go A2 (Nat.le_of_ble_eq_true rfl) (fun hf => ?_) (fun hf => ?_) ?_
  · unfold env10
    refine g_da ?_
    walk_at "go"
    refine g_db ?_
    walk_at "go"
    exact ⟨rfl, rfl, init_go A2 .l hf⟩
  · unfold env10
    refine g_da ?_
    walk_at "go"
    refine g_db ?_
    walk_at "go"
    exact ⟨rfl, rfl, at_most_go A2 .l hf⟩
  rw [env_set7]
  refine pair_go A3 (Nat.le_of_ble_eq_true rfl) (fun hf => ?_) (fun hf => ?_) ?_
  · unfold env10
    refine g_da ?_
    walk_at "go"
    refine g_db ?_
    walk_at "go"
    exact ⟨rfl, rfl, init_go A3 .l hf⟩
  · unfold env10
    refine g_da ?_
    walk_at "go"
    refine g_db ?_
    walk_at "go"
    exact ⟨rfl, rfl, exactly_go A3 .l hf⟩
  rw [env_set7]
  refine pairE_go A4 (Nat.le_of_ble_eq_true rfl) (fun hf => ?_) (fun hf => ?_) ?_
  · unfold env10
    refine g_da ?_
    walk_at "go"
    refine g_db ?_
    walk_at "go"
    exact ⟨rfl, rfl, init_go A4 .l hf⟩
  · unfold env10
    refine g_da ?_
    walk_at "go"
    refine g_db ?_
    walk_at "go"
    exact ⟨rfl, rfl, none_go A4 .l hf⟩
  exact h _
end Lw
set_option Elab.async false
set_option linter.all false
set_option maxRecDepth 100000
set_option maxHeartbeats 4000000
namespace Lw
open PySem PySem.Spec PyProof.Rows L2 Oc Os Vl
local macro_rules | `(tactic| walk_at "go") => `(tactic| (with_reducible repeat first | refine g_c6 ?_ | refine g_l ?_ | refine g_m ?_ | refine g_n ?_ | refine g_o ?_ | refine g_p ?_ | refine g_q ?_ | refine g_r ?_ | refine g_s ?_ | refine g_t ?_ | refine g_u ?_ | refine g_v ?_ | refine g_c7 ?_ | refine g_d ?_ | refine g_a ?_ | refine g_w ?_ | refine g_x (by with_unfolding_all exact rfl) ?_ | refine g_y ?_ | refine g_z (by with_unfolding_all exact rfl) ?_ | refine g_aa ?_ | refine g_ab ?_ | refine g_ac ?_ | refine g_ad (by with_unfolding_all exact rfl) ?_ | refine g_ae (by with_unfolding_all exact rfl) ?_ | refine g_af (by with_unfolding_all exact rfl) ?_ | refine g_ag ?_ | refine g_ah ?_ | refine g_ai ?_ | refine g_b (by with_unfolding_all exact rfl) ?_ | refine g_aj ?_ | refine g_ak ?_ | refine g_al ?_ | refine g_am ?_ | refine g_an ?_ | refine g_ao ?_ | refine g_ap ?_ | refine g_aq ?_ | refine g_ar ?_ | refine g_as ?_ | refine g_at ?_ | refine g_au ?_ | refine g_av ?_ | refine g_aw ?_ | refine g_ax ?_ | refine g_ay ?_ | refine g_az (by with_unfolding_all exact rfl) ?_ | refine g_a0 ?_ | refine g_a1 ?_ | refine g_a2 ?_ | refine g_a3 ?_ | refine g_a4 ?_ | refine g_a5 ?_ | refine g_a6 ?_ | refine g_a7 ?_ | refine g_a8 ?_ | refine g_a9 ?_ | refine g_ba ?_ | refine g_bb ?_ | refine g_bc ?_ | refine g_bd ?_ | refine g_e (by with_unfolding_all exact rfl) ?_ | refine g_f (by with_unfolding_all exact rfl) ?_ | refine g_be ?_ | refine g_bg (by with_unfolding_all exact rfl) ?_ | refine g_bf (by with_unfolding_all exact rfl) ?_ | refine g_bh ?_ | refine g_bi ?_ | refine g_bj ?_ | refine g_bk ?_ | refine g_bl ?_ | refine g_bm ?_ | refine g_bn ?_ | refine g_bo ?_ | refine g_bp ?_ | refine g_bq ?_ | refine g_br ?_ | refine g_bs ?_ | refine g_bt ?_ | refine g_bu ?_ | refine g_bv ?_ | refine g_bw ?_ | refine g_bx ?_ | refine g_by ?_ | refine g_bz ?_ | refine g_b0 ?_ | refine g_b1 ?_ | refine g_b2 ?_ | refine g_b3 ?_ | refine g_b4 ?_ | refine g_b5 ?_ | refine g_b6 ?_ | refine g_b7 ?_ | refine g_b8 ?_ | refine g_b9 ?_ | refine g_ca ?_ | refine g_cb ?_ | refine g_cc ?_ | refine g_cd ?_ | refine g_ce ?_ | refine g_i ?_ | refine g_j ?_ | refine g_cf ?_ | refine g_cg ?_ | refine g_ch ?_ | refine g_ci ?_ | refine g_cj ?_ | refine g_ck ?_ | refine g_cl ?_ | refine g_cm ?_ | refine g_cn ?_ | refine g_co ?_ | refine g_cp ?_ | refine g_cq ?_ | refine g_cr ?_ | refine g_cs ?_ | refine g_ct ?_ | refine g_cu ?_ | refine g_cv ?_ | refine g_cw ?_ | refine g_cx ?_ | refine g_cy ?_ | refine g_h ?_ | refine g_cz ?_ | refine g_c0 ?_ | refine g_c1 ?_ | refine g_c2 ?_ | refine g_c3 ?_ | refine g_c4 ?_ | refine g_k (by with_unfolding_all exact rfl) ?_ | refine g_c5 ?_| refine g_c9 ?_ | refine g_de ?_ | refine g_df ?_ | refine g_dg ?_ | refine g_dh ?_ | refine g_di ?_ | refine g_dj ?_ | refine g_dk ?_ | refine g_dl ?_ | refine g_dm ?_ | refine g_dn ?_))
abbrev strs9 (a0 a1 a2 a3 a4 a5 a6 a7 a8 : Str) : List D := [.str a0, .str a1, .str a2, .str a3, .str a4, .str a5, .str a6, .str a7, .str a8]
theorem lets_pick {a0 a1 a2 a3 a4 a5 a6 a7 a8 : Str} (wd : ∀ {w}, w ∈ [a0, a1, a2, a3, a4, a5, a6, a7, a8] → Wd w) (nd : [a0, a1, a2, a3, a4, a5, a6, a7, a8].Nodup) {j : Nat} {d : D}
    (h : ([.non, .dic [], .dic [(.inr a7, .lst [.str a0, .str a1])], .dic [(.inr a8, .lst [.str a0, .str a1, .str a2])]] : List D)[j]? = some d) : ∃ w : Wv, d = w.d ∧ w.Fine := by
  match j, h with
  | 0, h => cases h; exact ⟨.non, rfl, trivial⟩
  | 1, h => cases h; exact ⟨.nil, rfl, trivial⟩
  | 2, h =>
    cases h
    refine ⟨.two a7 a0 a1, rfl, wd (by simp), fun x hx => wd (by simp at hx ⊢; rcases hx with rfl | rfl <;> simp), ?_⟩
    simp only [List.nodup_cons, List.mem_cons] at nd ⊢
    simp
    exact fun e => nd.1 (.inl e)
  | 3, h => cases h; exact ⟨.three a8 a0 a1 a2, rfl, wd (by simp)⟩
  | _ + 4, h => cases h
theorem fLets_go {Q : Ct D} {E : Ex} {S : St2} {ρ : Vl.Env} {n : Nat} {a0 a1 a2 a3 a4 a5 a6 a7 a8 : Str} (p : Pn n S) (hn : n < 100000) (wd : ∀ {w}, w ∈ [a0, a1, a2, a3, a4, a5, a6, a7, a8] → Wd w) (nd : [a0, a1, a2, a3, a4, a5, a6, a7, a8].Nodup)
    (h1 : (ρ[1]?).join = some (.hnd 0)) (h3 : (ρ[3]?).join = some (.lst (strs9 a0 a1 a2 a3 a4 a5 a6 a7 a8)))
    (k : ∀ (w : Wv) (S' : St2), w.Fine → Pn (n + 1) S' → Q w.d S') : wp (fLets ρ) Q E S := by
  unfold fLets
  walk_at "go"
  refine g_b h1 ?_
  walk_at "go"
  refine g_b h3 ?_
  walk_at "go"
  refine g_g (d := .str a7) rfl ?_
  walk_at "go"
  refine g_b h3 ?_
  walk_at "go"
  refine g_eh (Nat.le_of_ble_eq_true rfl) ?_
  walk_at "go"
  refine g_b h3 ?_
  walk_at "go"
  refine g_g (d := .str a8) rfl ?_
  walk_at "go"
  refine g_b h3 ?_
  walk_at "go"
  refine g_eh (Nat.le_of_ble_eq_true rfl) ?_
  walk_at "go"
  refine g_dc (Nat.le_of_ble_eq_true rfl) ?_
  walk_at "go"
  refine pick_go p (by omega) (xs := [.non, .dic [], .dic [(.inr a7, .lst [.str a0, .str a1])], .dic [(.inr a8, .lst [.str a0, .str a1, .str a2])]]) rfl (Nat.le_of_ble_eq_true rfl) (show (4 : Nat) < 1073741824 by decide) ?_
  intro j d S3 hd p3
  obtain ⟨w, rfl, hw⟩ := lets_pick wd nd hd
  exact k w S3 hw p3
theorem num_pick {j : Nat} {d : D} (h : ([.int 0, .int 1, .int 2, .int 3, .int 4, .non, .bl true] : List D)[j]? = some d) : Num d := by
  match j, h with
  | 0, h => cases h; exact trivial
  | 1, h => cases h; exact trivial
  | 2, h => cases h; exact trivial
  | 3, h => cases h; exact trivial
  | 4, h => cases h; exact trivial
  | 5, h => cases h; exact trivial
  | 6, h => cases h; exact trivial
  | _ + 7, h => cases h
theorem tlA_go {Q : Ct (Fl × Vl.Env)} {E : Ex} {S : St2} {n : Nat} {v0 v2 v6 v7 v9 v10 v11 v12 v13 : Option D} {t o : Str} {ps : List (D × D)} {a0 a1 a2 a3 a4 a5 a6 a7 a8 : Str} (p : Pn n S) (hn : n < 90000) (wd : ∀ {w}, w ∈ [a0, a1, a2, a3, a4, a5, a6, a7, a8] → Wd w) (nd : [a0, a1, a2, a3, a4, a5, a6, a7, a8].Nodup)
    (A : ∀ {l m : D} {w v : Wv}, Num l → Num m → w.Fine → v.Fine → RArgs t o ps l m w v)
    (k : ∀ (v3 v7 v9 v10 v11 : Option D) (S' : St2), Pn (n + 3) S' → Q (.nx, [v0, some (.hnd 0), v2, v3, some (.str t), some (.str o), v6, v7, some (.lst (ps.map prD)), v9, v10, v11, v12, v13]) S') :
    wp (tlA [v0, some (.hnd 0), v2, some (.lst (strs9 a0 a1 a2 a3 a4 a5 a6 a7 a8)), some (.str t), some (.str o), v6, v7, some (.lst (ps.map prD)), v9, v10, v11, v12, v13]) Q E S := by
  unfold tlA
  walk_at "go"
  with_reducible refine g_dv (by decide) (by decide) ?_
  walk_at "go"
  rw [show rangeD 0 (Int.toNat 2) = [.int 0, .int 1] from rfl]
  refine g_c8 (Nat.le_of_ble_eq_true rfl) ?_
  refine map_one (ρ2 := [v0, some (.hnd 0), v2, some (.lst (strs9 a0 a1 a2 a3 a4 a5 a6 a7 a8)), some (.str t), some (.str o), v6, v7, some (.lst (ps.map prD)), v9, v10, v11, some (.int 0), v13]) rfl ?_
  refine fLets_go p (by omega) wd nd rfl rfl ?_
  intro w S1 hw p1
  refine map_one (ρ2 := [v0, some (.hnd 0), v2, some (.lst (strs9 a0 a1 a2 a3 a4 a5 a6 a7 a8)), some (.str t), some (.str o), v6, v7, some (.lst (ps.map prD)), v9, v10, v11, some (.int 1), v13]) rfl ?_
  refine fLets_go (n := n + 1) p1 (by omega) wd nd rfl rfl ?_
  intro v S2 hv p2
  refine map_end ?_
  walk_at "go"
  refine g_e8 rfl ?_
  walk_at "go"
  refine g_dc (Nat.le_of_ble_eq_true rfl) ?_
  walk_at "go"
  refine pick_go (n := n + 1 + 1) p2 (by omega) (xs := [.int 0, .int 1, .int 2, .int 3, .int 4, .non, .bl true]) rfl (Nat.le_of_ble_eq_true rfl) (show (7 : Nat) < 1073741824 by decide) ?_
  intro j m S3 hd p3
  have hm := num_pick hd
  walk_at "go"
  exact tlB_go hm A hw hv fun v7 => k _ _ _ _ _ S3 p3
end Lw
set_option Elab.async false
set_option linter.all false
set_option maxRecDepth 100000
set_option maxHeartbeats 4000000
namespace Lw
open PySem PySem.Spec PyProof.Rows L2 Oc Os Vl
local macro_rules | `(tactic| walk_at "go") => `(tactic| (with_reducible repeat first | refine g_c6 ?_ | refine g_l ?_ | refine g_m ?_ | refine g_n ?_ | refine g_o ?_ | refine g_p ?_ | refine g_q ?_ | refine g_r ?_ | refine g_s ?_ | refine g_t ?_ | refine g_u ?_ | refine g_v ?_ | refine g_c7 ?_ | refine g_d ?_ | refine g_a ?_ | refine g_w ?_ | refine g_x (by with_unfolding_all exact rfl) ?_ | refine g_y ?_ | refine g_z (by with_unfolding_all exact rfl) ?_ | refine g_aa ?_ | refine g_ab ?_ | refine g_ac ?_ | refine g_ad (by with_unfolding_all exact rfl) ?_ | refine g_ae (by with_unfolding_all exact rfl) ?_ | refine g_af (by with_unfolding_all exact rfl) ?_ | refine g_ag ?_ | refine g_ah ?_ | refine g_ai ?_ | refine g_b (by with_unfolding_all exact rfl) ?_ | refine g_aj ?_ | refine g_ak ?_ | refine g_al ?_ | refine g_am ?_ | refine g_an ?_ | refine g_ao ?_ | refine g_ap ?_ | refine g_aq ?_ | refine g_ar ?_ | refine g_as ?_ | refine g_at ?_ | refine g_au ?_ | refine g_av ?_ | refine g_aw ?_ | refine g_ax ?_ | refine g_ay ?_ | refine g_az (by with_unfolding_all exact rfl) ?_ | refine g_a0 ?_ | refine g_a1 ?_ | refine g_a2 ?_ | refine g_a3 ?_ | refine g_a4 ?_ | refine g_a5 ?_ | refine g_a6 ?_ | refine g_a7 ?_ | refine g_a8 ?_ | refine g_a9 ?_ | refine g_ba ?_ | refine g_bb ?_ | refine g_bc ?_ | refine g_bd ?_ | refine g_e (by with_unfolding_all exact rfl) ?_ | refine g_f (by with_unfolding_all exact rfl) ?_ | refine g_be ?_ | refine g_bg (by with_unfolding_all exact rfl) ?_ | refine g_bf (by with_unfolding_all exact rfl) ?_ | refine g_bh ?_ | refine g_bi ?_ | refine g_bj ?_ | refine g_bk ?_ | refine g_bl ?_ | refine g_bm ?_ | refine g_bn ?_ | refine g_bo ?_ | refine g_bp ?_ | refine g_bq ?_ | refine g_br ?_ | refine g_bs ?_ | refine g_bt ?_ | refine g_bu ?_ | refine g_bv ?_ | refine g_bw ?_ | refine g_bx ?_ | refine g_by ?_ | refine g_bz ?_ | refine g_b0 ?_ | refine g_b1 ?_ | refine g_b2 ?_ | refine g_b3 ?_ | refine g_b4 ?_ | refine g_b5 ?_ | refine g_b6 ?_ | refine g_b7 ?_ | refine g_b8 ?_ | refine g_b9 ?_ | refine g_ca ?_ | refine g_cb ?_ | refine g_cc ?_ | refine g_cd ?_ | refine g_ce ?_ | refine g_i ?_ | refine g_j ?_ | refine g_cf ?_ | refine g_cg ?_ | refine g_ch ?_ | refine g_ci ?_ | refine g_cj ?_ | refine g_ck ?_ | refine g_cl ?_ | refine g_cm ?_ | refine g_cn ?_ | refine g_co ?_ | refine g_cp ?_ | refine g_cq ?_ | refine g_cr ?_ | refine g_cs ?_ | refine g_ct ?_ | refine g_cu ?_ | refine g_cv ?_ | refine g_cw ?_ | refine g_cx ?_ | refine g_cy ?_ | refine g_h ?_ | refine g_cz ?_ | refine g_c0 ?_ | refine g_c1 ?_ | refine g_c2 ?_ | refine g_c3 ?_ | refine g_c4 ?_ | refine g_k (by with_unfolding_all exact rfl) ?_ | refine g_c5 ?_| refine g_c9 ?_ | refine g_de ?_ | refine g_df ?_ | refine g_dg ?_ | refine g_dh ?_ | refine g_di ?_ | refine g_dj ?_ | refine g_dk ?_ | refine g_dl ?_ | refine g_dm ?_ | refine g_dn ?_))
local macro_rules | `(tactic| walk_at "gs") => `(tactic| (with_reducible repeat first | refine g_l ?_ | refine g_m ?_ | refine g_n ?_ | refine g_o ?_ | refine g_p ?_ | refine g_q ?_ | refine g_r ?_ | refine g_s ?_ | refine g_t ?_ | refine g_u ?_ | refine g_v ?_ | refine g_c7 ?_ | refine g_d ?_ | refine g_a ?_ | refine g_w ?_ | refine g_x (by with_unfolding_all exact rfl) ?_ | refine g_y ?_ | refine g_z (by with_unfolding_all exact rfl) ?_ | refine g_aa ?_ | refine g_ab ?_ | refine g_ac ?_ | refine g_ad (by with_unfolding_all exact rfl) ?_ | refine g_ae (by with_unfolding_all exact rfl) ?_ | refine g_af (by with_unfolding_all exact rfl) ?_ | refine g_ag ?_ | refine g_ah ?_ | refine g_ai ?_ | refine g_b (by with_unfolding_all exact rfl) ?_ | refine g_aj ?_ | refine g_ak ?_ | refine g_al ?_ | refine g_am ?_ | refine g_an ?_ | refine g_ao ?_ | refine g_ap ?_ | refine g_aq ?_ | refine g_ar ?_ | refine g_as ?_ | refine g_at ?_ | refine g_au ?_ | refine g_av ?_ | refine g_aw ?_ | refine g_ax ?_ | refine g_ay ?_ | refine g_az (by with_unfolding_all exact rfl) ?_ | refine g_a0 ?_ | refine g_a1 ?_ | refine g_a2 ?_ | refine g_a3 ?_ | refine g_a4 ?_ | refine g_a5 ?_ | refine g_a6 ?_ | refine g_a7 ?_ | refine g_a8 ?_ | refine g_a9 ?_ | refine g_ba ?_ | refine g_bb ?_ | refine g_bc ?_ | refine g_bd ?_ | refine g_e (by with_unfolding_all exact rfl) ?_ | refine g_f (by with_unfolding_all exact rfl) ?_ | refine g_be ?_ | refine g_bg (by with_unfolding_all exact rfl) ?_ | refine g_bf (by with_unfolding_all exact rfl) ?_ | refine g_bh ?_ | refine g_bi ?_ | refine g_bj ?_ | refine g_bk ?_ | refine g_bl ?_ | refine g_bm ?_ | refine g_bn ?_ | refine g_bo ?_ | refine g_bp ?_ | refine g_bq ?_ | refine g_br ?_ | refine g_bs ?_ | refine g_bt ?_ | refine g_bu ?_ | refine g_bv ?_ | refine g_bw ?_ | refine g_bx ?_ | refine g_by ?_ | refine g_bz ?_ | refine g_b0 ?_ | refine g_b1 ?_ | refine g_b2 ?_ | refine g_b3 ?_ | refine g_b4 ?_ | refine g_b5 ?_ | refine g_b6 ?_ | refine g_b7 ?_ | refine g_b8 ?_ | refine g_b9 ?_ | refine g_ca ?_ | refine g_cb ?_ | refine g_cc ?_ | refine g_cd ?_ | refine g_ce ?_ | refine g_i ?_ | refine g_j ?_ | refine g_cf ?_ | refine g_cg ?_ | refine g_ch ?_ | refine g_ci ?_ | refine g_cj ?_ | refine g_ck ?_ | refine g_cl ?_ | refine g_cm ?_ | refine g_cn ?_ | refine g_co ?_ | refine g_cp ?_ | refine g_cq ?_ | refine g_cr ?_ | refine g_cs ?_ | refine g_ct ?_ | refine g_cu ?_ | refine g_cv ?_ | refine g_cw ?_ | refine g_cx ?_ | refine g_cy ?_ | refine g_h ?_ | refine g_cz ?_ | refine g_c0 ?_ | refine g_c1 ?_ | refine g_c2 ?_ | refine g_c3 ?_ | refine g_c4 ?_ | refine g_k (by with_unfolding_all exact rfl) ?_ | refine g_c5 ?_| refine g_c9 ?_ | refine g_de ?_ | refine g_df ?_ | refine g_dg ?_ | refine g_dh ?_ | refine g_di ?_ | refine g_dj ?_ | refine g_dk ?_ | refine g_dl ?_ | refine g_dm ?_ | refine g_dn ?_))
noncomputable def tlC : MoS := (sThen (sSet 8 (fLc (fun ρ => bnd ((fCons (fN (fCons (fVar 1) (fCons (fC (.int 4)) fNil)) F_law_draw) fNil) ρ) fun xs => opt (rg1 xs)) (gN 12) (fun _ => ret true) (fN (fCons (f2 (fVar 3) (f2 (fC (.int 3)) (fVar 12) kAdd) kGet) (fCons (f2 (fVar 3) (f2 (fC (.int 5)) (fVar 12) kAdd) kGet) fNil)) kTup) [12]))
  tlA)
noncomputable def tlD : MoS := (sThen (sSet 7 (fun ρ => mCatch id "InvalidRule" hvA ((fSt 5 0 (fCons (fVar 4) (fCons (fVar 4) (fCons (fLc (iAny (fVar 6)) (gN 13) (fun _ => ret true) (fN (fCons (fVar 13) (fCons (fVar 13) fNil)) kTup) [13]) (fCons (fC (.int 0)) (fCons (fC (.int 1)) fNil))))) fNil (fun xs ys => xs ++ [.non, .non]) F_Rule_init) ρ)))
  (sThen (sIf (fun ρ => bnd (f2 (fun ρ => mCatch id "InvalidRule" hvA ((fN (fCons (fVar 4) (fCons (fVar 6) fNil)) F_law_keyed) ρ)) (fVar 7) (fun x y => nox (kNeO [("Rule", F_Rule_eq)] Oh.tys x y)) ρ) kBl) (sRet (fC (.bl false))) sNx)
  tlC))
theorem tlC_go {Q : Ct (Fl × Vl.Env)} {E : Ex} {S : St2} {n : Nat} {v0 v2 v6 v7 v8 v9 v10 v11 v12 v13 : Option D} {t o : Str} {a0 a1 a2 a3 a4 a5 a6 a7 a8 : Str} (p : Pn n S) (hn : n < 80000) (wd : ∀ {w}, w ∈ [a0, a1, a2, a3, a4, a5, a6, a7, a8] → Wd w) (nd : [a0, a1, a2, a3, a4, a5, a6, a7, a8].Nodup)
    (ht : t.length ≤ 100000) (ho : o.length ≤ 100000)
    (k : ∀ (v3 v7 v8 v9 v10 v11 : Option D) (S' : St2), Pn (n + 4) S' → Q (.nx, [v0, some (.hnd 0), v2, v3, some (.str t), some (.str o), v6, v7, v8, v9, v10, v11, v12, v13]) S') :
    wp (tlC [v0, some (.hnd 0), v2, some (.lst (strs9 a0 a1 a2 a3 a4 a5 a6 a7 a8)), some (.str t), some (.str o), v6, v7, v8, v9, v10, v11, v12, v13]) Q E S := by
  unfold tlC
  walk_at "gs"
  refine g_c6 ?_
  walk_at "gs"
  refine draw_go p (by omega) (by decide) (by decide) ?_
  intro j S6 hj p6
  have hj : j < 4 := hj
  walk_at "gs"
  with_reducible refine g_dv (by omega) (by omega) ?_
  refine g_c8 (by rw [range_len]; show _ ≤ 100000; omega) ?_
  rw [show (((j : Nat) : Int)).toNat = j from rfl]
  refine pairs_go (ws := [a0, a1, a2, a3, a4, a5, a6, a7, a8]) rfl hj rfl rfl ?_
  walk_at "gs"
  refine tlA_go (n := n + 1) (t := t) (o := o) p6 (by omega) wd nd (fun hl hm hw hv => ⟨ht, ho, ?_, ?_, hl, hm, hw, hv⟩) fun v3 v7 v9 v10 v11 S' p' => k v3 v7 _ v9 v10 v11 S' p'
  · rw [List.length_map, List.length_range]
    omega
  · intro q hq
    obtain ⟨i, hi, rfl⟩ := List.mem_map.mp hq
    have hi := List.mem_range.mp hi
    have at_ : ∀ m, m < 9 → Ent (.str ([a0, a1, a2, a3, a4, a5, a6, a7, a8].getD m "")) := fun m hm => by
      refine wd_len (wd ?_)
      rw [List.getD_eq_getElem?_getD, List.getElem?_eq_getElem (by exact hm)]
      exact List.getElem_mem _
    exact ⟨at_ _ (by omega), at_ _ (by omega)⟩
theorem tlD_go {Q : Ct (Fl × Vl.Env)} {E : Ex} {S : St2} {n : Nat} {v0 v2 v7 v8 v9 v10 v11 v12 v13 : Option D} {t o : Str} {cols : List D} {a0 a1 a2 a3 a4 a5 a6 a7 a8 : Str} (p : Pn n S) (hn : n < 80000) (wd : ∀ {w}, w ∈ [a0, a1, a2, a3, a4, a5, a6, a7, a8] → Wd w) (nd : [a0, a1, a2, a3, a4, a5, a6, a7, a8].Nodup)
    (ht : t.length ≤ 100000) (ho : o.length ≤ 100000) (hc1 : cols.length ≤ 3) (hc2 : Smq cols) (hc3 : ∀ c ∈ cols, Ent c)
    (k : ∀ (v3 v7 v8 v9 v10 v11 : Option D) (S' : St2), Pn (n + 4) S' → Q (.nx, [v0, some (.hnd 0), v2, v3, some (.str t), some (.str o), some (.lst cols), v7, v8, v9, v10, v11, v12, v13]) S') :
    wp (tlD [v0, some (.hnd 0), v2, some (.lst (strs9 a0 a1 a2 a3 a4 a5 a6 a7 a8)), some (.str t), some (.str o), some (.lst cols), v7, v8, v9, v10, v11, v12, v13]) Q E S := by
  have A1 : RArgs t t (cols.map dupP) (.int 0) (.int 1) .non .non := ⟨ht, ht, by rw [List.length_map]; omega, fun p hp => by
    obtain ⟨c, hcm, rfl⟩ := List.mem_map.mp hp
    exact ⟨hc3 c hcm, hc3 c hcm⟩, trivial, trivial, trivial, trivial⟩
  unfold tlD
  refine pair_go A1 (Nat.le_of_ble_eq_true rfl) (fun hf => ?_) (fun hf => ?_) ?_
  · refine g_da ?_
    walk_at "go"
    refine g_c8 (by show _ ≤ 100000; omega) ?_
    refine map_fun (fun c => prD (dupP c)) (fun d hd => ⟨_, rfl, ?_⟩) ?_
    · walk_at "go"
      refine g_dq (Nat.le_of_ble_eq_true rfl) ?_
      exact ⟨rfl, rfl⟩
    walk_at "go"
    refine g_db ?_
    walk_at "go"
    refine ⟨rfl, rfl, init_go (w := .non) (v := .non) A1 ?_ hf⟩
    rw [List.map_map]
    exact .l
  · walk_at "go"
    exact keyed_go A1 hc1 hc2 hf
  exact tlC_go p hn wd nd ht ho k
end Lw
set_option Elab.async false
set_option linter.all false
set_option maxRecDepth 100000
set_option maxHeartbeats 4000000
namespace Lw
open PySem PySem.Spec PyProof.Rows L2 Oc Os Vl
local macro_rules | `(tactic| walk_at "go") => `(tactic| (with_reducible repeat first | refine g_c6 ?_ | refine g_l ?_ | refine g_m ?_ | refine g_n ?_ | refine g_o ?_ | refine g_p ?_ | refine g_q ?_ | refine g_r ?_ | refine g_s ?_ | refine g_t ?_ | refine g_u ?_ | refine g_v ?_ | refine g_c7 ?_ | refine g_d ?_ | refine g_a ?_ | refine g_w ?_ | refine g_x (by with_unfolding_all exact rfl) ?_ | refine g_y ?_ | refine g_z (by with_unfolding_all exact rfl) ?_ | refine g_aa ?_ | refine g_ab ?_ | refine g_ac ?_ | refine g_ad (by with_unfolding_all exact rfl) ?_ | refine g_ae (by with_unfolding_all exact rfl) ?_ | refine g_af (by with_unfolding_all exact rfl) ?_ | refine g_ag ?_ | refine g_ah ?_ | refine g_ai ?_ | refine g_b (by with_unfolding_all exact rfl) ?_ | refine g_aj ?_ | refine g_ak ?_ | refine g_al ?_ | refine g_am ?_ | refine g_an ?_ | refine g_ao ?_ | refine g_ap ?_ | refine g_aq ?_ | refine g_ar ?_ | refine g_as ?_ | refine g_at ?_ | refine g_au ?_ | refine g_av ?_ | refine g_aw ?_ | refine g_ax ?_ | refine g_ay ?_ | refine g_az (by with_unfolding_all exact rfl) ?_ | refine g_a0 ?_ | refine g_a1 ?_ | refine g_a2 ?_ | refine g_a3 ?_ | refine g_a4 ?_ | refine g_a5 ?_ | refine g_a6 ?_ | refine g_a7 ?_ | refine g_a8 ?_ | refine g_a9 ?_ | refine g_ba ?_ | refine g_bb ?_ | refine g_bc ?_ | refine g_bd ?_ | refine g_e (by with_unfolding_all exact rfl) ?_ | refine g_f (by with_unfolding_all exact rfl) ?_ | refine g_be ?_ | refine g_bg (by with_unfolding_all exact rfl) ?_ | refine g_bf (by with_unfolding_all exact rfl) ?_ | refine g_bh ?_ | refine g_bi ?_ | refine g_bj ?_ | refine g_bk ?_ | refine g_bl ?_ | refine g_bm ?_ | refine g_bn ?_ | refine g_bo ?_ | refine g_bp ?_ | refine g_bq ?_ | refine g_br ?_ | refine g_bs ?_ | refine g_bt ?_ | refine g_bu ?_ | refine g_bv ?_ | refine g_bw ?_ | refine g_bx ?_ | refine g_by ?_ | refine g_bz ?_ | refine g_b0 ?_ | refine g_b1 ?_ | refine g_b2 ?_ | refine g_b3 ?_ | refine g_b4 ?_ | refine g_b5 ?_ | refine g_b6 ?_ | refine g_b7 ?_ | refine g_b8 ?_ | refine g_b9 ?_ | refine g_ca ?_ | refine g_cb ?_ | refine g_cc ?_ | refine g_cd ?_ | refine g_ce ?_ | refine g_i ?_ | refine g_j ?_ | refine g_cf ?_ | refine g_cg ?_ | refine g_ch ?_ | refine g_ci ?_ | refine g_cj ?_ | refine g_ck ?_ | refine g_cl ?_ | refine g_cm ?_ | refine g_cn ?_ | refine g_co ?_ | refine g_cp ?_ | refine g_cq ?_ | refine g_cr ?_ | refine g_cs ?_ | refine g_ct ?_ | refine g_cu ?_ | refine g_cv ?_ | refine g_cw ?_ | refine g_cx ?_ | refine g_cy ?_ | refine g_h ?_ | refine g_cz ?_ | refine g_c0 ?_ | refine g_c1 ?_ | refine g_c2 ?_ | refine g_c3 ?_ | refine g_c4 ?_ | refine g_k (by with_unfolding_all exact rfl) ?_ | refine g_c5 ?_| refine g_c9 ?_ | refine g_de ?_ | refine g_df ?_ | refine g_dg ?_ | refine g_dh ?_ | refine g_di ?_ | refine g_dj ?_ | refine g_dk ?_ | refine g_dl ?_ | refine g_dm ?_ | refine g_dn ?_))
local macro_rules | `(tactic| walk_at "gs") => `(tactic| (with_reducible repeat first | refine g_l ?_ | refine g_m ?_ | refine g_n ?_ | refine g_o ?_ | refine g_p ?_ | refine g_q ?_ | refine g_r ?_ | refine g_s ?_ | refine g_t ?_ | refine g_u ?_ | refine g_v ?_ | refine g_c7 ?_ | refine g_d ?_ | refine g_a ?_ | refine g_w ?_ | refine g_x (by with_unfolding_all exact rfl) ?_ | refine g_y ?_ | refine g_z (by with_unfolding_all exact rfl) ?_ | refine g_aa ?_ | refine g_ab ?_ | refine g_ac ?_ | refine g_ad (by with_unfolding_all exact rfl) ?_ | refine g_ae (by with_unfolding_all exact rfl) ?_ | refine g_af (by with_unfolding_all exact rfl) ?_ | refine g_ag ?_ | refine g_ah ?_ | refine g_ai ?_ | refine g_b (by with_unfolding_all exact rfl) ?_ | refine g_aj ?_ | refine g_ak ?_ | refine g_al ?_ | refine g_am ?_ | refine g_an ?_ | refine g_ao ?_ | refine g_ap ?_ | refine g_aq ?_ | refine g_ar ?_ | refine g_as ?_ | refine g_at ?_ | refine g_au ?_ | refine g_av ?_ | refine g_aw ?_ | refine g_ax ?_ | refine g_ay ?_ | refine g_az (by with_unfolding_all exact rfl) ?_ | refine g_a0 ?_ | refine g_a1 ?_ | refine g_a2 ?_ | refine g_a3 ?_ | refine g_a4 ?_ | refine g_a5 ?_ | refine g_a6 ?_ | refine g_a7 ?_ | refine g_a8 ?_ | refine g_a9 ?_ | refine g_ba ?_ | refine g_bb ?_ | refine g_bc ?_ | refine g_bd ?_ | refine g_e (by with_unfolding_all exact rfl) ?_ | refine g_f (by with_unfolding_all exact rfl) ?_ | refine g_be ?_ | refine g_bg (by with_unfolding_all exact rfl) ?_ | refine g_bf (by with_unfolding_all exact rfl) ?_ | refine g_bh ?_ | refine g_bi ?_ | refine g_bj ?_ | refine g_bk ?_ | refine g_bl ?_ | refine g_bm ?_ | refine g_bn ?_ | refine g_bo ?_ | refine g_bp ?_ | refine g_bq ?_ | refine g_br ?_ | refine g_bs ?_ | refine g_bt ?_ | refine g_bu ?_ | refine g_bv ?_ | refine g_bw ?_ | refine g_bx ?_ | refine g_by ?_ | refine g_bz ?_ | refine g_b0 ?_ | refine g_b1 ?_ | refine g_b2 ?_ | refine g_b3 ?_ | refine g_b4 ?_ | refine g_b5 ?_ | refine g_b6 ?_ | refine g_b7 ?_ | refine g_b8 ?_ | refine g_b9 ?_ | refine g_ca ?_ | refine g_cb ?_ | refine g_cc ?_ | refine g_cd ?_ | refine g_ce ?_ | refine g_i ?_ | refine g_j ?_ | refine g_cf ?_ | refine g_cg ?_ | refine g_ch ?_ | refine g_ci ?_ | refine g_cj ?_ | refine g_ck ?_ | refine g_cl ?_ | refine g_cm ?_ | refine g_cn ?_ | refine g_co ?_ | refine g_cp ?_ | refine g_cq ?_ | refine g_cr ?_ | refine g_cs ?_ | refine g_ct ?_ | refine g_cu ?_ | refine g_cv ?_ | refine g_cw ?_ | refine g_cx ?_ | refine g_cy ?_ | refine g_h ?_ | refine g_cz ?_ | refine g_c0 ?_ | refine g_c1 ?_ | refine g_c2 ?_ | refine g_c3 ?_ | refine g_c4 ?_ | refine g_k (by with_unfolding_all exact rfl) ?_ | refine g_c5 ?_| refine g_c9 ?_ | refine g_de ?_ | refine g_df ?_ | refine g_dg ?_ | refine g_dh ?_ | refine g_di ?_ | refine g_dj ?_ | refine g_dk ?_ | refine g_dl ?_ | refine g_dm ?_ | refine g_dn ?_))
def sv10 (v0 v2 v3 v4 v5 v6 v7 v8 v9 v10 v11 v12 v13 : Option D) : Vl.Env := [v0, some (.hnd 0), v2, v3, v4, v5, v6, v7, v8, v9, v10, v11, v12, v13]
theorem law_says (ns : List Int) (h : ns.length ≤ 63) : LawSays m_law 14 (none, ()) ns := by
  unfold LawSays m_law
  walk_at "go"
  refine law_pen_go h ?_
  intro S0 p0
  walk_at "go"
  with_reducible refine g_dv (by decide) (by decide) ?_
  walk_at "go"
  refine for_go (fun i ρ S' => Pn (1000 * i) S' ∧ ∃ v0 v2 v3 v4 v5 v6 v7 v8 v9 v10 v11 v12 v13, ρ = sv10 v0 v2 v3 v4 v5 v6 v7 v8 v9 v10 v11 v12 v13) _ 0 _ _ ⟨p0, _, _, _, _, _, _, _, _, _, _, _, _, _, rfl⟩ ?_ ?_
  · rintro i x ρ S1 hx ⟨p1, v0, v2, v3, v4, v5, v6, v7, v8, v9, v10, v11, v12, v13, rfl⟩
    have hi : i < 15 := by
      have := (List.getElem?_eq_some_iff.mp hx).1
      rw [range_len] at this
      exact this
    refine ⟨_, rfl, ?_⟩
    unfold sv10
    walk_at "go"
    refine words_go p1 (by omega) (by decide) ?_
    intro ws S2 hl hw hn p2
    obtain ⟨a0, a1, a2, a3, a4, a5, a6, a7, a8, rfl⟩ := nine hl
    have wd : ∀ {w}, w ∈ [a0, a1, a2, a3, a4, a5, a6, a7, a8] → Wd w := fun {w} hm => hw w hm
    have ew : [a0, a1, a2, a3, a4, a5, a6, a7, a8].map D.str = [.str a0, .str a1, .str a2, .str a3, .str a4, .str a5, .str a6, .str a7, .str a8] := rfl
    rw [ew]
    exact by
      walk_at "go"
      refine g_g (d := .str a0) rfl ?_
      walk_at "go"
      refine g_g (d := .str a0) rfl ?_
      walk_at "go"
      refine g_dc (Nat.le_of_ble_eq_true rfl) ?_
      walk_at "go"
      refine pick_go p2 (by omega) (xs := [.str a0, .str a0, .str "A"]) rfl (Nat.le_of_ble_eq_true rfl) (show (3 : Nat) < 1073741824 by decide) ?_
      intro j d S3 hd p3
      obtain ⟨t, rfl, ht⟩ := str_pick (ss := [a0, a0, "A"]) hd (fun s hs => by
        rcases List.mem_cons.mp hs with rfl | hs
        · exact wd_len (wd (by simp))
        rcases List.mem_cons.mp hs with rfl | hs
        · exact wd_len (wd (by simp))
        rw [List.mem_singleton.mp hs]
        decide +kernel)
      exact by
        walk_at "go"
        refine g_g (d := .str a0) rfl ?_
        walk_at "go"
        refine g_g (d := .str a1) rfl ?_
        walk_at "go"
        refine g_g (d := .str a2) rfl ?_
        walk_at "go"
        refine g_dc (Nat.le_of_ble_eq_true rfl) ?_
        walk_at "go"
        refine pick_go p3 (by omega) (xs := [.str a0, .str a1, .str a2, .str ""]) rfl (Nat.le_of_ble_eq_true rfl) (show (4 : Nat) < 1073741824 by decide) ?_
        intro j2 d2 S4 hd2 p4
        obtain ⟨o, rfl, ho⟩ := str_pick (ss := [a0, a1, a2, ""]) hd2 (fun s hs => by
          rcases List.mem_cons.mp hs with rfl | hs
          · exact wd_len (wd (by simp))
          rcases List.mem_cons.mp hs with rfl | hs
          · exact wd_len (wd (by simp))
          rcases List.mem_cons.mp hs with rfl | hs
          · exact wd_len (wd (by simp))
          rw [List.mem_singleton.mp hs]
          decide +kernel)
        exact by
          walk_at "go"
          refine g_dq (Nat.le_of_ble_eq_true rfl) ?_
          walk_at "go"
          clear hd hd2
          exact by
            walk_at "go"
            refine g_dc (Nat.le_of_ble_eq_true rfl) ?_
            walk_at "go"
            refine g_g (d := .str a3) rfl ?_
            walk_at "go"
            refine g_e9 (Nat.le_of_ble_eq_true rfl) (by decide) (by decide) ?_
            walk_at "go"
            refine g_dc (Nat.le_of_ble_eq_true rfl) ?_
            walk_at "go"
            refine g_dc (Nat.le_of_ble_eq_true rfl) ?_
            walk_at "go"
            refine pick_go p4 (by omega) (xs := [.lst [.str a3], .lst [.str a3, .str a4], .lst [], .lst [.str a3, .str a4, .str a5], .lst [.str a3, .str a3], .lst [.int 1]]) rfl (Nat.le_of_ble_eq_true rfl) (show (6 : Nat) < 1073741824 by decide) ?_
            intro j3 d3 S5 hd3 p5
            have hc : Cols d3 := cols_pick wd hd3
            obtain ⟨cols, rfl, hc1, hc2, hc3⟩ := hc
            clear hd3
            exact by
              walk_at "gs"
              refine tlD_go (n := 1000 * (0 + i) + 8 + 1 + 1 + 1) (t := t) (o := o) p5 (by omega) wd hn ht ho hc1 hc2 hc3 ?_
              intro v3' v7' v8' v9' v10' v11' S7 p7
              exact ⟨p7.mono (by omega), _, _, _, _, _, _, _, _, _, _, _, _, _, rfl⟩
  · rintro ρ S1 ⟨p, v0, v2, v3, v4, v5, v6, v7, v8, v9, v10, v11, v12, v13, rfl⟩
    unfold sv10
    walk_at "go"
    exact trivial
end Lw
set_option Elab.async false
set_option linter.all false
set_option maxRecDepth 100000
set_option maxHeartbeats 4000000
namespace Ow
open PySem PySem.Spec PyProof.Rows L2 Oc Os Vl Lw
section
variable {P : Program} {w : World} {K : PySem.W.Frag} {mg : Str → Option Value} {base : Heap}
theorem sc_is_integer : FnScope ["value"] ["value"] (defScope s_is_integer) := ⟨rfl, rfl, rfl, by decide +kernel, rfl, by decide +kernel, by decide +kernel⟩
theorem c_is_integer (T : Tx K mg) : VCal P w K mg base 1 "is_integer" ["value"] F_is_integer := by
  obtain ⟨fd, F⟩ := D_is_integer T
  refine VCal.mk_of (d := d_is_integer) F (fn_v (O' := []) F sc_is_integer fun cdv A outer s H E hr => ?_) (F.bindsN fun _ _ _ _ _ _ us hl => match us, hl with | [_], _ => rfl) (g_is_integer T)
  have sc := sc_is_integer
  have fE := flat_of E
  have hu := hu_of hr
  have hu64 := hr.units
  exact (vb_one (vs_ret fE (ve_and (ve_isi rfl (by rfl) (f_isinstance T) (by decide +kernel) (by rfl) (f_int T) (by decide +kernel) (vq_val (ve_var (by decide) (pv 0)))) (ve_one (ve_not (vq_val (ve_isi rfl (by rfl) (f_isinstance T) (by decide +kernel) (by rfl) (f_bool T) (by decide +kernel) (vq_val (ve_var (by decide) (pv 0))))))))))
theorem sc_is_list : FnScope ["value"] ["value"] (defScope s_is_list) := ⟨rfl, rfl, rfl, by decide +kernel, rfl, by decide +kernel, by decide +kernel⟩
theorem c_is_list (T : Tx K mg) : VCal P w K mg base 1 "is_list" ["value"] F_is_list := by
  obtain ⟨fd, F⟩ := D_is_list T
  refine VCal.mk_of (d := d_is_list) F (fn_v (O' := []) F sc_is_list fun cdv A outer s H E hr => ?_) (F.bindsN fun _ _ _ _ _ _ us hl => match us, hl with | [_], _ => rfl) (g_is_list T)
  have sc := sc_is_list
  have fE := flat_of E
  have hu := hu_of hr
  have hu64 := hr.units
  exact (vb_one (vs_ret fE (ve_isiT rfl (by rfl) (f_isinstance T) (by decide +kernel) (tys_cons (by rfl) (f_list T) (by decide +kernel) (tys_cons (by rfl) (f_tuple T) (by decide +kernel) tys_nil)) (by decide) (vq_val (ve_var (by decide) (pv 0))))))
theorem sc_is_word : FnScope ["value"] ["value"] (defScope s_is_word) := ⟨rfl, rfl, rfl, by decide +kernel, rfl, by decide +kernel, by decide +kernel⟩
theorem c_is_word (T : Tx K mg) : VCal P w K mg base 1 "is_word" ["value"] F_is_word := by
  obtain ⟨fd, F⟩ := D_is_word T
  refine VCal.mk_of (d := d_is_word) F (fn_v (O' := []) F sc_is_word fun cdv A outer s H E hr => ?_) (F.bindsN fun _ _ _ _ _ _ us hl => match us, hl with | [_], _ => rfl) (g_is_word T)
  have sc := sc_is_word
  have fE := flat_of E
  have hu := hu_of hr
  have hu64 := hr.units
  exact (vb_cons (vs_if fE (VW.vt (vw_or (vt_not (vt_tru (vq_val (ve_isi rfl (by rfl) (f_isinstance T) (by decide +kernel) (by rfl) (f_str T) (by decide +kernel) (vq_val (ve_var (by decide) (pv 0))))))) (vw_or1 (vt_not (vt_chain op_le op_le by_le by_le (vq_val ve_int) (vq_val (ve_callB call_len by_len (by rfl) (f_len T) (by decide +kernel) (vaq_cons (vq_val (ve_var (by decide) (pv 0))) vaq_nil))) (vq_val (ve_gi (i_MAX_WORD T)))))))) (vb_one (vs_ret fE ve_bl)) vb_nil)
      (vb_one (vs_ret fE (ve_cmp (op_eqT) by_eqT (vq_val (ve_stripC (ve_var (by decide) (pv 0)) (ve_gs (t_LETTERS T)))) (vq_val ve_str) (nomark _)))))
theorem sc_are_different : FnScope ["words"] ["words"] (defScope s_are_different) := ⟨rfl, rfl, rfl, by decide +kernel, rfl, by decide +kernel, by decide +kernel⟩
theorem c_are_different (T : Tx K mg) : VCal P w K mg base 1 "are_different" ["words"] F_are_different := by
  obtain ⟨fd, F⟩ := D_are_different T
  refine VCal.mk_of (d := d_are_different) F (fn_v (O' := []) F sc_are_different fun cdv A outer s H E hr => ?_) (F.bindsN fun _ _ _ _ _ _ us hl => match us, hl with | [_], _ => rfl) (g_are_different T)
  have sc := sc_are_different
  have fE := flat_of E
  have hu := hu_of hr
  have hu64 := hr.units
  exact (vb_one (vs_ret fE (ve_cmp (op_eqD hu64) by_eq (vq_val (ve_diff rfl (by rfl) (f_len T) (by rfl) (f_set T) (vq_val (ve_var (by decide) (pv 0))))) (vq_val (ve_callB call_len by_len (by rfl) (f_len T) (by decide +kernel) (vaq_cons (vq_val (ve_var (by decide) (pv 0))) vaq_nil))) (nomark _))))
theorem sc_check_argument : FnScope ["is_right", "argument"] ["is_right", "argument"] (defScope s_check_argument) := ⟨rfl, rfl, rfl, by decide +kernel, rfl, by decide +kernel, by decide +kernel⟩
theorem c_check_argument (T : Tx K mg) : VCal P w K mg base 3 "check_argument" ["is_right", "argument"] F_check_argument := by
  obtain ⟨fd, F⟩ := D_check_argument T
  refine VCal.mk_of (d := d_check_argument) F (fn_v (O' := []) F sc_check_argument fun cdv A outer s H E hr => ?_) (F.bindsN fun _ _ _ _ _ _ us hl => match us, hl with | [_, _], _ => rfl) (g_check_argument T)
  have sc := sc_check_argument
  have fE := flat_of E
  have hu := hu_of hr
  have hu64 := hr.units
  exact (vb_one (vs_if fE (vt_not (vt_tru (vq_val (ve_var (by decide) (pv 0))))) (vb_one (vs_raise1 rfl tk_of fE (e_InvalidRule T) (x_InvalidRule T).ty (hr.mono (by decide)) (ve_var (by decide) (pv 1)))) vb_nil))
theorem sc_is_pair : FnScope ["value"] ["value"] (defScope s_is_pair) := ⟨rfl, rfl, rfl, by decide +kernel, rfl, by decide +kernel, by decide +kernel⟩
theorem c_is_pair (T : Tx K mg) : VCal P w K mg base 2 "is_pair" ["value"] F_is_pair := by
  obtain ⟨fd, F⟩ := D_is_pair T
  refine VCal.mk_of (d := d_is_pair) F (fn_v (O' := []) F sc_is_pair fun cdv A outer s H E hr => ?_) (F.bindsN fun _ _ _ _ _ _ us hl => match us, hl with | [_], _ => rfl) (g_is_pair T)
  have sc := sc_is_pair
  have fE := flat_of E
  have hu := hu_of hr
  have hu64 := hr.units
  exact (vb_cons (vs_if fE (VW.vt (vw_or (vt_not (vt_tru (vq_val (ve_isi rfl (by rfl) (f_isinstance T) (by decide +kernel) (by rfl) (f_tuple T) (by decide +kernel) (vq_val (ve_var (by decide) (pv 0))))))) (vw_or1 (vt_cmp (op_neD hu64) by_ne (vq_val (ve_callB call_len by_len (by rfl) (f_len T) (by decide +kernel) (vaq_cons (vq_val (ve_var (by decide) (pv 0))) vaq_nil))) (vq_val ve_int) (nomark _))))) (vb_one (vs_ret fE ve_bl)) vb_nil)
      (vb_one (vs_ret fE (ve_and (ve_call (c_is_word T) (hr.mono (by decide)) tk_of (va_cons (ve_get hu (vq_val (ve_var (by decide) (pv 0))) (vq_val ve_int)) va_nil)) (ve_one (ve_call (c_is_word T) (hr.mono (by decide)) tk_of (va_cons (ve_get hu (vq_val (ve_var (by decide) (pv 0))) (vq_val ve_int)) va_nil)))))))
theorem sc_firsts_of : FnScope ["pairs", "first", "_"] ["pairs"] (defScope s_firsts_of) := ⟨rfl, rfl, rfl, by decide +kernel, rfl, by decide +kernel, by decide +kernel⟩
theorem c_firsts_of (T : Tx K mg) : VCal P w K mg base 1 "firsts_of" ["pairs"] F_firsts_of := by
  obtain ⟨fd, F⟩ := D_firsts_of T
  refine VCal.mk_of (d := d_firsts_of) F (fn_v (O' := []) F sc_firsts_of fun cdv A outer s H E hr => ?_) (F.bindsN fun _ _ _ _ _ _ us hl => match us, hl with | [_], _ => rfl) (g_firsts_of T)
  have sc := sc_firsts_of
  have fE := flat_of E
  have hu := hu_of hr
  have hu64 := hr.units
  exact (vb_one (vs_ret fE (ve_lc (own := [("first", 1), ("_", 2)]) rfl sc.nd (vi_any (ve_var (by decide) (pv 0))) (blkOk_by (own := [("first", 1), ("_", 2)]) (N := ["pairs", "first", "_"]) (sc := defScope s_firsts_of) (by decide +kernel)) (fun _ _ _ _ _ => (vg_tup (n := 2) rfl (vgs_cons (vg_name (by decide) (pg_name (i := 1) sc.nd rfl (Or.inl rfl))) (vgs_cons (vg_name (by decide) (pg_name (i := 2) sc.nd rfl (Or.inl rfl))) vgs_nil)))) (fun _ _ _ _ _ => vts_nil) (fun _ _ _ _ _ => (ve_var (by decide) (pv 1))))))
theorem sc_seconds_of : FnScope ["pairs", "_", "second"] ["pairs"] (defScope s_seconds_of) := ⟨rfl, rfl, rfl, by decide +kernel, rfl, by decide +kernel, by decide +kernel⟩
theorem c_seconds_of (T : Tx K mg) : VCal P w K mg base 1 "seconds_of" ["pairs"] F_seconds_of := by
  obtain ⟨fd, F⟩ := D_seconds_of T
  refine VCal.mk_of (d := d_seconds_of) F (fn_v (O' := []) F sc_seconds_of fun cdv A outer s H E hr => ?_) (F.bindsN fun _ _ _ _ _ _ us hl => match us, hl with | [_], _ => rfl) (g_seconds_of T)
  have sc := sc_seconds_of
  have fE := flat_of E
  have hu := hu_of hr
  have hu64 := hr.units
  exact (vb_one (vs_ret fE (ve_lc (own := [("_", 1), ("second", 2)]) rfl sc.nd (vi_any (ve_var (by decide) (pv 0))) (blkOk_by (own := [("_", 1), ("second", 2)]) (N := ["pairs", "_", "second"]) (sc := defScope s_seconds_of) (by decide +kernel)) (fun _ _ _ _ _ => (vg_tup (n := 2) rfl (vgs_cons (vg_name (by decide) (pg_name (i := 1) sc.nd rfl (Or.inl rfl))) (vgs_cons (vg_name (by decide) (pg_name (i := 2) sc.nd rfl (Or.inl rfl))) vgs_nil)))) (fun _ _ _ _ _ => vts_nil) (fun _ _ _ _ _ => (ve_var (by decide) (pv 2))))))
theorem sc_is_least : FnScope ["value"] ["value"] (defScope s_is_least) := ⟨rfl, rfl, rfl, by decide +kernel, rfl, by decide +kernel, by decide +kernel⟩
theorem c_is_least (T : Tx K mg) : VCal P w K mg base 2 "is_least" ["value"] F_is_least := by
  obtain ⟨fd, F⟩ := D_is_least T
  refine VCal.mk_of (d := d_is_least) F (fn_v (O' := []) F sc_is_least fun cdv A outer s H E hr => ?_) (F.bindsN fun _ _ _ _ _ _ us hl => match us, hl with | [_], _ => rfl) (g_is_least T)
  have sc := sc_is_least
  have fE := flat_of E
  have hu := hu_of hr
  have hu64 := hr.units
  exact (vb_one (vs_ret fE (ve_and (ve_call (c_is_integer T) (hr.mono (by decide)) tk_of (va_cons (ve_var (by decide) (pv 0)) va_nil)) (ve_one (ve_chain op_le op_le by_le by_le (vq_val ve_int) (vq_val (ve_var (by decide) (pv 0))) (vq_val (ve_gi (i_MAX_LEAST T))))))))
theorem sc_is_most : FnScope ["value", "least"] ["value", "least"] (defScope s_is_most) := ⟨rfl, rfl, rfl, by decide +kernel, rfl, by decide +kernel, by decide +kernel⟩
theorem c_is_most (T : Tx K mg) : VCal P w K mg base 2 "is_most" ["value", "least"] F_is_most := by
  obtain ⟨fd, F⟩ := D_is_most T
  refine VCal.mk_of (d := d_is_most) F (fn_v (O' := []) F sc_is_most fun cdv A outer s H E hr => ?_) (F.bindsN fun _ _ _ _ _ _ us hl => match us, hl with | [_, _], _ => rfl) (g_is_most T)
  have sc := sc_is_most
  have fE := flat_of E
  have hu := hu_of hr
  have hu64 := hr.units
  exact (vb_cons (vs_if fE (vt_cmp op_isN1 by_isN (vq_val (ve_var (by decide) (pv 0))) (vq_val ve_non) (nomark _)) (vb_one (vs_ret fE (ve_cmp op_gt by_gt (vq_val (ve_var (by decide) (pv 1))) (vq_val ve_int) (nomark _)))) vb_nil)
      (vb_one (vs_ret fE (ve_and (ve_call (c_is_integer T) (hr.mono (by decide)) tk_of (va_cons (ve_var (by decide) (pv 0)) va_nil)) (ve_one (ve_chain op_le op_le by_le by_le (vq_val (ve_var (by decide) (pv 1))) (vq_val (ve_var (by decide) (pv 0))) (vq_val (ve_gi (i_MAX_MOST T)))))))))
theorem sc_kept_where : FnScope ["where", "column"] ["where"] (defScope s_kept_where) := ⟨rfl, rfl, rfl, by decide +kernel, rfl, by decide +kernel, by decide +kernel⟩
theorem c_kept_where (T : Tx K mg) : VCal P w K mg base 1 "kept_where" ["where"] F_kept_where := by
  obtain ⟨fd, F⟩ := D_kept_where T
  refine VCal.mk_of (d := d_kept_where) F (fn_v (O' := []) F sc_kept_where fun cdv A outer s H E hr => ?_) (F.bindsN fun _ _ _ _ _ _ us hl => match us, hl with | [_], _ => rfl) (g_kept_where T)
  have sc := sc_kept_where
  have fE := flat_of E
  have hu := hu_of hr
  have hu64 := hr.units
  exact (vb_cons (vs_if fE (vt_cmp op_isN1 by_isN (vq_val (ve_var (by decide) (pv 0))) (vq_val ve_non) (nomark _)) (vb_one (vs_ret fE ve_dnew)) vb_nil)
      (vb_one (vs_ret fE (ve_dc (own := [("column", 1)]) rfl sc.nd (vi_any (ve_callB (call_sortedD rfl) by_sortK (by rfl) (f_sorted T) (by decide +kernel) (vaq_cons (vq_val (ve_var (by decide) (pv 0))) vaq_nil))) (blkOk_by (own := [("column", 1)]) (N := ["where", "column"]) (sc := defScope s_kept_where) (by decide +kernel)) (fun _ _ _ _ _ => (vg_name (by decide) (pg_name (i := 1) sc.nd rfl (Or.inl rfl)))) (fun _ _ _ _ _ => vts_nil) (fun _ _ _ _ _ => (ve_var (by decide) (pv 1))) (fun _ _ _ _ _ => (ve_callTy call_tuple_of by_tuple (by rfl) (f_tuple T) (by decide +kernel) (vaq_cons (vq_val (ve_callB (call_sortD (by exact hu_sort hr)) by_sort (by rfl) (f_sorted T) (by decide +kernel) (vaq_cons (vq_val (ve_get hu (vq_val (ve_var (by decide) (pv 0))) (vq_val (ve_var (by decide) (pv 1))))) vaq_nil))) vaq_nil)))))))
theorem sc_Rule_told : FnScope ["self"] ["self"] (defScope s_Rule_told) := ⟨rfl, rfl, rfl, by decide +kernel, rfl, by decide +kernel, by decide +kernel⟩
theorem w_Rule_told (T : Tx K mg) {fd : FuncData} (F : FunD K d_Rule_told.name d_Rule_told.qual d_Rule_told.params d_Rule_told.body d_Rule_told.scope [] [] (He.ma K (He.ga K "Rule") "_told") fd) : FnOk P w K mg base (L2.CX P w) 1 (He.ma K (He.ga K "Rule") "_told") fd ["self"] (spF K F_Rule_told) := by
  refine fn_v (O' := []) F sc_Rule_told fun cdv A outer s H E hr => ?_
  have sc := sc_Rule_told
  have fE := flat_of E
  have hu := hu_of hr
  have hu64 := hr.units
  exact (vb_one (vs_ret fE (ve_tup (va_cons (ve_attr (t := (("Rule", AtK.fld) :: [])) ⟨⟨cls_Rule T, no_Rule_table T⟩, trivial⟩ (ve_var (by decide) (pv 0))) (va_cons (ve_attr (t := (("Rule", AtK.fld) :: [])) ⟨⟨cls_Rule T, no_Rule_other T⟩, trivial⟩ (ve_var (by decide) (pv 0))) (va_cons (ve_attr (t := (("Rule", AtK.fld) :: [])) ⟨⟨cls_Rule T, no_Rule_pairs T⟩, trivial⟩ (ve_var (by decide) (pv 0))) (va_cons (ve_attr (t := (("Rule", AtK.fld) :: [])) ⟨⟨cls_Rule T, no_Rule_least T⟩, trivial⟩ (ve_var (by decide) (pv 0))) (va_cons (ve_attr (t := (("Rule", AtK.fld) :: [])) ⟨⟨cls_Rule T, no_Rule_most T⟩, trivial⟩ (ve_var (by decide) (pv 0))) (va_cons (ve_attr (t := (("Rule", AtK.fld) :: [])) ⟨⟨cls_Rule T, no_Rule_where T⟩, trivial⟩ (ve_var (by decide) (pv 0))) (va_cons (ve_attr (t := (("Rule", AtK.fld) :: [])) ⟨⟨cls_Rule T, no_Rule_other_where T⟩, trivial⟩ (ve_var (by decide) (pv 0))) va_nil))))))))))
theorem v_Rule_told (T : Tx K mg) : VFn P w K mg base 1 (He.ma K (He.ga K "Rule") "_told") F_Rule_told := by
  obtain ⟨fd, F⟩ := D_Rule_told T
  exact ⟨fd, ["self"], w_Rule_told T F, (F.bindsN fun _ _ _ _ _ _ us hl => match us, hl with | [_], _ => rfl)⟩
theorem sc_law_pen : FnScope ["_law_script"] ["_law_script"] (defScope s_law_pen) := ⟨rfl, rfl, rfl, by decide +kernel, rfl, by decide +kernel, by decide +kernel⟩
theorem c_law_pen (T : Tx K mg) : VCal P w K mg base 1 "_law_pen" ["_law_script"] F_law_pen := by
  obtain ⟨fd, F⟩ := D_law_pen T
  refine VCal.mk_of (d := d_law_pen) F (fn_v (O' := []) F sc_law_pen fun cdv A outer s H E hr => ?_) (F.bindsN fun _ _ _ _ _ _ us hl => match us, hl with | [_], _ => rfl) (g_law_pen T)
  have sc := sc_law_pen
  have fE := flat_of E
  have hu := hu_of hr
  have hu64 := hr.units
  exact (vb_one (vs_ret fE (ve_pen (vps_cons ve_str (ve_callTy call_list_of by_list (by rfl) (f_list T) (by decide +kernel) (vaq_cons (vq_val (ve_sl (vq_val (ve_var (by decide) (pv 0))) vo_none (vo_some (vq_val ve_int)))) vaq_nil)) (vps_cons ve_str ve_int (vps_cons ve_str ve_int vps_nil))))))
theorem sc_law_draw : FnScope ["_law_pen_here", "_law_span", "_law_digit", "_law_turn", "_law_cell", "_law_primes", "_law_prime", "_law_drawn"] ["_law_pen_here", "_law_span"] (defScope s_law_draw) := ⟨rfl, rfl, rfl, by decide +kernel, rfl, by decide +kernel, by decide +kernel⟩
theorem c_law_draw (T : Tx K mg) : VCal P w K mg base 1 "_law_draw" ["_law_pen_here", "_law_span"] F_law_draw := by
  obtain ⟨fd, F⟩ := D_law_draw T
  refine VCal.mk_of (d := d_law_draw) F (fn_v (O' := []) F sc_law_draw fun cdv A outer s H E hr => ?_) (F.bindsN fun _ _ _ _ _ _ us hl => match us, hl with | [_, _], _ => rfl) (g_law_draw T)
  have sc := sc_law_draw
  have fE := flat_of E
  have hu := hu_of hr
  have hu64 := hr.units
  exact (vb_cons (vs_if fE (vt_cmp op_gt by_gt (vq_val (ve_get hu (vq_val (ve_var (by decide) (pv 0))) (vq_val ve_str))) (vq_val ve_int) (nomark _)) (vb_cons (vs_set (i := 2) fE (by decide) (ve_mod (vq_val (ve_callTy call_int1 by_int1 (by rfl) (f_int T) (by decide +kernel) (vaq_cons (vq_val (ve_get hu (vq_val (ve_var (by decide) (pv 0))) (vq_val ve_str))) vaq_nil))) (vq_val (ve_var (by decide) (pv 1)))) fun t h => ps_set (i := 2) sc.nd rfl (Or.inl rfl) h)
      (vb_cons (vs_pput fE hu (ve_var (by decide) (pv 0)) ve_str (ve_div (vq_val (ve_get hu (vq_val (ve_var (by decide) (pv 0))) (vq_val ve_str))) (vq_val (ve_var (by decide) (pv 1)))))
      (vb_one (vs_ret fE (ve_var (by decide) (pv 2)))))) vb_nil)
      (vb_cons (vs_set (i := 3) fE (by decide) (ve_get hu (vq_val (ve_var (by decide) (pv 0))) (vq_val ve_str)) fun t h => ps_set (i := 3) sc.nd rfl (Or.inl rfl) h)
      (vb_cons (vs_pput fE hu (ve_var (by decide) (pv 0)) ve_str (ve_add (vq_val (ve_var (by decide) (pv 3))) (vq_val ve_int)))
      (vb_cons (vs_set (i := 4) fE (by decide) (ve_add (vq_val (ve_mulS (vq_val ve_int) (vq_val (ve_var (by decide) (pv 3))))) (vq_val ve_int)) fun t h => ps_set (i := 4) sc.nd rfl (Or.inl rfl) h)
      (vb_cons (vs_if fE (vt_cmp (op_neD hu64) by_ne (vq_val (ve_get hu (vq_val (ve_var (by decide) (pv 0))) (vq_val ve_str))) (vq_val (ve_lst va_nil)) (nomark _)) (vb_one (vs_set (i := 4) fE (by decide) (ve_get hu (vq_val (ve_get hu (vq_val (ve_var (by decide) (pv 0))) (vq_val ve_str))) (vq_val (ve_mod (vq_val (ve_callTy call_int1 by_int1 (by rfl) (f_int T) (by decide +kernel) (vaq_cons (vq_val (ve_var (by decide) (pv 3))) vaq_nil))) (vq_val (ve_callB call_len by_len (by rfl) (f_len T) (by decide +kernel) (vaq_cons (vq_val (ve_get hu (vq_val (ve_var (by decide) (pv 0))) (vq_val ve_str))) vaq_nil)))))) fun t h => ps_set (i := 4) sc.nd rfl (Or.inl rfl) h)) vb_nil)
      (vb_cons (vs_if fE (VW.vt (vw_and (vt_cmp op_lt by_lt (vq_val (ve_var (by decide) (pv 3))) (vq_val (ve_callB call_len by_len (by rfl) (f_len T) (by decide +kernel) (vaq_cons (vq_val (ve_get hu (vq_val (ve_var (by decide) (pv 0))) (vq_val ve_str))) vaq_nil))) (nomark _)) (vw_and1 (vt_cmp op_ge by_ge (vq_val (ve_callB call_abs by_abs (by rfl) (f_abs T) (by decide +kernel) (vaq_cons (vq_val (ve_var (by decide) (pv 4))) vaq_nil))) (vq_val (ve_pow (vq_val ve_int) (vq_val ve_int))) (nomark _))))) (vb_cons (vs_pput fE hu (ve_var (by decide) (pv 0)) ve_str (ve_div (vq_val (ve_sub (vq_val (ve_callB call_abs by_abs (by rfl) (f_abs T) (by decide +kernel) (vaq_cons (vq_val (ve_var (by decide) (pv 4))) vaq_nil))) (vq_val (ve_pow (vq_val ve_int) (vq_val ve_int))))) (vq_val (ve_var (by decide) (pv 1)))))
      (vb_one (vs_ret fE (ve_mod (vq_val (ve_callTy call_int1 by_int1 (by rfl) (f_int T) (by decide +kernel) (vaq_cons (vq_val (ve_sub (vq_val (ve_callB call_abs by_abs (by rfl) (f_abs T) (by decide +kernel) (vaq_cons (vq_val (ve_var (by decide) (pv 4))) vaq_nil))) (vq_val (ve_pow (vq_val ve_int) (vq_val ve_int))))) vaq_nil))) (vq_val (ve_var (by decide) (pv 1))))))) vb_nil)
      (vb_cons (vs_set (i := 5) fE (by decide) (ve_lst (va_cons ve_int (va_cons ve_int (va_cons ve_int (va_cons ve_int (va_cons ve_int va_nil)))))) fun t h => ps_set (i := 5) sc.nd rfl (Or.inl rfl) h)
      (vb_cons (vs_set (i := 6) fE (by decide) (ve_get hu (vq_val (ve_var (by decide) (pv 5))) (vq_val (ve_mod (vq_val (ve_callTy call_int1 by_int1 (by rfl) (f_int T) (by decide +kernel) (vaq_cons (vq_val (ve_var (by decide) (pv 3))) vaq_nil))) (vq_val ve_int)))) fun t h => ps_set (i := 6) sc.nd rfl (Or.inl rfl) h)
      (vb_cons (vs_set (i := 7) fE (by decide) (ve_mod (vq_val (ve_callTy call_int1 by_int1 (by rfl) (f_int T) (by decide +kernel) (vaq_cons (vq_val (ve_add (vq_val (ve_add (vq_val (ve_mulS (vq_val (ve_mod (vq_val (ve_callTy call_int1 by_int1 (by rfl) (f_int T) (by decide +kernel) (vaq_cons (vq_val (ve_var (by decide) (pv 4))) vaq_nil))) (vq_val (ve_var (by decide) (pv 6))))) (vq_val ve_int))) (vq_val (ve_mulS (vq_val (ve_var (by decide) (pv 3))) (vq_val (ve_add (vq_val (ve_mulS (vq_val ve_int) (vq_val (ve_var (by decide) (pv 3))))) (vq_val ve_int))))))) (vq_val ve_int))) vaq_nil))) (vq_val (ve_var (by decide) (pv 6)))) fun t h => ps_set (i := 7) sc.nd rfl (Or.inl rfl) h)
      (vb_cons (vs_set (i := 7) fE (by decide) (ve_mod (vq_val (ve_callTy call_int1 by_int1 (by rfl) (f_int T) (by decide +kernel) (vaq_cons (vq_val (ve_mulS (vq_val (ve_var (by decide) (pv 7))) (vq_val (ve_add (vq_val (ve_var (by decide) (pv 7))) (vq_val ve_int))))) vaq_nil))) (vq_val (ve_get hu (vq_val (ve_var (by decide) (pv 5))) (vq_val (ve_mod (vq_val (ve_callTy call_int1 by_int1 (by rfl) (f_int T) (by decide +kernel) (vaq_cons (vq_val (ve_add (vq_val (ve_var (by decide) (pv 3))) (vq_val ve_int))) vaq_nil))) (vq_val ve_int)))))) fun t h => ps_set (i := 7) sc.nd rfl (Or.inl rfl) h)
      (vb_one (vs_ret fE (ve_mod (vq_val (ve_callTy call_int1 by_int1 (by rfl) (f_int T) (by decide +kernel) (vaq_cons (vq_val (ve_div (vq_val (ve_mod (vq_val (ve_callTy call_int1 by_int1 (by rfl) (f_int T) (by decide +kernel) (vaq_cons (vq_val (ve_add (vq_val (ve_add (vq_val (ve_mulS (vq_val (ve_var (by decide) (pv 7))) (vq_val (ve_var (by decide) (pv 7))))) (vq_val (ve_mulS (vq_val ve_int) (vq_val (ve_var (by decide) (pv 7))))))) (vq_val (ve_var (by decide) (pv 3))))) vaq_nil))) (vq_val ve_int))) (vq_val ve_int))) vaq_nil))) (vq_val (ve_var (by decide) (pv 1))))))))))))))))
theorem sc_law_pick : FnScope ["_law_pen_here", "_law_options"] ["_law_pen_here", "_law_options"] (defScope s_law_pick) := ⟨rfl, rfl, rfl, by decide +kernel, rfl, by decide +kernel, by decide +kernel⟩
theorem c_law_pick (T : Tx K mg) : VCal P w K mg base 2 "_law_pick" ["_law_pen_here", "_law_options"] F_law_pick := by
  obtain ⟨fd, F⟩ := D_law_pick T
  refine VCal.mk_of (d := d_law_pick) F (fn_v (O' := []) F sc_law_pick fun cdv A outer s H E hr => ?_) (F.bindsN fun _ _ _ _ _ _ us hl => match us, hl with | [_, _], _ => rfl) (g_law_pick T)
  have sc := sc_law_pick
  have fE := flat_of E
  have hu := hu_of hr
  have hu64 := hr.units
  exact (vb_one (vs_ret fE (ve_get hu (vq_val (ve_var (by decide) (pv 1))) (vq_val (ve_call (c_law_draw T) (hr.mono (by decide)) tk_of (va_cons (ve_var (by decide) (pv 0)) (va_cons (ve_callB call_len by_len (by rfl) (f_len T) (by decide +kernel) (vaq_cons (vq_val (ve_var (by decide) (pv 1))) vaq_nil)) va_nil)))))))
theorem sc_law_words : FnScope ["_law_pen_here", "_law_span", "_law_letters", "_law_stem", "_law_at", "_law_first", "_law_step", "_law_found", "_law_k"] ["_law_pen_here", "_law_span"] (defScope s_law_words) := ⟨rfl, rfl, rfl, by decide +kernel, rfl, by decide +kernel, by decide +kernel⟩
theorem c_law_words (T : Tx K mg) : VCal P w K mg base 3 "_law_words" ["_law_pen_here", "_law_span"] F_law_words := by
  obtain ⟨fd, F⟩ := D_law_words T
  refine VCal.mk_of (d := d_law_words) F (fn_v (O' := []) F sc_law_words fun cdv A outer s H E hr => ?_) (F.bindsN fun _ _ _ _ _ _ us hl => match us, hl with | [_, _], _ => rfl) (g_law_words T)
  have sc := sc_law_words
  have fE := flat_of E
  have hu := hu_of hr
  have hu64 := hr.units
  exact (vb_cons (vs_set (i := 2) fE (by decide) ve_str fun t h => ps_set (i := 2) sc.nd rfl (Or.inr rfl) h)
      (vb_cons (vs_set (i := 3) fE (by decide) (ve_join ve_str (vq_val (ve_lc (own := [("_law_k", 8)]) rfl sc.nd (vi_range1 (by rfl) (f_range T) (va_cons (ve_call (c_law_draw T) (hr.mono (by decide)) tk_of (va_cons (ve_var (by decide) (pv 0)) (va_cons ve_int va_nil))) va_nil)) (blkOk_by (own := [("_law_k", 8)]) (N := ["_law_pen_here", "_law_span", "_law_letters", "_law_stem", "_law_at", "_law_first", "_law_step", "_law_found", "_law_k"]) (sc := defScope s_law_words) (by decide +kernel)) (fun _ _ _ _ _ => (vg_name (by decide) (pg_name (i := 8) sc.nd rfl (Or.inl rfl)))) (fun _ _ _ _ _ => vts_nil) (fun _ _ _ _ _ => (ve_call (c_law_pick T) (hr.mono (by decide)) tk0 (va_cons (ve_var (by decide) (pv 0)) (va_cons (ve_var (by decide) (pv 2)) va_nil))))))) fun t h => ps_set (i := 3) sc.nd rfl (Or.inr rfl) h)
      (vb_cons (vs_asg fE (ve_tup (va_cons (ve_call (c_law_draw T) (hr.mono (by decide)) tk_of (va_cons (ve_var (by decide) (pv 0)) (va_cons (ve_add (vq_val (ve_callB call_len by_len (by rfl) (f_len T) (by decide +kernel) (vaq_cons (vq_val (ve_var (by decide) (pv 3))) vaq_nil))) (vq_val ve_int)) va_nil))) (va_cons (ve_call (c_law_draw T) (hr.mono (by decide)) tk_of (va_cons (ve_var (by decide) (pv 0)) (va_cons ve_int va_nil))) (va_cons (ve_call (c_law_pick T) (hr.mono (by decide)) tk_of (va_cons (ve_var (by decide) (pv 0)) (va_cons (ve_lst (va_cons ve_int (va_cons ve_int (va_cons ve_int (va_cons ve_int (va_cons ve_int (va_cons ve_int va_nil))))))) va_nil))) va_nil)))) (vg_tup (n := 3) rfl (vgs_cons (vg_name (by decide) (pg_name (i := 4) sc.nd rfl (Or.inr rfl))) (vgs_cons (vg_name (by decide) (pg_name (i := 5) sc.nd rfl (Or.inr rfl))) (vgs_cons (vg_name (by decide) (pg_name (i := 6) sc.nd rfl (Or.inr rfl))) vgs_nil)))))
      (vb_cons (vs_set (i := 7) fE (by decide) (ve_lc (own := [("_law_k", 8)]) rfl sc.nd (vi_range1 (by rfl) (f_range T) (va_cons (ve_var (by decide) (pv 1)) va_nil)) (blkOk_by (own := [("_law_k", 8)]) (N := ["_law_pen_here", "_law_span", "_law_letters", "_law_stem", "_law_at", "_law_first", "_law_step", "_law_found", "_law_k"]) (sc := defScope s_law_words) (by decide +kernel)) (fun _ _ _ _ _ => (vg_name (by decide) (pg_name (i := 8) sc.nd rfl (Or.inl rfl)))) (fun _ _ _ _ _ => vts_nil) (fun _ _ _ _ _ => (ve_add (vq_val (ve_add (vq_val (ve_sl (vq_val (ve_var (by decide) (pv 3))) vo_none (vo_some (vq_val (ve_var (by decide) (pv 4)))))) (vq_val (ve_get hu (vq_val (ve_var (by decide) (pv 2))) (vq_val (ve_mod (vq_val (ve_callTy call_int1 by_int1 (by rfl) (f_int T) (by decide +kernel) (vaq_cons (vq_val (ve_add (vq_val (ve_var (by decide) (pv 5))) (vq_val (ve_mulS (vq_val (ve_var (by decide) (pv 6))) (vq_val (ve_var (by decide) (pv 8))))))) vaq_nil))) (vq_val ve_int))))))) (vq_val (ve_sl (vq_val (ve_var (by decide) (pv 3))) (vo_some (vq_val (ve_var (by decide) (pv 4)))) vo_none))))) fun t h => ps_set (i := 7) sc.nd rfl (Or.inr rfl) h)
      (vb_one (vs_ret fE (ve_lc (own := [("_law_k", 8)]) rfl sc.nd (vi_range1 (by rfl) (f_range T) (va_cons (ve_var (by decide) (pv 1)) va_nil)) (blkOk_by (own := [("_law_k", 8)]) (N := ["_law_pen_here", "_law_span", "_law_letters", "_law_stem", "_law_at", "_law_first", "_law_step", "_law_found", "_law_k"]) (sc := defScope s_law_words) (by decide +kernel)) (fun _ _ _ _ _ => (vg_name (by decide) (pg_name (i := 8) sc.nd rfl (Or.inl rfl)))) (fun _ _ _ _ _ => vts_nil) (fun _ _ _ _ _ => (ve_add (vq_val (ve_get hu (vq_val (ve_var (by decide) (pv 7))) (vq_val (ve_var (by decide) (pv 8))))) (vq_val (ve_mulS (vq_val ve_str) (vq_val (ve_callTy call_int1 by_int1 (by rfl) (f_int T) (by decide +kernel) (vaq_cons (vq_val (ve_cmp (op_eqD hu64) by_eq (vq_val (ve_mod (vq_val (ve_callTy call_int1 by_int1 (by rfl) (f_int T) (by decide +kernel) (vaq_cons (vq_val (ve_var (by decide) (pv 8))) vaq_nil))) (vq_val ve_int))) (vq_val ve_int) (nomark _))) vaq_nil))))))))))))))
theorem sc_are_words : FnScope ["value", "fewest", "most", "each"] ["value", "fewest", "most"] (defScope s_are_words) := ⟨rfl, rfl, rfl, by decide +kernel, rfl, by decide +kernel, by decide +kernel⟩
theorem c_are_words (T : Tx K mg) : VCal P w K mg base 2 "are_words" ["value", "fewest", "most"] F_are_words := by
  obtain ⟨fd, F⟩ := D_are_words T
  refine VCal.mk_of (d := d_are_words) F (fn_v (O' := []) F sc_are_words fun cdv A outer s H E hr => ?_) (F.bindsN fun _ _ _ _ _ _ us hl => match us, hl with | [_, _, _], _ => rfl) (g_are_words T)
  have sc := sc_are_words
  have fE := flat_of E
  have hu := hu_of hr
  have hu64 := hr.units
  exact (vb_cons (vs_if fE (VW.vt (vw_or (vt_not (vt_tru (vq_val (ve_call (c_is_list T) (hr.mono (by decide)) tk_of (va_cons (ve_var (by decide) (pv 0)) va_nil))))) (vw_or1 (vt_not (vt_chain op_le op_le by_le by_le (vq_val (ve_var (by decide) (pv 1))) (vq_val (ve_callB call_len by_len (by rfl) (f_len T) (by decide +kernel) (vaq_cons (vq_val (ve_var (by decide) (pv 0))) vaq_nil))) (vq_val (ve_var (by decide) (pv 2)))))))) (vb_one (vs_ret fE ve_bl)) vb_nil)
      (vb_one (vs_ret fE (ve_and (ve_callB (cr_all rfl) by_all (by rfl) (f_all T) (by decide +kernel) (vaq_cons (vq_val (ve_lc (own := [("each", 3)]) rfl sc.nd (vi_any (ve_var (by decide) (pv 0))) (blkOk_by (own := [("each", 3)]) (N := ["value", "fewest", "most", "each"]) (sc := defScope s_are_words) (by decide +kernel)) (fun _ _ _ _ _ => (vg_name (by decide) (pg_name (i := 3) sc.nd rfl (Or.inl rfl)))) (fun _ _ _ _ _ => vts_nil) (fun _ _ _ _ _ => (ve_call (c_is_word T) (hr.mono (by decide)) tk0 (va_cons (ve_var (by decide) (pv 3)) va_nil))))) vaq_nil)) (ve_one (ve_call (c_are_different T) (hr.mono (by decide)) tk_of (va_cons (ve_var (by decide) (pv 0)) va_nil)))))))
theorem sc_are_pairs : FnScope ["value", "each"] ["value"] (defScope s_are_pairs) := ⟨rfl, rfl, rfl, by decide +kernel, rfl, by decide +kernel, by decide +kernel⟩
theorem c_are_pairs (T : Tx K mg) : VCal P w K mg base 3 "are_pairs" ["value"] F_are_pairs := by
  obtain ⟨fd, F⟩ := D_are_pairs T
  refine VCal.mk_of (d := d_are_pairs) F (fn_v (O' := []) F sc_are_pairs fun cdv A outer s H E hr => ?_) (F.bindsN fun _ _ _ _ _ _ us hl => match us, hl with | [_], _ => rfl) (g_are_pairs T)
  have sc := sc_are_pairs
  have fE := flat_of E
  have hu := hu_of hr
  have hu64 := hr.units
  exact (vb_cons (vs_if fE (VW.vt (vw_or (vt_not (vt_tru (vq_val (ve_call (c_is_list T) (hr.mono (by decide)) tk_of (va_cons (ve_var (by decide) (pv 0)) va_nil))))) (vw_or1 (vt_cmp op_gt by_gt (vq_val (ve_callB call_len by_len (by rfl) (f_len T) (by decide +kernel) (vaq_cons (vq_val (ve_var (by decide) (pv 0))) vaq_nil))) (vq_val (ve_gi (i_MAX_PAIRS T))) (nomark _))))) (vb_one (vs_ret fE ve_bl)) vb_nil)
      (vb_cons (vs_if fE (vt_not (vt_tru (vq_val (ve_callB (cr_all rfl) by_all (by rfl) (f_all T) (by decide +kernel) (vaq_cons (vq_val (ve_lc (own := [("each", 1)]) rfl sc.nd (vi_any (ve_var (by decide) (pv 0))) (blkOk_by (own := [("each", 1)]) (N := ["value", "each"]) (sc := defScope s_are_pairs) (by decide +kernel)) (fun _ _ _ _ _ => (vg_name (by decide) (pg_name (i := 1) sc.nd rfl (Or.inl rfl)))) (fun _ _ _ _ _ => vts_nil) (fun _ _ _ _ _ => (ve_call (c_is_pair T) (hr.mono (by decide)) tk0 (va_cons (ve_var (by decide) (pv 1)) va_nil))))) vaq_nil))))) (vb_one (vs_ret fE ve_bl)) vb_nil)
      (vb_one (vs_ret fE (ve_and (ve_call (c_are_different T) (hr.mono (by decide)) tk_of (va_cons (ve_call (c_firsts_of T) (hr.mono (by decide)) tk_of (va_cons (ve_var (by decide) (pv 0)) va_nil)) va_nil)) (ve_one (ve_call (c_are_different T) (hr.mono (by decide)) tk_of (va_cons (ve_call (c_seconds_of T) (hr.mono (by decide)) tk_of (va_cons (ve_var (by decide) (pv 0)) va_nil)) va_nil))))))))
theorem sc_is_where : FnScope ["value", "key"] ["value"] (defScope s_is_where) := ⟨rfl, rfl, rfl, by decide +kernel, rfl, by decide +kernel, by decide +kernel⟩
theorem c_is_where (T : Tx K mg) : VCal P w K mg base 3 "is_where" ["value"] F_is_where := by
  obtain ⟨fd, F⟩ := D_is_where T
  refine VCal.mk_of (d := d_is_where) F (fn_v (O' := []) F sc_is_where fun cdv A outer s H E hr => ?_) (F.bindsN fun _ _ _ _ _ _ us hl => match us, hl with | [_], _ => rfl) (g_is_where T)
  have sc := sc_is_where
  have fE := flat_of E
  have hu := hu_of hr
  have hu64 := hr.units
  exact (vb_cons (vs_if fE (vt_cmp op_isN1 by_isN (vq_val (ve_var (by decide) (pv 0))) (vq_val ve_non) (nomark _)) (vb_one (vs_ret fE ve_bl)) vb_nil)
      (vb_cons (vs_if fE (vt_not (vt_tru (vq_val (ve_isi rfl (by rfl) (f_isinstance T) (by decide +kernel) (by rfl) (f_dict T) (by decide +kernel) (vq_val (ve_var (by decide) (pv 0))))))) (vb_one (vs_ret fE ve_bl)) vb_nil)
      (vb_one (vs_ret fE (ve_callB (cr_all rfl) by_all (by rfl) (f_all T) (by decide +kernel) (vaq_cons (vq_val (ve_lc (own := [("key", 1)]) rfl sc.nd (vi_keys (ve_var (by decide) (pv 0))) (blkOk_by (own := [("key", 1)]) (N := ["value", "key"]) (sc := defScope s_is_where) (by decide +kernel)) (fun _ _ _ _ _ => (vg_name (by decide) (pg_name (i := 1) sc.nd rfl (Or.inl rfl)))) (fun _ _ _ _ _ => vts_nil) (fun _ _ _ _ _ => (ve_and (ve_call (c_is_word T) (hr.mono (by decide)) tk0 (va_cons (ve_var (by decide) (pv 1)) va_nil)) (ve_one (ve_call (c_are_words T) (hr.mono (by decide)) tk0 (va_cons (ve_get hu (vq_val (ve_var (by decide) (pv 0))) (vq_val (ve_var (by decide) (pv 1)))) (va_cons ve_int (va_cons (ve_gi (i_MAX_CHOICE T)) va_nil))))))))) vaq_nil))))))
theorem sc_Rule_init : FnScope ["self", "table", "other", "pairs", "least", "most", "where", "other_where", "first", "second"] ["self", "table", "other", "pairs", "least", "most", "where", "other_where"] (defScope s_Rule_init) := ⟨rfl, rfl, rfl, by decide +kernel, rfl, by decide +kernel, by decide +kernel⟩
theorem n_Rule_init (T : Tx K mg) {fd : FuncData} (F : FunD K d_Rule_init.name d_Rule_init.qual d_Rule_init.params d_Rule_init.body d_Rule_init.scope [] [("where", V.non), ("other_where", V.non)] (He.ma K (He.ga K "Rule") "__init__") fd) : FnOk P w K mg base (L2.CX P w) 4 (He.ma K (He.ga K "Rule") "__init__") fd ["self", "table", "other", "pairs", "least", "most", "where", "other_where"] (spI K "Rule" F_Rule_init) := by
  refine fn_vi (O' := [0]) F sc_Rule_init (by decide) fun cdv A outer s H E hr => ?_
  have sc := sc_Rule_init
  have fE := flat_of E
  have hu := hu_of hr
  have hu64 := hr.units
  exact (vb_cons (vs_expr fE (ve_call (c_check_argument T) (hr.mono (by decide)) tk_of (va_cons (ve_call (c_is_word T) (hr.mono (by decide)) tk_of (va_cons (ve_var (by decide) (pv 1)) va_nil)) (va_cons ve_str va_nil))))
      (vb_cons (vs_expr fE (ve_call (c_check_argument T) (hr.mono (by decide)) tk_of (va_cons (ve_call (c_is_word T) (hr.mono (by decide)) tk_of (va_cons (ve_var (by decide) (pv 2)) va_nil)) (va_cons ve_str va_nil))))
      (vb_cons (vs_expr fE (ve_call (c_check_argument T) (hr.mono (by decide)) tk_of (va_cons (ve_call (c_are_pairs T) (hr.mono (by decide)) tk_of (va_cons (ve_var (by decide) (pv 3)) va_nil)) (va_cons ve_str va_nil))))
      (vb_cons (vs_expr fE (ve_call (c_check_argument T) (hr.mono (by decide)) tk_of (va_cons (ve_call (c_is_least T) (hr.mono (by decide)) tk_of (va_cons (ve_var (by decide) (pv 4)) va_nil)) (va_cons ve_str va_nil))))
      (vb_cons (vs_expr fE (ve_call (c_check_argument T) (hr.mono (by decide)) tk_of (va_cons (ve_call (c_is_most T) (hr.mono (by decide)) tk_of (va_cons (ve_var (by decide) (pv 5)) (va_cons (ve_var (by decide) (pv 4)) va_nil))) (va_cons ve_str va_nil))))
      (vb_cons (vs_expr fE (ve_call (c_check_argument T) (hr.mono (by decide)) tk_of (va_cons (ve_call (c_is_where T) (hr.mono (by decide)) tk_of (va_cons (ve_var (by decide) (pv 6)) va_nil)) (va_cons ve_str va_nil))))
      (vb_cons (vs_expr fE (ve_call (c_check_argument T) (hr.mono (by decide)) tk_of (va_cons (ve_call (c_is_where T) (hr.mono (by decide)) tk_of (va_cons (ve_var (by decide) (pv 7)) va_nil)) (va_cons ve_str va_nil))))
      (vb_cons (vs_fld (i := 0) (t := ["Rule"]) fE (by decide) (in_cons ⟨cls_Rule T, no_Rule_table T⟩ in_nil) (pv 0) (ve_var (by decide) (pv 1)))
      (vb_cons (vs_fld (i := 0) (t := ["Rule"]) fE (by decide) (in_cons ⟨cls_Rule T, no_Rule_other T⟩ in_nil) (pv 0) (ve_var (by decide) (pv 2)))
      (vb_cons (vs_fld (i := 0) (t := ["Rule"]) fE (by decide) (in_cons ⟨cls_Rule T, no_Rule_pairs T⟩ in_nil) (pv 0) (ve_callTy call_tuple_of by_tuple (by rfl) (f_tuple T) (by decide +kernel) (vaq_cons (vq_val (ve_lc (own := [("first", 8), ("second", 9)]) rfl sc.nd (vi_any (ve_var (by decide) (pv 3))) (blkOk_by (own := [("first", 8), ("second", 9)]) (N := ["self", "table", "other", "pairs", "least", "most", "where", "other_where", "first", "second"]) (sc := defScope s_Rule_init) (by decide +kernel)) (fun _ _ _ _ _ => (vg_tup (n := 2) rfl (vgs_cons (vg_name (by decide) (pg_name (i := 8) sc.nd rfl (Or.inl rfl))) (vgs_cons (vg_name (by decide) (pg_name (i := 9) sc.nd rfl (Or.inl rfl))) vgs_nil)))) (fun _ _ _ _ _ => vts_nil) (fun _ _ _ _ _ => (ve_tup (va_cons (ve_var (by decide) (pv 8)) (va_cons (ve_var (by decide) (pv 9)) va_nil)))))) vaq_nil)))
      (vb_cons (vs_fld (i := 0) (t := ["Rule"]) fE (by decide) (in_cons ⟨cls_Rule T, no_Rule_least T⟩ in_nil) (pv 0) (ve_var (by decide) (pv 4)))
      (vb_cons (vs_fld (i := 0) (t := ["Rule"]) fE (by decide) (in_cons ⟨cls_Rule T, no_Rule_most T⟩ in_nil) (pv 0) (ve_var (by decide) (pv 5)))
      (vb_cons (vs_fld (i := 0) (t := ["Rule"]) fE (by decide) (in_cons ⟨cls_Rule T, no_Rule_where T⟩ in_nil) (pv 0) (ve_call (c_kept_where T) (hr.mono (by decide)) tk_of (va_cons (ve_var (by decide) (pv 6)) va_nil)))
      (vb_one (vs_fld (i := 0) (t := ["Rule"]) fE (by decide) (in_cons ⟨cls_Rule T, no_Rule_other_where T⟩ in_nil) (pv 0) (ve_call (c_kept_where T) (hr.mono (by decide)) tk_of (va_cons (ve_var (by decide) (pv 7)) va_nil)))))))))))))))))
theorem mk_Rule_5_ (T : Tx K mg) : MkO P w K mg base 4 "Rule" 5 [] F_Rule_init (fun xs ys => xs ++ [.non, .non]) := by
  obtain ⟨fd, F⟩ := D_Rule_init T
  obtain ⟨mv, hb⟩ := FunD.kbinds0 (ps := ["self", "table", "other", "pairs", "least", "most", "where", "other_where"]) F 6 [] [("where", V.non), ("other_where", V.non)] (fun us mv ws => us ++ mv) (by simp) (fun q hq => by simp at hq ⊢; first | exact hq | (subst hq; simp)) (fun r1 r2 r3 => r1.append r2)
    (fun D doc pm an cdv ct us mv ws l1 l2 l3 => match us, mv, ws, l1, l2, l3 with | [_, _, _, _, _, _], [_, _], [], _, _, _ => ⟨_, _, _, _, _, _, rfl, rfl, ⟨_, _, _, _, _, _, rfl, rfl, rfl⟩⟩)
  exact ⟨_, fd, _, _, _, fun vs zs => vs ++ [V.non, V.non], mkr_Rule T, n_Rule_init T F, hb, fun _ _ _ => rfl, fun _ _ r1 r2 => r1.append (Reps.cons .non (Reps.cons .non .nil))⟩
theorem sc_Rule_key : FnScope ["table", "columns", "column"] ["table", "columns"] (defScope s_Rule_key) := ⟨rfl, rfl, rfl, by decide +kernel, rfl, by decide +kernel, by decide +kernel⟩
theorem sr_Rule_key (T : Tx K mg) : StR P w K mg base 6 "Rule" "key" F_Rule_key := by
  obtain ⟨fd, F⟩ := DS_Rule_key T
  refine ⟨_, st_Rule_key T, fn_vstar (O' := []) (ps := ["table"]) (pv := "columns") F sc_Rule_key (fun _ _ _ _ _ _ us rest hl => match us, rest, hl with | [_], [], _ => rfl | [_], _ :: _, _ => rfl) fun cdv A outer s H E hr => ?_⟩
  have sc := sc_Rule_key
  have fE := flat_of E
  have hu := hu_of hr
  have hu64 := hr.units
  exact (vb_one (vs_ret fE (ve_makeK (mk_Rule_5_ T) (hr.mono (by decide)) tk_of (by rfl) (g_Rule T) (va_cons (ve_var (by decide) (pv 0)) (va_cons (ve_var (by decide) (pv 0)) (va_cons (ve_lc (own := [("column", 2)]) rfl sc.nd (vi_any (ve_var (by decide) (pv 1))) (blkOk_by (own := [("column", 2)]) (N := ["table", "columns", "column"]) (sc := defScope s_Rule_key) (by decide +kernel)) (fun _ _ _ _ _ => (vg_name (by decide) (pg_name (i := 2) sc.nd rfl (Or.inl rfl)))) (fun _ _ _ _ _ => vts_nil) (fun _ _ _ _ _ => (ve_tup (va_cons (ve_var (by decide) (pv 2)) (va_cons (ve_var (by decide) (pv 2)) va_nil))))) (va_cons ve_int (va_cons ve_int va_nil))))) vk_nil)))
theorem mk_Rule_5_where (T : Tx K mg) : MkO P w K mg base 4 "Rule" 5 ["where"] F_Rule_init (fun xs ys => xs ++ (ys ++ [.non])) := by
  obtain ⟨fd, F⟩ := D_Rule_init T
  obtain ⟨mv, hb⟩ := FunD.kbinds0 (ps := ["self", "table", "other", "pairs", "least", "most", "where", "other_where"]) F 6 ["where"] [("other_where", V.non)] (fun us mv ws => us ++ (ws ++ mv)) (by simp) (fun q hq => by simp at hq ⊢; first | exact hq | (subst hq; simp)) (fun r1 r2 r3 => r1.append (r3.append r2))
    (fun D doc pm an cdv ct us mv ws l1 l2 l3 => match us, mv, ws, l1, l2, l3 with | [_, _, _, _, _, _], [_], [_], _, _, _ => ⟨_, _, _, _, _, _, rfl, rfl, rfl⟩)
  exact ⟨_, fd, _, _, _, fun vs zs => vs ++ (zs ++ [V.non]), mkr_Rule T, n_Rule_init T F, hb, fun _ _ _ => rfl, fun _ _ r1 r2 => r1.append (r2.append (Reps.cons .non .nil))⟩
theorem sc_Rule_reference : FnScope ["table", "other", "pairs", "where"] ["table", "other", "pairs", "where"] (defScope s_Rule_reference) := ⟨rfl, rfl, rfl, by decide +kernel, rfl, by decide +kernel, by decide +kernel⟩
theorem n_Rule_reference (T : Tx K mg) {fd : FuncData} (F : FunD K d_Rule_reference.name d_Rule_reference.qual d_Rule_reference.params d_Rule_reference.body d_Rule_reference.scope [] [("where", V.non)] (Oh.psA K "Rule" "reference") fd) : FnOk P w K mg base (L2.CX P w) 6 (Oh.psA K "Rule" "reference") fd ["table", "other", "pairs", "where"] (spF K F_Rule_reference) := by
  refine fn_v (O' := []) F sc_Rule_reference fun cdv A outer s H E hr => ?_
  have sc := sc_Rule_reference
  have fE := flat_of E
  have hu := hu_of hr
  have hu64 := hr.units
  exact (vb_one (vs_ret fE (ve_makeK (mk_Rule_5_where T) (hr.mono (by decide)) tk_of (by rfl) (g_Rule T) (va_cons (ve_var (by decide) (pv 0)) (va_cons (ve_var (by decide) (pv 1)) (va_cons (ve_var (by decide) (pv 2)) (va_cons ve_int (va_cons ve_non va_nil))))) (vk_cons (ve_var (by decide) (pv 3)) vk_nil))))
theorem mk_Rule_5_where_other_where (T : Tx K mg) : MkO P w K mg base 4 "Rule" 5 ["where", "other_where"] F_Rule_init (fun xs ys => xs ++ ys) := by
  obtain ⟨fd, F⟩ := D_Rule_init T
  obtain ⟨mv, hb⟩ := FunD.kbinds0 (ps := ["self", "table", "other", "pairs", "least", "most", "where", "other_where"]) F 6 ["where", "other_where"] [] (fun us mv ws => us ++ ws) (by simp) (fun q hq => by simp at hq) (fun r1 r2 r3 => r1.append r3)
    (fun D doc pm an cdv ct us mv ws l1 l2 l3 => match us, mv, ws, l1, l2, l3 with | [_, _, _, _, _, _], [], [_, _], _, _, _ => rfl)
  exact ⟨_, fd, _, _, _, fun vs zs => vs ++ zs, mkr_Rule T, n_Rule_init T F, hb, fun _ _ _ => rfl, fun _ _ r1 r2 => r1.append r2⟩
theorem sc_Rule_at_most : FnScope ["table", "other", "pairs", "most", "where", "other_where"] ["table", "other", "pairs", "most", "where", "other_where"] (defScope s_Rule_at_most) := ⟨rfl, rfl, rfl, by decide +kernel, rfl, by decide +kernel, by decide +kernel⟩
theorem n_Rule_at_most (T : Tx K mg) {fd : FuncData} (F : FunD K d_Rule_at_most.name d_Rule_at_most.qual d_Rule_at_most.params d_Rule_at_most.body d_Rule_at_most.scope [] [("where", V.non), ("other_where", V.non)] (Oh.psA K "Rule" "at_most") fd) : FnOk P w K mg base (L2.CX P w) 6 (Oh.psA K "Rule" "at_most") fd ["table", "other", "pairs", "most", "where", "other_where"] (spF K F_Rule_at_most) := by
  refine fn_v (O' := []) F sc_Rule_at_most fun cdv A outer s H E hr => ?_
  have sc := sc_Rule_at_most
  have fE := flat_of E
  have hu := hu_of hr
  have hu64 := hr.units
  exact (vb_one (vs_ret fE (ve_makeK (mk_Rule_5_where_other_where T) (hr.mono (by decide)) tk_of (by rfl) (g_Rule T) (va_cons (ve_var (by decide) (pv 0)) (va_cons (ve_var (by decide) (pv 1)) (va_cons (ve_var (by decide) (pv 2)) (va_cons ve_int (va_cons (ve_var (by decide) (pv 3)) va_nil))))) (vk_cons (ve_var (by decide) (pv 4)) (vk_cons (ve_var (by decide) (pv 5)) vk_nil)))))
theorem sc_Rule_exactly : FnScope ["table", "other", "pairs", "least", "where", "other_where"] ["table", "other", "pairs", "least", "where", "other_where"] (defScope s_Rule_exactly) := ⟨rfl, rfl, rfl, by decide +kernel, rfl, by decide +kernel, by decide +kernel⟩
theorem n_Rule_exactly (T : Tx K mg) {fd : FuncData} (F : FunD K d_Rule_exactly.name d_Rule_exactly.qual d_Rule_exactly.params d_Rule_exactly.body d_Rule_exactly.scope [] [("where", V.non), ("other_where", V.non)] (Oh.psA K "Rule" "exactly") fd) : FnOk P w K mg base (L2.CX P w) 6 (Oh.psA K "Rule" "exactly") fd ["table", "other", "pairs", "least", "where", "other_where"] (spF K F_Rule_exactly) := by
  refine fn_v (O' := []) F sc_Rule_exactly fun cdv A outer s H E hr => ?_
  have sc := sc_Rule_exactly
  have fE := flat_of E
  have hu := hu_of hr
  have hu64 := hr.units
  exact (vb_one (vs_ret fE (ve_makeK (mk_Rule_5_where_other_where T) (hr.mono (by decide)) tk_of (by rfl) (g_Rule T) (va_cons (ve_var (by decide) (pv 0)) (va_cons (ve_var (by decide) (pv 1)) (va_cons (ve_var (by decide) (pv 2)) (va_cons (ve_var (by decide) (pv 3)) (va_cons (ve_var (by decide) (pv 3)) va_nil))))) (vk_cons (ve_var (by decide) (pv 4)) (vk_cons (ve_var (by decide) (pv 5)) vk_nil)))))
theorem sc_Rule_none : FnScope ["table", "other", "pairs", "where", "other_where"] ["table", "other", "pairs", "where", "other_where"] (defScope s_Rule_none) := ⟨rfl, rfl, rfl, by decide +kernel, rfl, by decide +kernel, by decide +kernel⟩
theorem n_Rule_none (T : Tx K mg) {fd : FuncData} (F : FunD K d_Rule_none.name d_Rule_none.qual d_Rule_none.params d_Rule_none.body d_Rule_none.scope [] [("where", V.non), ("other_where", V.non)] (Oh.psA K "Rule" "none") fd) : FnOk P w K mg base (L2.CX P w) 6 (Oh.psA K "Rule" "none") fd ["table", "other", "pairs", "where", "other_where"] (spF K F_Rule_none) := by
  refine fn_v (O' := []) F sc_Rule_none fun cdv A outer s H E hr => ?_
  have sc := sc_Rule_none
  have fE := flat_of E
  have hu := hu_of hr
  have hu64 := hr.units
  exact (vb_one (vs_ret fE (ve_makeK (mk_Rule_5_where_other_where T) (hr.mono (by decide)) tk_of (by rfl) (g_Rule T) (va_cons (ve_var (by decide) (pv 0)) (va_cons (ve_var (by decide) (pv 1)) (va_cons (ve_var (by decide) (pv 2)) (va_cons ve_int (va_cons ve_int va_nil))))) (vk_cons (ve_var (by decide) (pv 3)) (vk_cons (ve_var (by decide) (pv 4)) vk_nil)))))
theorem sc_Rule_eq : FnScope ["self", "other"] ["self", "other"] (defScope s_Rule_eq) := ⟨rfl, rfl, rfl, by decide +kernel, rfl, by decide +kernel, by decide +kernel⟩
theorem w_Rule_eq (T : Tx K mg) {fd : FuncData} (F : FunD K d_Rule_eq.name d_Rule_eq.qual d_Rule_eq.params d_Rule_eq.body d_Rule_eq.scope [] [] (He.ma K (He.ga K "Rule") "__eq__") fd) : FnOk P w K mg base (L2.CX P w) 2 (He.ma K (He.ga K "Rule") "__eq__") fd ["self", "other"] (spF K F_Rule_eq) := by
  refine fn_v (O' := []) F sc_Rule_eq fun cdv A outer s H E hr => ?_
  have sc := sc_Rule_eq
  have fE := flat_of E
  have hu := hu_of hr
  have hu64 := hr.units
  exact (vb_one (vs_ret fE (ve_and (ve_isO (t := (("Rule", true) :: [])) (ts := Oh.tys) (isK T) ⟨⟨cls_Rule T, (cc_Rule T).1, (cc_Rule T).2, kio_Rule_Rule T⟩, trivial⟩ (kti_Rule T) rfl (by rfl) (f_isinstance T) (by decide +kernel) (by rfl) (g_Rule T) (vq_val (ve_var (by decide) (pv 1)))) (ve_one (ve_cmp (op_eqN (room68 hr)) by_eqN (vq_val (ve_meth0 (t := (("Rule", F_Rule_told) :: [])) (k := 1) ⟨⟨cls_Rule T, _, meth_Rule_told T, (v_Rule_told T).mono (by decide)⟩, trivial⟩ (hr.mono (by decide)) tk_of (ve_var (by decide) (pv 0)))) (vq_val (ve_meth0 (t := (("Rule", F_Rule_told) :: [])) (k := 1) ⟨⟨cls_Rule T, _, meth_Rule_told T, (v_Rule_told T).mono (by decide)⟩, trivial⟩ (hr.mono (by decide)) tk_of (ve_var (by decide) (pv 1)))) (nomark _))))))
theorem v_Rule_eq (T : Tx K mg) : VFn P w K mg base 2 (He.ma K (He.ga K "Rule") "__eq__") F_Rule_eq := by
  obtain ⟨fd, F⟩ := D_Rule_eq T
  exact ⟨fd, ["self", "other"], w_Rule_eq T F, (F.bindsN fun _ _ _ _ _ _ us hl => match us, hl with | [_, _], _ => rfl)⟩
theorem sc_law_keyed : FnScope ["_law_table", "_law_columns"] ["_law_table", "_law_columns"] (defScope s_law_keyed) := ⟨rfl, rfl, rfl, by decide +kernel, rfl, by decide +kernel, by decide +kernel⟩
theorem c_law_keyed (T : Tx K mg) : VCal P w K mg base 7 "_law_keyed" ["_law_table", "_law_columns"] F_law_keyed := by
  obtain ⟨fd, F⟩ := D_law_keyed T
  refine VCal.mk_of (d := d_law_keyed) F (fn_v (O' := []) F sc_law_keyed fun cdv A outer s H E hr => ?_) (F.bindsN fun _ _ _ _ _ _ us hl => match us, hl with | [_, _], _ => rfl) (g_law_keyed T)
  have sc := sc_law_keyed
  have fE := flat_of E
  have hu := hu_of hr
  have hu64 := hr.units
  exact (vb_cons (vs_if fE (vt_cmp op_lt by_lt (vq_val (ve_callB call_len by_len (by rfl) (f_len T) (by decide +kernel) (vaq_cons (vq_val (ve_var (by decide) (pv 1))) vaq_nil))) (vq_val ve_int) (nomark _)) (vb_one (vs_ret fE (ve_if (vt_cmp (op_eqD hu64) by_eq (vq_val (ve_var (by decide) (pv 1))) (vq_val (ve_lst va_nil)) (nomark _)) (ve_statR (sr_Rule_key T) (cr_Rule T) (hr.mono (by decide)) tk_of (by rfl) (g_Rule T) (va_cons (ve_var (by decide) (pv 0)) va_nil)) (ve_statR (sr_Rule_key T) (cr_Rule T) (hr.mono (by decide)) tk_of (by rfl) (g_Rule T) (va_cons (ve_var (by decide) (pv 0)) (va_cons (ve_get hu (vq_val (ve_var (by decide) (pv 1))) (vq_val ve_int)) va_nil)))))) vb_nil)
      (vb_cons (vs_if fE (vt_cmp (op_eqD hu64) by_eq (vq_val (ve_callB call_len by_len (by rfl) (f_len T) (by decide +kernel) (vaq_cons (vq_val (ve_var (by decide) (pv 1))) vaq_nil))) (vq_val ve_int) (nomark _)) (vb_one (vs_ret fE (ve_statR (sr_Rule_key T) (cr_Rule T) (hr.mono (by decide)) tk_of (by rfl) (g_Rule T) (va_cons (ve_var (by decide) (pv 0)) (va_cons (ve_get hu (vq_val (ve_var (by decide) (pv 1))) (vq_val ve_int)) (va_cons (ve_get hu (vq_val (ve_var (by decide) (pv 1))) (vq_val ve_int)) va_nil)))))) vb_nil)
      (vb_one (vs_ret fE (ve_statR (sr_Rule_key T) (cr_Rule T) (hr.mono (by decide)) tk_of (by rfl) (g_Rule T) (va_cons (ve_var (by decide) (pv 0)) (va_cons (ve_get hu (vq_val (ve_var (by decide) (pv 1))) (vq_val ve_int)) (va_cons (ve_get hu (vq_val (ve_var (by decide) (pv 1))) (vq_val ve_int)) (va_cons (ve_get hu (vq_val (ve_var (by decide) (pv 1))) (vq_val ve_int)) va_nil)))))))))
end
end Ow
set_option Elab.async false
set_option linter.all false
set_option maxRecDepth 100000
set_option maxHeartbeats 4000000
namespace Ow
open PySem PySem.Spec PyProof.Rows L2 Oc Os Vl Lw
section
variable {P : Program} {w : World} {K : PySem.W.Frag} {mg : Str → Option Value} {base : Heap}
abbrev lsc_3 : Scope := sLam ((sBody ((defBody s_law).getD 1 (.Pass ⟨0, 0, 0, 0⟩))).getD 3 (.Pass ⟨0, 0, 0, 0⟩))
abbrev lsc_4 : Scope := sLam ((sBody ((defBody s_law).getD 1 (.Pass ⟨0, 0, 0, 0⟩))).getD 4 (.Pass ⟨0, 0, 0, 0⟩))
abbrev lsc_8 : Scope := sLam ((sBody ((defBody s_law).getD 1 (.Pass ⟨0, 0, 0, 0⟩))).getD 8 (.Pass ⟨0, 0, 0, 0⟩))
abbrev lsc_9 : Scope := sLam ((sBody ((defBody s_law).getD 1 (.Pass ⟨0, 0, 0, 0⟩))).getD 9 (.Pass ⟨0, 0, 0, 0⟩))
abbrev lsc_10 : Scope := sLam ((sBody ((defBody s_law).getD 1 (.Pass ⟨0, 0, 0, 0⟩))).getD 10 (.Pass ⟨0, 0, 0, 0⟩))
abbrev lsc_11 : Scope := sLam ((sBody ((defBody s_law).getD 1 (.Pass ⟨0, 0, 0, 0⟩))).getD 11 (.Pass ⟨0, 0, 0, 0⟩))
abbrev lsc_12 : Scope := sLam ((sBody ((defBody s_law).getD 1 (.Pass ⟨0, 0, 0, 0⟩))).getD 12 (.Pass ⟨0, 0, 0, 0⟩))
abbrev lsc_13 : Scope := sLam ((sBody ((defBody s_law).getD 1 (.Pass ⟨0, 0, 0, 0⟩))).getD 13 (.Pass ⟨0, 0, 0, 0⟩))
abbrev lsc_14 : Scope := sLam ((sBody ((defBody s_law).getD 1 (.Pass ⟨0, 0, 0, 0⟩))).getD 14 (.Pass ⟨0, 0, 0, 0⟩))
abbrev lsc_15 : Scope := sLam ((sBody ((defBody s_law).getD 1 (.Pass ⟨0, 0, 0, 0⟩))).getD 15 (.Pass ⟨0, 0, 0, 0⟩))
theorem F_told_b {g : Addr} {fdT : FuncData} (FT : FunD K d_law_told.name d_law_told.qual d_law_told.params d_law_told.body d_law_told.scope [] [] g fdT) : L2.Binds K fdT ["_law_call"] [] := FT.bindsN fun _ _ _ _ _ _ us hl => match us, hl with | [_], _ => rfl
theorem b_law {fd : FuncData} (F : FunD K d_law.name d_law.qual d_law.params d_law.body d_law.scope [] [] (He.ga K "law") fd) (s : Shared) (u : Value) : BindsTo s fd ⟨[u], []⟩ [("_law_script", u)] := by
  have b := FunD.bindsA (ps := ["_law_script"]) F fun _ _ _ _ _ _ us hl => match us, hl with | [_], _ => rfl
  exact b s [u] rfl
theorem sc_law_told : FnScope ["_law_call", "e"] ["_law_call"] (defScope s_law_told) := ⟨rfl, rfl, rfl, by decide +kernel, rfl, by decide +kernel, by decide +kernel⟩
abbrev lawX (P : Program) (w : World) (K : PySem.W.Frag) (mg : Str → Option Value) (base : Heap) (N : List Str) (f cL : Addr) (s : Shared) (H : Hp) (E : XK) : Cx := cxOf CX0 P w K mg base N d_law.qual d_law.scope f (.ref cL) callerA [] s H E
theorem lamL (T : Tx K mg) (TO : TabOk tb K mg base) {N : List Str} {f cL : Addr} {s : Shared} {H : Hp} {E : XK} {O : List Nat} {params : Arguments} {body : Expr} {scope : Scope} {lpos p pos : Pos} {fe : Vl.Env → Mo D}
    (TB : LamX.TabB base mg cL (tabP K "law")) (L : LamX.LamS (defScope s_law) scope) (hdef : defaultsOf params (lawX P w K mg base N f cL s H E).env = ([], []))
    (hbind : ∀ (q : Str) (cl : List (Str × Addr)) (pm cv ctv : Value), bindArgs (PySem.W.kla_fn "<lambda>" q params body scope cl pm cv ctv) ⟨[], []⟩ = pure [])
    (hbody : ∀ (A : Around) (outer : List PySem.Env) (s1 : Shared) (H1 : Hp) (Ec : XK) (f1 c1 : Addr), Room 24 (A.deeper (LamX.lamEnv (lawX P w K mg base N f cL s H E) scope s1.heap.objs.size f1 c1)) → VE (LamX.lamCx (lawX P w K mg base N f cL s H E) A outer s1 H1 Ec scope f1 c1) O (XSof Ec) body fe) :
    VE (lawX P w K mg base N f cL s H E) O XS0 (.Call (.Name "_law_told" p) [.Lambda params body scope lpos] [] pos) (fun ρ => mCatch id "InvalidRule" hvA (fe ρ)) := by
  obtain ⟨fdT, FT⟩ := D_law_told T
  have sc := sc_law_told
  exact ve_lamR (k := 24) (p4 := lpos) (a := "_law_call") (n := "e") (q := "law.<locals>.<lambda>") (C := "InvalidRule") (i := 1) (Ng := ["_law_call", "e"]) FT (g_law_told T) (F_told_b FT) sc_law_told rfl (Or.inl rfl) rfl rfl ⟨rfl, rfl, g_InvalidRule T⟩ (x_InvalidRule T).ex
    (fun cdg A outer s H a oe dx pn fs d hd hz hf => by
        obtain ⟨x0, h1, h2⟩ := Option.map_eq_some_iff.mp hd
        have h0 : fs.lookup ("argument" : Str) = some x0 ∧ True := ⟨h1, trivial⟩
        subst h2
        exact (vxr_a (vxa_fld (x_InvalidRule T).cl (nf_InvalidRule T) hz hf h0.1 (pv 1))))
    (tab_mem (x := "law") (q := "law.<locals>.<lambda>") (List.mem_cons_self ..)) (tab_uniq TO.nodup (x := "law") (q := "law.<locals>.<lambda>") (List.mem_cons_self ..)) TB rfl rfl ((callR30 _).mono (by decide)) L hdef hbind hbody
theorem so_Rule_reference_where (T : Tx K mg) : StO P w K mg base 6 "Rule" "reference" 3 ["where"] F_Rule_reference (fun xs ys => xs ++ ys) := by
  obtain ⟨fd, F⟩ := DS_Rule_reference T
  obtain ⟨mv, hb⟩ := FunD.kbinds0 (ps := ["table", "other", "pairs", "where"]) F 3 ["where"] [] (fun us mv ws => us ++ ws) (by simp) (fun q hq => by simp at hq) (fun r1 r2 r3 => r1.append r3)
    (fun D doc pm an cdv ct us mv ws l1 l2 l3 => match us, mv, ws, l1, l2, l3 with | [_, _, _], [], [_], _, _, _ => rfl)
  exact ⟨_, fd, _, _, _, st_Rule_reference T, n_Rule_reference T F, hb, fun _ _ r1 r2 => r1.append r2⟩
theorem so_Rule_at_most_where_other_where (T : Tx K mg) : StO P w K mg base 6 "Rule" "at_most" 4 ["where", "other_where"] F_Rule_at_most (fun xs ys => xs ++ ys) := by
  obtain ⟨fd, F⟩ := DS_Rule_at_most T
  obtain ⟨mv, hb⟩ := FunD.kbinds0 (ps := ["table", "other", "pairs", "most", "where", "other_where"]) F 4 ["where", "other_where"] [] (fun us mv ws => us ++ ws) (by simp) (fun q hq => by simp at hq) (fun r1 r2 r3 => r1.append r3)
    (fun D doc pm an cdv ct us mv ws l1 l2 l3 => match us, mv, ws, l1, l2, l3 with | [_, _, _, _], [], [_, _], _, _, _ => rfl)
  exact ⟨_, fd, _, _, _, st_Rule_at_most T, n_Rule_at_most T F, hb, fun _ _ r1 r2 => r1.append r2⟩
theorem so_Rule_exactly_other_where_where (T : Tx K mg) : StO P w K mg base 6 "Rule" "exactly" 4 ["other_where", "where"] F_Rule_exactly (fun xs ys => xs ++ ys.reverse) := by
  obtain ⟨fd, F⟩ := DS_Rule_exactly T
  obtain ⟨mv, hb⟩ := FunD.kbinds0 (ps := ["table", "other", "pairs", "least", "where", "other_where"]) F 4 ["other_where", "where"] [] (fun us mv ws => us ++ ws.reverse) (by simp) (fun q hq => by simp at hq) (fun r1 r2 r3 => r1.append r3.reverse)
    (fun D doc pm an cdv ct us mv ws l1 l2 l3 => match us, mv, ws, l1, l2, l3 with | [_, _, _, _], [], [_, _], _, _, _ => rfl)
  exact ⟨_, fd, _, _, _, st_Rule_exactly T, n_Rule_exactly T F, hb, fun _ _ r1 r2 => r1.append r2.reverse⟩
theorem so_Rule_none_where_other_where (T : Tx K mg) : StO P w K mg base 6 "Rule" "none" 3 ["where", "other_where"] F_Rule_none (fun xs ys => xs ++ ys) := by
  obtain ⟨fd, F⟩ := DS_Rule_none T
  obtain ⟨mv, hb⟩ := FunD.kbinds0 (ps := ["table", "other", "pairs", "where", "other_where"]) F 3 ["where", "other_where"] [] (fun us mv ws => us ++ ws) (by simp) (fun q hq => by simp at hq) (fun r1 r2 r3 => r1.append r3)
    (fun D doc pm an cdv ct us mv ws l1 l2 l3 => match us, mv, ws, l1, l2, l3 with | [_, _, _], [], [_, _], _, _, _ => rfl)
  exact ⟨_, fd, _, _, _, st_Rule_none T, n_Rule_none T F, hb, fun _ _ r1 r2 => r1.append r2⟩
theorem sc_law : FnScope ["_law_script", "_law_pen_here", "_law_turn", "_law_words_here", "_law_table", "_law_other", "_law_columns", "_law_due", "_law_pairs", "_law_lets", "_law_more", "_law_number", "_law_k", "_law_column"] ["_law_script"] (defScope s_law) := ⟨rfl, rfl, rfl, by decide +kernel, rfl, by decide +kernel, by decide +kernel⟩
theorem ok_law (T : Tx K mg) (TO : TabOk tb K mg base) {fd : FuncData} (F : FunD K d_law.name d_law.qual d_law.params d_law.body d_law.scope [] [] (He.ga K "law") fd) : LawOk P w K mg base (He.ga K "law") fd ["_law_script"] (spLg K m_law 14) := by
  refine law_vg (O' := []) F sc_law fun cdv hc s H E => ?_
  obtain ⟨cL, eT, TB⟩ := TO.each ("law", "law.<locals>.<lambda>") (List.mem_cons_self ..)
  have hcd := hc cL _ eT (He.eqO_ok (T.says.d.fact 22 (f := .glo "law") rfl))
  subst hcd
  have sc := sc_law
  have fE := flat0
  exact (vb_cons (vs_set (i := 1) fE (by decide) (ve_call (c_law_pen T) ((callR30 _).mono (by decide)) tk0 (va_cons (ve_var (by decide) (pv 0)) va_nil)) fun t h => ps_set (i := 1) sc.nd rfl (Or.inr rfl) h)
      (vb_cons (vs_for fE pso_law rfl (vi_range1 (by rfl) (f_range T) (va_cons ve_int va_nil)) (vg_name (by decide) (pg_name (i := 2) sc.nd rfl (Or.inl rfl))) (vb_cons (vs_set (i := 3) fE (by decide) (ve_call (c_law_words T) ((callR30 _).mono (by decide)) tk0 (va_cons (ve_var (by decide) (pv 1)) (va_cons ve_int va_nil))) fun t h => ps_set (i := 3) sc.nd rfl (Or.inr rfl) h)
      (vb_cons (vs_asg fE (ve_tup (va_cons (ve_call (c_law_pick T) ((callR30 _).mono (by decide)) tk0 (va_cons (ve_var (by decide) (pv 1)) (va_cons (ve_lst (va_cons (ve_get (hu_of (callR30 _)) (vq_val (ve_var (by decide) (pv 3))) (vq_val ve_int)) (va_cons (ve_get (hu_of (callR30 _)) (vq_val (ve_var (by decide) (pv 3))) (vq_val ve_int)) (va_cons ve_str va_nil)))) va_nil))) (va_cons (ve_call (c_law_pick T) ((callR30 _).mono (by decide)) tk0 (va_cons (ve_var (by decide) (pv 1)) (va_cons (ve_lst (va_cons (ve_get (hu_of (callR30 _)) (vq_val (ve_var (by decide) (pv 3))) (vq_val ve_int)) (va_cons (ve_get (hu_of (callR30 _)) (vq_val (ve_var (by decide) (pv 3))) (vq_val ve_int)) (va_cons (ve_get (hu_of (callR30 _)) (vq_val (ve_var (by decide) (pv 3))) (vq_val ve_int)) (va_cons ve_str va_nil))))) va_nil))) va_nil))) (vg_tup (n := 2) rfl (vgs_cons (vg_name (by decide) (pg_name (i := 4) sc.nd rfl (Or.inr rfl))) (vgs_cons (vg_name (by decide) (pg_name (i := 5) sc.nd rfl (Or.inr rfl))) vgs_nil))))
      (vb_cons (vs_set (i := 6) fE (by decide) (ve_call (c_law_pick T) ((callR30 _).mono (by decide)) tk0 (va_cons (ve_var (by decide) (pv 1)) (va_cons (ve_lst (va_cons (ve_sl (vq_val (ve_var (by decide) (pv 3))) (vo_some (vq_val ve_int)) (vo_some (vq_val ve_int))) (va_cons (ve_sl (vq_val (ve_var (by decide) (pv 3))) (vo_some (vq_val ve_int)) (vo_some (vq_val ve_int))) (va_cons (ve_lst va_nil) (va_cons (ve_sl (vq_val (ve_var (by decide) (pv 3))) (vo_some (vq_val ve_int)) (vo_some (vq_val ve_int))) (va_cons (ve_rep (va_cons (ve_get (hu_of (callR30 _)) (vq_val (ve_var (by decide) (pv 3))) (vq_val ve_int)) va_nil)) (va_cons (ve_lst (va_cons ve_int va_nil)) va_nil))))))) va_nil))) fun t h => ps_set (i := 6) sc.nd rfl (Or.inr rfl) h)
      (vb_cons (vs_set (i := 7) fE (by decide) (lamL T TO TB (scope := lsc_3) (LamX.lamS_by (by decide +kernel)) rfl (fun _ _ _ _ _ => rfl) (fun A outer s1 H1 Ec f1 c1 hrL => (ve_makeK (mk_Rule_5_ T) (hrL.mono (by decide)) tk_lam (by rfl) (g_Rule T) (va_cons (ve_var (by decide) (pv 4)) (va_cons (ve_var (by decide) (pv 4)) (va_cons (ve_lc (own := [("_law_column", 13)]) rfl sc.nd (vi_any (ve_var (by decide) (pv 6))) (blkOk_by (own := [("_law_column", 13)]) (N := ["_law_script", "_law_pen_here", "_law_turn", "_law_words_here", "_law_table", "_law_other", "_law_columns", "_law_due", "_law_pairs", "_law_lets", "_law_more", "_law_number", "_law_k", "_law_column"]) (sc := lsc_3) (by decide +kernel)) (fun _ _ _ _ _ => (vg_name (by decide) (pg_name (i := 13) sc.nd rfl (Or.inl rfl)))) (fun _ _ _ _ _ => vts_nil) (fun _ _ _ _ _ => (ve_tup (va_cons (ve_var (by decide) (pv 13)) (va_cons (ve_var (by decide) (pv 13)) va_nil))))) (va_cons ve_int (va_cons ve_int va_nil))))) vk_nil))) fun t h => ps_set (i := 7) sc.nd rfl (Or.inl rfl) h)
      (vb_cons (vs_if fE (vt_cmpV (op_neO (t := [("Rule", F_Rule_eq)]) (ts := Oh.tys) (k := 2) ⟨⟨cls_Rule T, ⟨_, meth_Rule_eq T, (v_Rule_eq T).mono (by decide)⟩, ne_Rule T, (cc_Rule T).2⟩, trivial⟩ ⟨sub_Rule T, trivial⟩ ((callR30 _).mono (by decide))) (lamL T TO TB (scope := lsc_4) (LamX.lamS_by (by decide +kernel)) rfl (fun _ _ _ _ _ => rfl) (fun A outer s1 H1 Ec f1 c1 hrL => (ve_call (c_law_keyed T) (hrL.mono (by decide)) tk_lam (va_cons (ve_var (by decide) (pv 4)) (va_cons (ve_var (by decide) (pv 6)) va_nil))))) (ve_var (by decide) (pv 7)) (nomark _)) (vb_one (vs_ret fE ve_bl)) vb_nil)
      (vb_cons (vs_set (i := 8) fE (by decide) (ve_lc (own := [("_law_k", 12)]) rfl sc.nd (vi_range1 (by rfl) (f_range T) (va_cons (ve_call (c_law_draw T) ((callR30 _).mono (by decide)) tk0 (va_cons (ve_var (by decide) (pv 1)) (va_cons ve_int va_nil))) va_nil)) (blkOk_by (own := [("_law_k", 12)]) (N := ["_law_script", "_law_pen_here", "_law_turn", "_law_words_here", "_law_table", "_law_other", "_law_columns", "_law_due", "_law_pairs", "_law_lets", "_law_more", "_law_number", "_law_k", "_law_column"]) (sc := defScope s_law) (by decide +kernel)) (fun _ _ _ _ _ => (vg_name (by decide) (pg_name (i := 12) sc.nd rfl (Or.inl rfl)))) (fun _ _ _ _ _ => vts_nil) (fun _ _ _ _ _ => (ve_tup (va_cons (ve_get (hu_of (callR30 _)) (vq_val (ve_var (by decide) (pv 3))) (vq_val (ve_add (vq_val ve_int) (vq_val (ve_var (by decide) (pv 12)))))) (va_cons (ve_get (hu_of (callR30 _)) (vq_val (ve_var (by decide) (pv 3))) (vq_val (ve_add (vq_val ve_int) (vq_val (ve_var (by decide) (pv 12)))))) va_nil))))) fun t h => ps_set (i := 8) sc.nd rfl (Or.inr rfl) h)
      (vb_cons (vs_asg fE (ve_lc (own := [("_law_k", 12)]) rfl sc.nd (vi_range1 (by rfl) (f_range T) (va_cons ve_int va_nil)) (blkOk_by (own := [("_law_k", 12)]) (N := ["_law_script", "_law_pen_here", "_law_turn", "_law_words_here", "_law_table", "_law_other", "_law_columns", "_law_due", "_law_pairs", "_law_lets", "_law_more", "_law_number", "_law_k", "_law_column"]) (sc := defScope s_law) (by decide +kernel)) (fun _ _ _ _ _ => (vg_name (by decide) (pg_name (i := 12) sc.nd rfl (Or.inl rfl)))) (fun _ _ _ _ _ => vts_nil) (fun _ _ _ _ _ => (ve_call (c_law_pick T) ((callR30 _).mono (by decide)) tk0 (va_cons (ve_var (by decide) (pv 1)) (va_cons (ve_lst (va_cons ve_non (va_cons ve_dnew (va_cons (ve_disp (vps_cons (ve_get (hu_of (callR30 _)) (vq_val (ve_var (by decide) (pv 3))) (vq_val ve_int)) (ve_sl (vq_val (ve_var (by decide) (pv 3))) vo_none (vo_some (vq_val ve_int))) vps_nil)) (va_cons (ve_disp (vps_cons (ve_get (hu_of (callR30 _)) (vq_val (ve_var (by decide) (pv 3))) (vq_val ve_int)) (ve_sl (vq_val (ve_var (by decide) (pv 3))) vo_none (vo_some (vq_val ve_int))) vps_nil)) va_nil))))) va_nil))))) (vg_lst (n := 2) rfl (vgs_cons (vg_name (by decide) (pg_name (i := 9) sc.nd rfl (Or.inr rfl))) (vgs_cons (vg_name (by decide) (pg_name (i := 10) sc.nd rfl (Or.inr rfl))) vgs_nil))))
      (vb_cons (vs_set (i := 11) fE (by decide) (ve_call (c_law_pick T) ((callR30 _).mono (by decide)) tk0 (va_cons (ve_var (by decide) (pv 1)) (va_cons (ve_lst (va_cons ve_int (va_cons ve_int (va_cons ve_int (va_cons ve_int (va_cons ve_int (va_cons ve_non (va_cons ve_bl va_nil)))))))) va_nil))) fun t h => ps_set (i := 11) sc.nd rfl (Or.inr rfl) h)
      (vb_cons (vs_set (i := 7) fE (by decide) (lamL T TO TB (scope := lsc_8) (LamX.lamS_by (by decide +kernel)) rfl (fun _ _ _ _ _ => rfl) (fun A outer s1 H1 Ec f1 c1 hrL => (ve_makeK (mk_Rule_5_where T) (hrL.mono (by decide)) tk_lam (by rfl) (g_Rule T) (va_cons (ve_var (by decide) (pv 4)) (va_cons (ve_var (by decide) (pv 5)) (va_cons (ve_var (by decide) (pv 8)) (va_cons ve_int (va_cons ve_non va_nil))))) (vk_cons (ve_var (by decide) (pv 9)) vk_nil)))) fun t h => ps_set (i := 7) sc.nd rfl (Or.inl rfl) h)
      (vb_cons (vs_if fE (vt_cmpV (op_neO (t := [("Rule", F_Rule_eq)]) (ts := Oh.tys) (k := 2) ⟨⟨cls_Rule T, ⟨_, meth_Rule_eq T, (v_Rule_eq T).mono (by decide)⟩, ne_Rule T, (cc_Rule T).2⟩, trivial⟩ ⟨sub_Rule T, trivial⟩ ((callR30 _).mono (by decide))) (lamL T TO TB (scope := lsc_9) (LamX.lamS_by (by decide +kernel)) rfl (fun _ _ _ _ _ => rfl) (fun A outer s1 H1 Ec f1 c1 hrL => (ve_stat (so_Rule_reference_where T) (cr_Rule T) (hrL.mono (by decide)) tk_lam (by rfl) (g_Rule T) (va_cons (ve_var (by decide) (pv 4)) (va_cons (ve_var (by decide) (pv 5)) (va_cons (ve_callTy call_tuple_of by_tuple (by rfl) (f_tuple T) (by decide +kernel) (vaq_cons (vq_val (ve_var (by decide) (pv 8))) vaq_nil)) va_nil))) (vk_cons (ve_var (by decide) (pv 9)) vk_nil)))) (ve_var (by decide) (pv 7)) (nomark _)) (vb_one (vs_ret fE ve_bl)) vb_nil)
      (vb_cons (vs_set (i := 7) fE (by decide) (lamL T TO TB (scope := lsc_10) (LamX.lamS_by (by decide +kernel)) rfl (fun _ _ _ _ _ => rfl) (fun A outer s1 H1 Ec f1 c1 hrL => (ve_makeK (mk_Rule_5_where_other_where T) (hrL.mono (by decide)) tk_lam (by rfl) (g_Rule T) (va_cons (ve_var (by decide) (pv 4)) (va_cons (ve_var (by decide) (pv 5)) (va_cons (ve_var (by decide) (pv 8)) (va_cons ve_int (va_cons (ve_var (by decide) (pv 11)) va_nil))))) (vk_cons (ve_var (by decide) (pv 9)) (vk_cons (ve_var (by decide) (pv 10)) vk_nil))))) fun t h => ps_set (i := 7) sc.nd rfl (Or.inl rfl) h)
      (vb_cons (vs_if fE (vt_cmpV (op_neO (t := [("Rule", F_Rule_eq)]) (ts := Oh.tys) (k := 2) ⟨⟨cls_Rule T, ⟨_, meth_Rule_eq T, (v_Rule_eq T).mono (by decide)⟩, ne_Rule T, (cc_Rule T).2⟩, trivial⟩ ⟨sub_Rule T, trivial⟩ ((callR30 _).mono (by decide))) (lamL T TO TB (scope := lsc_11) (LamX.lamS_by (by decide +kernel)) rfl (fun _ _ _ _ _ => rfl) (fun A outer s1 H1 Ec f1 c1 hrL => (ve_stat (so_Rule_at_most_where_other_where T) (cr_Rule T) (hrL.mono (by decide)) tk_lam (by rfl) (g_Rule T) (va_cons (ve_var (by decide) (pv 4)) (va_cons (ve_var (by decide) (pv 5)) (va_cons (ve_var (by decide) (pv 8)) (va_cons (ve_var (by decide) (pv 11)) va_nil)))) (vk_cons (ve_var (by decide) (pv 9)) (vk_cons (ve_var (by decide) (pv 10)) vk_nil))))) (ve_var (by decide) (pv 7)) (nomark _)) (vb_one (vs_ret fE ve_bl)) vb_nil)
      (vb_cons (vs_set (i := 7) fE (by decide) (lamL T TO TB (scope := lsc_12) (LamX.lamS_by (by decide +kernel)) rfl (fun _ _ _ _ _ => rfl) (fun A outer s1 H1 Ec f1 c1 hrL => (ve_makeK (mk_Rule_5_where_other_where T) (hrL.mono (by decide)) tk_lam (by rfl) (g_Rule T) (va_cons (ve_var (by decide) (pv 4)) (va_cons (ve_var (by decide) (pv 5)) (va_cons (ve_var (by decide) (pv 8)) (va_cons (ve_var (by decide) (pv 11)) (va_cons (ve_var (by decide) (pv 11)) va_nil))))) (vk_cons (ve_var (by decide) (pv 9)) (vk_cons (ve_var (by decide) (pv 10)) vk_nil))))) fun t h => ps_set (i := 7) sc.nd rfl (Or.inl rfl) h)
      (vb_cons (vs_if fE (vt_cmpV (op_neO (t := [("Rule", F_Rule_eq)]) (ts := Oh.tys) (k := 2) ⟨⟨cls_Rule T, ⟨_, meth_Rule_eq T, (v_Rule_eq T).mono (by decide)⟩, ne_Rule T, (cc_Rule T).2⟩, trivial⟩ ⟨sub_Rule T, trivial⟩ ((callR30 _).mono (by decide))) (lamL T TO TB (scope := lsc_13) (LamX.lamS_by (by decide +kernel)) rfl (fun _ _ _ _ _ => rfl) (fun A outer s1 H1 Ec f1 c1 hrL => (ve_stat (so_Rule_exactly_other_where_where T) (cr_Rule T) (hrL.mono (by decide)) tk_lam (by rfl) (g_Rule T) (va_cons (ve_var (by decide) (pv 4)) (va_cons (ve_var (by decide) (pv 5)) (va_cons (ve_var (by decide) (pv 8)) (va_cons (ve_var (by decide) (pv 11)) va_nil)))) (vk_cons (ve_var (by decide) (pv 10)) (vk_cons (ve_var (by decide) (pv 9)) vk_nil))))) (ve_var (by decide) (pv 7)) (nomark _)) (vb_one (vs_ret fE ve_bl)) vb_nil)
      (vb_cons (vs_set (i := 7) fE (by decide) (lamL T TO TB (scope := lsc_14) (LamX.lamS_by (by decide +kernel)) rfl (fun _ _ _ _ _ => rfl) (fun A outer s1 H1 Ec f1 c1 hrL => (ve_makeK (mk_Rule_5_where_other_where T) (hrL.mono (by decide)) tk_lam (by rfl) (g_Rule T) (va_cons (ve_var (by decide) (pv 4)) (va_cons (ve_var (by decide) (pv 5)) (va_cons (ve_var (by decide) (pv 8)) (va_cons ve_int (va_cons ve_int va_nil))))) (vk_cons (ve_var (by decide) (pv 9)) (vk_cons (ve_var (by decide) (pv 10)) vk_nil))))) fun t h => ps_set (i := 7) sc.nd rfl (Or.inl rfl) h)
      (vb_one (vs_if fE (vt_cmpV (op_neO (t := [("Rule", F_Rule_eq)]) (ts := Oh.tys) (k := 2) ⟨⟨cls_Rule T, ⟨_, meth_Rule_eq T, (v_Rule_eq T).mono (by decide)⟩, ne_Rule T, (cc_Rule T).2⟩, trivial⟩ ⟨sub_Rule T, trivial⟩ ((callR30 _).mono (by decide))) (lamL T TO TB (scope := lsc_15) (LamX.lamS_by (by decide +kernel)) rfl (fun _ _ _ _ _ => rfl) (fun A outer s1 H1 Ec f1 c1 hrL => (ve_stat (so_Rule_none_where_other_where T) (cr_Rule T) (hrL.mono (by decide)) tk_lam (by rfl) (g_Rule T) (va_cons (ve_var (by decide) (pv 4)) (va_cons (ve_var (by decide) (pv 5)) (va_cons (ve_var (by decide) (pv 8)) va_nil))) (vk_cons (ve_var (by decide) (pv 9)) (vk_cons (ve_var (by decide) (pv 10)) vk_nil))))) (ve_var (by decide) (pv 7)) (nomark _)) (vb_one (vs_ret fE ve_bl)) vb_nil))))))))))))))))))
      (vb_one (vs_ret fE ve_bl))))
end
end Ow
set_option Elab.async false
set_option linter.all false
set_option maxRecDepth 100000
set_option maxHeartbeats 0
open PySem PySem.W PySem.Calls PyProof.Rows
theorem PySem.Challenge.cw_onlylooks_k10_static_methods_holds : PySem.Challenge.rw_onlylooks_k10_static_methods.Holds := by
  w_on; o_law
  refine HandSHeadRun.head_any (r := OpenLaw.row PySem.Challenge.rw_onlylooks_k10_static_methods) (q := view (OpenLaw.row PySem.Challenge.rw_onlylooks_k10_static_methods).prog [42]) (H := Ow.hk) (ob := Ow.ob) (M := 60000) (loose := Ow.nms) (d := HandSHeadRun.topDef (OpenLaw.row PySem.Challenge.rw_onlylooks_k10_static_methods).prog 42) (kwd := []) Ow.ob_eq
    (by kernel_rfl) (fun s => by kernel_rfl) Ow.run (by kernel_rfl) (by kernel_rfl) (by kernel_rfl) (by rfl) (by first | assumption | decide +kernel) (by decide +kernel) ⟨rfl, rfl, rfl, rfl, rfl, by decide +kernel⟩ ?hw ?hc
  case hw => w_witness2
  case hc =>
    refine Vl.walk_ofT (l := PySem.Challenge.rw_onlylooks_k10_static_methods) (n := 63) (x := "_law_script") (tb := Ow.tb) rfl (by decide) (by kernel_rfl) ?F
    intro w mg f h Y G hmg0
    obtain ⟨K, KX, c, TF⟩ := Y
    have T : Ow.Tx K mg := ⟨⟨h, KX, G⟩, c⟩
    have hmg : mg ("law" : PySem.Str) = some (.ref f) := by
      have e : (HandSHeadRun.topDef (OpenLaw.row PySem.Challenge.rw_onlylooks_k10_static_methods).prog 42).name = ("law" : PySem.Str) := by kernel_rfl
      rw [← e]
      exact hmg0
    have e := hmg.symm.trans (Ow.g_law T)
    cases e
    obtain ⟨fd, F⟩ := Ow.D_law T
    refine ⟨K, fd, Vl.spLg K Lw.m_law 14, KX, TF, fun a o e => Ow.Tx.noL T a o e, Ow.b_law F, fun H a ns hl hO hs => ?_, fun base _ _ TO => Ow.ok_law (base := base) T TO F⟩
    obtain ⟨g, s0, r⟩ := Vl.law_entry (u := ()) hO hs (fun a o e => Ow.Tx.noL T a o e) (fun I M h => h)
    exact ⟨a, ns, (none, ()), g, [0], rfl, s0, r, Lw.law_says ns hl, fun _ => rfl⟩
