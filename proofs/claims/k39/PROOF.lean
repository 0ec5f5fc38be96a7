import PyProof.Rows.All
import Wide.All
import OpenK.AllK
import Wide.FinOn
import KE.KExcInit
import KE.KIsAll
import HandS.ForMost
import HandS.ExcInit
import HandS.ExcValue
import HandS.ExcField
import HandS.ExcIs
import HandS.IsInst
import HandS.Defaults
import HandS.MakeKwOnly
import HandS.More
import HandS.HeadHook1
import HandS.HeadHook2
import HandS.DeepEq
import PySem.Challenge.RW_packedbases_k39_errors
import HandS.Head0
import HandS.Head1
import HandS.Head2
import HandS.HeadEnd
set_option Elab.async false
set_option linter.all false
set_option maxRecDepth 100000
set_option maxHeartbeats 4000000
/-! Own exceptions under Exception with one field, as values: made by position and by name, their field read, isinstance. -/
namespace EX
open PySem PySem.Spec PyProof.Rows L2
/-- the mro behind the own classes -/
abbrev eT : List Value := [.type "Exception", .type "BaseException", .type "object"]
def xcB (K : PySem.W.Frag) (C : Addr) : Bool :=
  PySem.W.excInitIn K C eT "Exception.__new__" && (PySem.W.excOver K C eT && (He.eqO (PySem.W.findIn K (.ref C) "__setattr__") (some (some (.builtin "object.__setattr__"))) &&
    (xfB K C && (He.eqO (PySem.W.findIn K (.ref C) "__class__") (some (some (.builtin "object.__class__"))) && (decide (PySem.W.mroIn K C (.type "object") = some true) && PySem.W.keepIn K (.ref C))))))
structure XC (K : PySem.W.Frag) (C : Addr) : Prop where
  inn : PySem.W.excInitIn K C eT "Exception.__new__" = true
  ovr : PySem.W.excOver K C eT = true
  sa : PySem.W.findIn K (.ref C) "__setattr__" = some (some (.builtin "object.__setattr__"))
  xf : XfC K C
  cl : PySem.W.findIn K (.ref C) "__class__" = some (some (.builtin "object.__class__"))
  mo : PySem.W.mroIn K C (.type "object") = some true
  kC : PySem.W.keepIn K (.ref C) = true
theorem xcB_ok {K : PySem.W.Frag} {C : Addr} (h : xcB K C = true) : XC K C := by
  obtain ⟨h1, h⟩ := He.ba h
  obtain ⟨h2, h⟩ := He.ba h
  obtain ⟨h3, h⟩ := He.ba h
  obtain ⟨h4, h⟩ := He.ba h
  obtain ⟨h5, h⟩ := He.ba h
  obtain ⟨h6, h7⟩ := He.ba h
  exact ⟨h1, h2, He.eqO_ok h3, xfB_ok h4, He.eqO_ok h5, of_decide_eq_true h6, h7⟩
/-- a name that the class does not bear -/
structure NoF (K : PySem.W.Frag) (C : Addr) (f : Str) : Prop where
  no : PySem.W.findIn K (.ref C) f = some none
  tk : PySem.W.takerIn K C f = some none
def noB (K : PySem.W.Frag) (C : Addr) (f : Str) : Bool := He.eqO (PySem.W.findIn K (.ref C) f) (some none) && decide (PySem.W.takerIn K C f = some none)
theorem noB_ok {K : PySem.W.Frag} {C : Addr} {f : Str} (h : noB K C f = true) : NoF K C f := by
  obtain ⟨h1, h2⟩ := He.ba h
  exact ⟨He.eqO_ok h1, of_decide_eq_true h2⟩
section
variable {X : Cx} {pins : List (Addr × Obj)} {σ : L2.St} {H : Hp} {s : Shared} {a C dx : Addr} {f : Str} {y : V} {u : Value} {fs : List (Str × V)} {E : Value → Shared → Prop} {A : Around}
/-- what is tracked behind the first store into an exception: its dict is new -/
theorem ost_inv {hp h' : Heap} {g : Array GenState} {d : Drawn} {t tk : Nat} {os : OsState} {t1 : Addr} (I : Inv X pins σ H ⟨hp, g, d, t, os⟩) (e : H a = some (exo a C none)) (ry : L2.RelV y u)
    (k : ∀ b o, b ≠ a → hp.get? b = some o → h'.get? b = some o) (dn : hp.objs.size ≤ dx) (dne : dx ≠ a)
    (hx : h'.get? a = some { cls := .ref C, dict := some dx, data := .fields #[.ref t1, .none, .none, .none, .bool false, .none] })
    (hn : h'.Ns1 dx (fun z => if z = f then some u else none)) :
    Inv X pins σ (upd (upd H dx (exd dx [(f, y)])) a (exo a C (some dx))) ⟨h', g, d, tk, os⟩ := by
  have fresh : H dx = none := I.hok.fresh dn
  have off : ∀ {b : Addr}, H b = none → b ≠ a := fun n z => by rw [z, e] at n; cases n
  have offd : ∀ {b : Addr} {o : Obj}, hp.get? b = some o → b ≠ dx := fun q z => by
    have w := Heap.lt_size q
    rw [z] at w
    exact absurd dn (Nat.not_le.mpr w)
  have keepS : ∀ {b : Addr} {o : HO}, o ≠ exo a C none → H b = some o → (upd (upd H dx (exd dx [(f, y)])) a (exo a C (some dx))) b = some o := fun {b o} ne q => by
    rw [upd_ne (fun z => ne (by rw [z, e] at q; exact (Option.some.inj q).symm)), upd_ne (ne_of_none q fresh)]
    exact q
  refine I.un (t' := tk) ⟨fun b o q n _ _ => k b o (off n) q, fun b o q n _ _ => ⟨o.slots, k b o (off n) q⟩, fun b o q n _ => ?_, fun b o q _ => ?_, fun b xs q => keepS (Ne.symm exo_tup) q, fun b o v q => keepS (Ne.symm exo_frz) q, fun b ps q => ⟨#[], ?_⟩⟩ fun b o q => ?_
  · rw [upd_ne (off n), upd_ne (offd q)]
    exact n
  · by_cases hb : b = a
    · exact ⟨_, by rw [hb]; exact hx⟩
    · exact ⟨o, k b o hb q⟩
  · rw [keepS (Ne.symm exo_tbl) q, Array.append_empty]
  · by_cases hb : b = a
    · subst hb
      rw [upd_same] at q
      cases q
      exact exo_ok hx
    · rw [upd_ne hb] at q
      by_cases hd : b = dx
      · subst hd
        rw [upd_same] at q
        cases q
        exact exd_ok hn (relO_put (fs := []) ry fun _ => True.intro)
      · rw [upd_ne hd] at q
        refine (I.hok b o q).stay (fun c v hc z => k c v ?_ z) (fun c hc => keepS (Ne.symm exo_own) hc) fun c xs hc => keepS (Ne.symm exo_tup) hc
        rcases hc with rfl | hc
        · exact hb
        · exact at_ne e hc exo_own
theorem ost0 {Q : Unit → Shared → Prop} (T : XC X.K C) (N : NoF X.K C f) (I : Inv X pins σ H s) (e : H a = some (exo a C none)) (ry : L2.RelV y u)
    (h : ∀ dx s', H dx = none → dx ≠ a → Inv X pins σ (upd (upd H dx (exd dx [(f, y)])) a (exo a C (some dx))) s' → Q () s') : wpAny (model X.prog X.w) A (setAttr (.ref a) f u) Q E s := by
  obtain ⟨t1, ho⟩ := exo_at I.hok e
  obtain ⟨hp, g, d, t, os⟩ := s
  obtain ⟨cd, hcd, hh⟩ := PySem.W.any_some T.xf.hdC
  have J : PySem.W.InstAt hp a { cls := .ref C, dict := none, data := .fields #[.ref t1, .none, .none, .none, .bool false, .none] } C none := ⟨ho, rfl, rfl, trivial⟩
  have as : a < hp.objs.size := Heap.lt_size ho
  refine PySem.W.set_plain I.kIn J T.sa ?_
  refine PySem.W.osa_openX (s := ⟨hp, g, d, t + 1, os⟩) PySem.F.store_Exception I.kIn J T.ovr N.tk (fun b => ?_)
  refine wpAny_bind (wpAny_pure (wpAny_bind (PySem.W.instanceDict_exc (s := ⟨hp, g, d, t + 1, os⟩) ho (PySem.W.looks_clsIn I.kIn hcd) hh ?_)))
  have hx1 : (hp.push (PySem.W.dictOf [] 0)).get? a = some { cls := .ref C, dict := none, data := .fields #[.ref t1, .none, .none, .none, .bool false, .none] } := Heap.get?_push_of_some _ ho
  refine PySem.HandSPX.store_in_new (hp := (hp.push (PySem.W.dictOf [] 0)).update a fun o => { o with dict := some hp.objs.size }) ⟨_, #[], _, (Heap.get?_update_ne _ _ _ _ (Nat.ne_of_gt as)).trans (Heap.get?_push_at rfl rfl), rfl, fun q hq => absurd hq (by simp), fun _ => rfl⟩ fun h' tk' hn sb => ?_
  refine h hp.objs.size _ (I.hok.fresh (Nat.le_refl _)) (Nat.ne_of_gt as) (ost_inv (t1 := t1) I e ry (fun b o hb q => ?_) (Nat.le_refl _) (Nat.ne_of_gt as) ?_ hn)
  · exact (sb.2 b (Nat.ne_of_lt (Heap.lt_size q))).trans ((Heap.get?_update_ne _ _ _ _ hb).trans (Heap.get?_push_of_some _ q))
  · exact (sb.2 a (Nat.ne_of_lt as)).trans (Heap.get?_update_self _ hx1 rfl)
/-- self.f = e, e a first field: the reading -/
def tFst (K : PySem.W.Frag) (f : Str) (to te : TE) : TS := fun D σ H => te σ H fun y H1 => to σ H1 fun x H2 => ∃ a C : Addr, x = .ref a ∧ XC K C ∧ NoF K C f ∧ H2 a = some (exo a C none) ∧
  ∀ dx, H2 dx = none → dx ≠ a → D.nx σ (upd (upd H2 dx (exd dx [(f, y)])) a (exo a C (some dx)))
theorem ps_fst {o e : Expr} {to te : TE} {p' pos : Pos} (ho : PE X o to) (he : PE X e te) (hs : swapsWith e (some (.Attribute o f p')) pos.line X.env = pure false := by rfl) : PS X (.Assign [.Attribute o f p'] e pos) (tFst X.K f to te) := by
  refine ⟨fun pins s σ H D I h => ?_⟩
  refine plainObj_wpAny_Assign_Attribute (thn (he.run pins s σ H _ I h) fun v s1 ⟨y, H1, I1, r1, q1⟩ => thn (ho.run pins s1 σ H1 _ I1 q1) fun u s2 ⟨x, H2, I2, r2, a, C, ex, T, N, ea, q⟩ => ?_) hs
  subst ex
  obtain rfl : u = Value.ref a := r2
  exact ost0 T N I2 ea r1 fun dx s' n ne J => ⟨σ, _, J, q dx n ne⟩
end
end EX

set_option Elab.async false
set_option linter.all false
set_option maxRecDepth 100000
set_option maxHeartbeats 4000000
namespace PySem
namespace EXL
open PySem.HandSPX (excO)
open PySem.W (Looks)
section
variable {M : Model} {A : Around} {E : Value → Shared → Prop} {h : Heap} {g : Array GenState} {d : Drawn} {t : Nat} {os : OsState}
variable {nm q : Str} {C N : Addr} {bs bm bmB : List Value} {hdct : Bool} {sn : List Str} {sub : List Value} {ab : Bool} {col : Option Bool} {dd : Option Addr} {k0 k1 k2 k3 k5 : Option Value} {B newId initId : String}
/-- type.__call__'s look at the maker, keywords or none -/
theorem look_new (F : ExcBaseFacts B newId initId bmB) (hT : ∀ Y : String, bm.contains (.type Y) = bmB.contains (.type Y)) {rest : List Value} {kw : List (Str × Value)} {Q : Unit → Shared → Prop}
    (hC : h.get? C = some (excClassObj nm q C N bs bm hdct sn sub ab col dd k0 k1 k2 k3 k5 newId)) (hq : Q () ⟨h, g, d, t, os⟩) : wpAny M A (checkBuiltinCall newId ⟨.ref C :: rest, kw⟩) Q E ⟨h, g, d, t, os⟩ := by
  have has : (Value.ref C :: bm).contains (.type B) = true := by rw [List.contains_cons, hT, F.hasB, Bool.or_true]
  have ns := F.noStar
  simp only [checkBuiltinCall, F.newKind, F.newSplit, F.newRow]
  repeat (first | refine wpAny_loadPart_at hC ?_ | (refine wpAny_isSubtype_exc hC ?_; rw [has]) | refine wpAny_staticBase_exc hC ?_ | refine wpAny_madeBy_exc hC ?_ | simp only [bne_self_eq_false, Bool.false_eq_true, if_false] | wp_step)
  exact hq
end
section
variable {prog : Program} {w : World} {A : Around} {E : Value → Shared → Prop} {R : Result → Shared → Prop} {h : Heap} {g : Array GenState} {d : Drawn} {t : Nat} {os : OsState}
variable {nm q : Str} {C N : Addr} {bs bm bmB : List Value} {hdct : Bool} {sn : List Str} {sub : List Value} {ab : Bool} {col : Option Bool} {dd : Option Addr} {k0 k1 k2 k3 k5 : Option Value} {B newId initId : String}
/-- the maker lays the arguments' tuple and the exception; keywords are passed over -/
theorem run_new (F : ExcBaseFacts B newId initId bmB) (hT : ∀ Y : String, bm.contains (.type Y) = bmB.contains (.type Y)) {rest : List Value} {kw : List (Str × Value)}
    (hC : h.get? C = some (excClassObj nm q C N bs bm hdct sn sub ab col dd k0 k1 k2 k3 k5 newId)) (hz : rest.length ≤ sizeLine)
    (hq : R (.ok (.ret (.ref (h.objs.size + 1)))) ⟨(h.push (PySem.W.kdv_tup rest)).push (excO C h.objs.size), g, d, t, os⟩) :
    codeAny (model prog w) A (.builtin newId ⟨.ref C :: rest, kw⟩) R ⟨h, g, d, t, os⟩ := by
  have ends := F.ends
  have c1 : (Value.ref C :: bm).contains (.type B) = true := by rw [List.contains_cons, hT, F.hasB, Bool.or_true]
  have c2 : (Value.ref C :: bm).contains (.type "AttributeError") = false := by rw [List.contains_cons, hT, F.noAttr]; rfl
  have c3 : (Value.ref C :: bm).contains (.type "NameError") = false := by rw [List.contains_cons, hT, F.noName]; rfl
  refine codeAny_builtinAt F.entry ?_
  unfold Builtin.«BaseException.__new__»
  refine wpAt_bind ?_
  show wpAt _ _ _ (stack >>= _) _ _ _
  refine wpAt_bind (wpAt_stack fun p below => wpAt_of_wpAny ?_)
  wp_walk
  refine wpAt_of_wpAny ?_
  rw [F.owner]
  repeat (first | with_reducible refine wpAny_madeHere_exc F.canon hC ?_ | with_reducible refine wpAny_loadPart_at hC ?_ | (with_reducible refine wpAny_isSubtype_exc hC ?_; first | rw [c1] | rw [c2] | rw [c3]) | wp_step)
  show R _ _
  rw [Heap.size_push]
  exact hq
/-- the class called: the exception is made, then its own __init__ runs -/
theorem run_type (F : ExcBaseFacts B newId initId bmB) (hT : ∀ Y : String, bm.contains (.type Y) = bmB.contains (.type Y)) {rest : List Value} {kw : List (Str × Value)} {fI : Addr} {Q : Fin → Shared → Prop}
    (hC : h.get? C = some (excClassObj nm q C N bs bm hdct sn sub ab col dd k0 k1 k2 k3 k5 newId)) (hi : Looks (model prog w) h (typeLookup (.ref C) "__init__") (some (.ref fI)))
    (hb : ∀ self, Looks (model prog w) h (bindSpecial (.ref fI) self) (.ref fI, [self])) (hz : rest.length ≤ sizeLine)
    (hq : codeAny (model prog w) A (.call (.ref fI) ⟨.ref (h.objs.size + 1) :: rest, kw⟩) (fun r s' => match r with | .ok (.ret v) => v = .none ∧ Q (.done (.ret (.ref (h.objs.size + 1)))) s' | .ok _ => False | .error e => E e s')
      ⟨(h.push (PySem.W.kdv_tup rest)).push (excO C h.objs.size), g, d, t, os⟩) :
    wpAny (model prog w) A (Builtin.«type.__call__» ⟨.ref C :: rest, kw⟩) Q E ⟨h, g, d, t, os⟩ := by
  repeat (first | with_reducible refine wpAny_loadPart_at hC ?_ | with_reducible refine wpAny_madeBy_exc hC ?_ | wp_step)
  refine codeAny_call_builtin_code (Code.quiet_builtin _ F.quiet) (look_new F hT hC (run_new F hT hC hz ?_))
  show wpAny _ _ _ _ _ _
  have k : ∀ b o, h.get? b = some o → ((h.push (PySem.W.kdv_tup rest)).push (excO C h.objs.size)).get? b = some o := fun b o e => Heap.get?_push_of_some _ (Heap.get?_push_of_some _ e)
  have hC1 := k _ _ hC
  have he : ((h.push (PySem.W.kdv_tup rest)).push (excO C h.objs.size)).get? (h.objs.size + 1) = some (excO C h.objs.size) := by heap_get
  have hcC : (Value.ref C :: bm).contains (.ref C) = true := by simp
  have i1 := hi.keeps k
  have b1 := (hb (.ref (h.objs.size + 1))).keeps k
  unfold isInstance
  repeat (first | with_reducible refine wpAny_loadPart_at he ?_ | (with_reducible refine wpAny_isSubtype_exc hC1 ?_; rw [hcC]) | wp_step)
  show wpAny _ _ (typeLookup (.ref C) _) _ _ _
  refine i1.at (wpAny_holding (wpAny_bind (b1.at (wpAny_bind (wpAny_call (codeAny_mono hq fun r s' z => ?_))))))
  rcases r with e | (v | _ | _ | _) <;> first | exact z | exact z.elim | skip
  obtain ⟨rfl, z⟩ := z
  first
    | exact wpAny_pure (wpAny_pure z)
    | (wp_walk; exact z)
theorem call_type {M : Model} {rest : List Value} {kw : List (Str × Value)} {Q : Unit → Shared → Prop} (hC : h.get? C = some (excClassObj nm q C N bs bm hdct sn sub ab col dd k0 k1 k2 k3 k5 newId))
    (hq : Q () ⟨h, g, d, t, os⟩) : wpAny M A (checkBuiltinCall "type.__call__" ⟨.ref C :: rest, kw⟩) Q E ⟨h, g, d, t, os⟩ := by
  have f3 := tc_sub
  have hT : (⟨h, g, d, t, os⟩ : Shared).TypeIs (.ref C) "type" := ⟨_, hC, rfl⟩
  simp only [checkBuiltinCall, tc_kind, tc_split]
  repeat (any_goals (first | assumption | with_reducible refine wpAny_loadPart_at hC ?_ | with_reducible refine wpAny_onRaise ?_ | with_reducible refine wpAny_map ?_ | wp_step))
theorem call_cls (F : ExcBaseFacts B newId initId bmB) (hT : ∀ Y : String, bm.contains (.type Y) = bmB.contains (.type Y)) {rest : List Value} {kw : List (Str × Value)} {fI : Addr}
    (hC : h.get? C = some (excClassObj nm q C N bs bm hdct sn sub ab col dd k0 k1 k2 k3 k5 newId)) (hi : Looks (model prog w) h (typeLookup (.ref C) "__init__") (some (.ref fI)))
    (hb : ∀ self, Looks (model prog w) h (bindSpecial (.ref fI) self) (.ref fI, [self])) (hz : rest.length ≤ sizeLine)
    (hq : codeAny (model prog w) (A.under (.builtin "type.__call__" ⟨.ref C :: rest, kw⟩)) (.call (.ref fI) ⟨.ref (h.objs.size + 1) :: rest, kw⟩) (PySem.W.InitBack (h.objs.size + 1) R)
      ⟨(h.push (PySem.W.kdv_tup rest)).push (excO C h.objs.size), g, d, t, os⟩) :
    codeAny (model prog w) A (.call (.ref C) ⟨rest, kw⟩) R ⟨h, g, d, t, os⟩ := by
  have f1 := tc_lookup
  have f2 := tc_bind (.ref C)
  have hTy : (⟨h, g, d, t, os⟩ : Shared).TypeIs (.ref C) "type" := ⟨_, hC, rfl⟩
  refine codeAny_of_tree ?_
  show wpAny _ _ (callAny (.ref C) _) _ _ _
  repeat (any_goals (first | assumption | with_reducible refine wpAny_loadPart_at hC ?_ | wp_step))
  refine ⟨rfl, codeAny_call_builtin_at (Code.quiet_builtin _ (by decide +kernel)) entry_typeCall (call_type hC (run_type F hT hC hi hb hz (codeAny_mono hq fun r s' z => ?_)))⟩
  rcases r with e | (v | _ | _ | _) <;> exact z
end
end EXL
end PySem

set_option Elab.async false
set_option linter.all false
set_option maxRecDepth 100000
set_option maxHeartbeats 4000000
namespace EX
open PySem PySem.Spec PyProof.Rows L2
/-- an exception object of the class at C stands at a, with the one field f = y (none: no field, no dict) -/
inductive XAt (H : Hp) (a C : Addr) : Option (Str × V) → Prop where
  | bare (h : H a = some (ExO (.ref C) a)) : XAt H a C none
  | fld {dx : Addr} {f : Str} {y : V} (h : H a = some (exo a C (some dx))) (hd : H dx = some (exd dx [(f, y)])) : XAt H a C (some (f, y))
theorem XAt.same {H H' : Hp} {a C : Addr} {o : Option (Str × V)} (x : XAt H a C o) (s : Same H H') : XAt H' a C o := by
  cases x with
  | bare h => exact .bare (s _ _ h)
  | fld h hd => exact .fld (s _ _ h) (s _ _ hd)
section
variable {X : Cx} {CX : CXT} {k : Nat} {f C : Addr} {fd : FuncData} {ps ks : List Str} {sp : Sp} {E : XK} {x fn : Str} {p pos : Pos} {e : Expr} {es : List Expr} {kws : List Keyword} {t tk : TA}
/-- the def __init__(self, f): self.f = f -/
def spIn (C : Addr) (fn : Str) : Sp := fun vs H Q _ => ∃ (a : Addr) (y : V), vs = [.ref a, y] ∧ H a = some (exo a C none) ∧ ∀ dx, H dx = none → dx ≠ a → Q .non (upd (upd H dx (exd dx [(fn, y)])) a (exo a C (some dx)))
/-- what is known of the class: its facts and its __init__ -/
structure XI (P : Program) (w : World) (K : PySem.W.Frag) (mg : Str → Option Value) (base : Heap) (k : Nat) (x fn : Str) (C f : Addr) : Prop where
  gl : mg x = some (.ref C)
  cls : XC K C
  ini : PySem.W.findIn K (.ref C) "__init__" = some (some (.ref f))
  typ : PySem.W.typeIn K (.ref f) = some (.type "function")
  run : ∃ fd, FnOk P w K mg base CX0 k f fd ["self", fn] (spIn C fn) ∧ (∀ (s : Shared) (u v : Value), BindsTo s fd ⟨[u, v], []⟩ [("self", u), (fn, v)]) ∧ (∀ (s : Shared) (u v : Value), BindsTo s fd ⟨[u], [(fn, v)]⟩ [("self", u), (fn, v)])
theorem run_mk {pins : List (Addr × Obj)} {σ : L2.St} {H : Hp} {s : Shared} {Q : VK} {us : List Value} {kw : List (Str × Value)} {y : V} {v : Value} (T : XI X.prog X.w X.K X.mg X.base k x fn C f) (hr : Room (k + 1) X.A) (I : Inv X pins σ H s) (ry : L2.RelV y v)
    (hk : (us = [v] ∧ kw = []) ∨ (us = [] ∧ kw = [(fn, v)])) (h : ∀ a dx, H a = none → H dx = none → dx ≠ a → Q (.ref a) (upd (upd H dx (exd dx [(fn, y)])) a (exo a C (some dx)))) :
    wpAny (model X.prog X.w) X.A (call (.ref C) us kw) (EP X pins σ Q) X.xe s := by
  obtain ⟨fd, F1, b1, b2⟩ := T.run
  obtain ⟨nm, N, qn, bs, bm, hdct, sn, sub, ab, col, dd, k0, k1, k2, k3, k5, hC, hT⟩ := PySem.W.excInit_of I.kIn T.cls.inn
  obtain ⟨hp, g, dr, tk, os⟩ := s
  have hsz : hp.objs.size ≤ hp.objs.size + 1 := Nat.le_succ _
  have hn : H (hp.objs.size + 1) = none := I.hok.fresh hsz
  have kk : ∀ b o, hp.get? b = some o → ((hp.push (PySem.W.kdv_tup us)).push (PySem.HandSPX.excO C hp.objs.size)).get? b = some o := fun b o e => Heap.get?_push_of_some _ (Heap.get?_push_of_some _ e)
  have hget : ((hp.push (PySem.W.kdv_tup us)).push (PySem.HandSPX.excO C hp.objs.size)).get? (hp.objs.size + 1) = some (PySem.HandSPX.excO C hp.objs.size) := by heap_get
  have I2 : Inv X pins σ (upd H (hp.objs.size + 1) (exo (hp.objs.size + 1) C none)) ⟨(hp.push (PySem.W.kdv_tup us)).push (PySem.HandSPX.excO C hp.objs.size), g, dr, tk, os⟩ :=
    I.laid (t' := tk) (a := hp.objs.size + 1) (o := exo (hp.objs.size + 1) C none) (h' := (hp.push (PySem.W.kdv_tup us)).push (PySem.HandSPX.excO C hp.objs.size)) kk hsz (exo_ok hget)
  have hz : us.length ≤ sizeLine := by
    rw [sizeLine_eq]
    rcases hk with ⟨rfl, _⟩ | ⟨rfl, _⟩
    · exact (by decide : 1 ≤ 16777216)
    · exact Nat.zero_le _
  have bd : ∀ s', BindsTo s' fd ⟨Value.ref (hp.objs.size + 1) :: us, kw⟩ ((["self", fn] : List Str).zip [Value.ref (hp.objs.size + 1), v]) := fun s' => by
    rcases hk with ⟨rfl, rfl⟩ | ⟨rfl, rfl⟩
    · exact b1 s' _ _
    · exact b2 s' _ _
  have key : ∀ (a dx : Addr), H a = none → upd (upd (upd H a (exo a C none)) dx (exd dx [(fn, y)])) a (exo a C (some dx)) = upd (upd H dx (exd dx [(fn, y)])) a (exo a C (some dx)) := fun a dx _ => by
    funext b
    by_cases hb : b = a
    · rw [hb, upd_same, upd_same]
    · rw [upd_ne hb, upd_ne hb]
      by_cases hd : b = dx
      · rw [hd, upd_same, upd_same]
      · rw [upd_ne hd, upd_ne hd, upd_ne hb]
  have hsp : spIn C fn [V.ref (hp.objs.size + 1), y] (upd H (hp.objs.size + 1) (exo (hp.objs.size + 1) C none)) (fun u H2 => u = .non ∧ Q (.ref (hp.objs.size + 1)) H2) E0 :=
    ⟨_, _, rfl, upd_same, fun dx n ne => ⟨rfl, by
      rw [key _ _ hn]
      exact h _ _ hn (by rw [upd_ne ne] at n; exact n) ne⟩⟩
  refine wpAny_call (PySem.EXL.call_cls PySem.F.excBase_Exception hT hC (PySem.W.looks_findIn I.kIn T.ini) (fun self => PySem.W.bind_fn I.kIn self T.typ) hz
    (codeAny_mono (F1.run _ X.stack _ _ ⟨Value.ref (hp.objs.size + 1) :: us, kw⟩ [Value.ref (hp.objs.size + 1), v] [V.ref (hp.objs.size + 1), y] _ E0 (hr.make C us kw) (I2.env0.make C us kw) (bd _) (.cons rfl (.cons ry .nil)) hsp) fun r s' hq' => ?_))
  cases r with
  | error er => exact hq'.elim
  | ok fl =>
    cases fl with
    | ret u =>
      obtain ⟨u', H', I3, rv, ev, q3⟩ := I2.after hq'
      subst ev
      exact ⟨rv, ⟨V.ref (hp.objs.size + 1), H', I3, rfl, q3⟩⟩
    | next => exact False.elim hq'
    | brk => exact False.elim hq'
    | cont => exact False.elim hq'

/-- C(e) and C(f=e), as a value -/
def tMkX (C : Addr) (fn : Str) (ta : TA) : TE := fun σ H Q => ta σ H fun vs H1 => ∃ y, vs = [y] ∧ ∀ a dx, H1 a = none → H1 dx = none → dx ≠ a → Q (.ref a) (upd (upd H1 dx (exd dx [(fn, y)])) a (exo a C (some dx)))
theorem pe_mkP (T : XI X.prog X.w X.K X.mg X.base k x fn C f) (hr : Room (k + 1) X.A) (hg : Gl X x) (ha : PA X [e] t) (hdb : (x == ("__debug__" : Str)) = false := by decide) (he : starEach [e] X.env = (false, eval e X.env) :: starEach [] X.env := by rfl)
    (hpl : (backTo pos (starEach [] X.env)).any (·.1) = false := by rfl) : PE X (.Call (.Name x p) [e] [] pos) (tMkX C fn t) := by
  refine ⟨fun pins s σ H Q I h => wpAny_Call_Name_kw (ld_glob I hg T.gl ?_ hdb)⟩
  refine PySem.W.callWith_K (h₀ := X.base) I.ok.mod.kin T.cls.kC (thn (ha.run pos pins s σ H _ I h) fun us s1 ⟨vs, H1, I1, r1, y, ev, q1⟩ => ⟨I1.kIn, ?_⟩) he hpl
  subst ev
  cases r1 with
  | cons ry rn =>
    cases rn
    exact run_mk T hr I1 ry (.inl ⟨rfl, rfl⟩) q1
theorem pe_mkK (T : XI X.prog X.w X.K X.mg X.base k x fn C f) (hr : Room (k + 1) X.A) (hg : Gl X x) (hkw : PK X kws tk) (hall : (backToKw pos (keywordEach kws X.env)).all (·.1.isSome) = true := by rfl)
    (hks : (backToKw pos (keywordEach kws X.env)).filterMap (·.1) = [fn] := by rfl) (hdb : (x == ("__debug__" : Str)) = false := by decide)
    (hpl : ((backTo pos (starEach [] X.env)).any (·.1) || (backToKw pos (keywordEach kws X.env)).any (·.1.isNone)) = false := by rfl) : PE X (.Call (.Name x p) [] kws pos) (tMkX C fn tk) := by
  refine ⟨fun pins s σ H Q I h => wpAny_Call_Name_kw (ld_glob I hg T.gl ?_ hdb)⟩
  refine PySem.W.callWith_KW0 (h₀ := X.base) I.ok.mod.kin T.cls.kC hall (thn (hkw.run pos pins s σ H _ I h) fun ws s2 ⟨zs, H2, I2, rz, y, ev, q2⟩ => ⟨I2.kIn, ?_⟩) hpl
  subst ev
  rw [hks]
  cases rz with
  | cons ry rn =>
    cases rn
    exact run_mk T hr I2 ry (.inr ⟨rfl, rfl⟩) q2
/-- C(), a class without __init__ of its own -/
theorem pe_mk0 {C : Addr} (q : PySem.W.excIn X.K C eT "Exception.__new__" = true) (gC : X.mg x = some (.ref C)) (kC : PySem.W.keepIn X.K (.ref C) = true) (hg : Gl X x) (hdb : (x == ("__debug__" : Str)) = false := by decide) :
    PE X (.Call (.Name x p) [] [] pos) (fun _ H Q => ∀ a, H a = none → Q (.ref a) (upd H a (ExO (.ref C) a))) := by
  refine ⟨fun pins s σ H Q I h => wpAny_Call_Name_kw (ld_glob I hg gC (PySem.W.callWith_K0 I.kIn kC ?_) hdb)⟩
  show wpAny _ _ (call (.ref C) []) _ _ _
  obtain ⟨bm, N, nm, qn, bs, hdct, sn, sub, ab, col, dd, k0, k1, k2, k3, k5, mN, hC, hN, hni, T⟩ := exc_obj I.kIn q
  refine wpAny_call_exc_subT PySem.F.excBase_Exception T hC hN hni (fun h' a hm => ?_) (Nat.zero_le _)
  have hn : H a = none := I.hok.gone hm.new
  obtain ⟨t, ht, _, _⟩ := hm.there
  exact ⟨.ref a, upd H a (ExO (.ref C) a), I.laidN hm.keeps hm.new hn (exO_ok ht ⟨rfl, rfl⟩ rfl rfl rfl (show 4 < 6 by decide)), rfl, h a hn⟩
/-- e.f of such an exception -/
def tXf (K : PySem.W.Frag) (fn : Str) (te : TE) : TE := fun σ H Q => te σ H fun v H1 => ∃ (a C : Addr) (y : V), v = .ref a ∧ XC K C ∧ NoF K C fn ∧ XAt H1 a C (some (fn, y)) ∧ Q y H1
theorem pe_xfld {te : TE} (he : PE X e te) (hb : attributeBase e fn X.env (eval e X.env) = eval e X.env := by rfl) : PE X (.Attribute e fn pos) (tXf X.K fn te) := by
  refine ⟨fun pins s σ H Q I h => attr_of hb (thn (he.run pins s σ H _ I h) fun u s1 hh => ?_)⟩
  obtain ⟨v, H1, I1, rv, a, C, y, ev, T, N, xa, q⟩ := hh
  subst ev
  obtain rfl : u = Value.ref a := rv
  cases xa with
  | @fld dx _ _ ha hd =>
    obtain ⟨t1, ho⟩ := exo_at I1.hok ha
    obtain ⟨mA, hns, hr⟩ := exd_at I1.hok hd
    obtain ⟨od, hod, hl⟩ := lookIn_ns hns
    obtain ⟨w, hw, rw⟩ := RelO.some_of (v := y) (o := mA fn) (by
      have r := hr fn
      rw [lookup_put, if_pos rfl] at r
      exact r)
    have J : PySem.W.InstAt s1.heap a { cls := .ref C, dict := some dx, data := .fields #[.ref t1, .none, .none, .none, .bool false, .none] } C (some od) := ⟨ho, rfl, rfl, hod⟩
    exact PySem.HandSPX.exc_get I1.kIn J T.xf.ga T.xf.gg T.xf.exC (PySem.W.findObj_own T.xf.hdC N.no rfl (by rw [hl, hw])) (handed_of rw) ⟨y, H1, I1.tok _, rw, q⟩
end
end EX

set_option Elab.async false
set_option linter.all false
set_option maxRecDepth 100000
set_option maxHeartbeats 4000000
namespace PySem.W
open PySem PySem.Spec PySem.Calls PyProof.Rows
section
variable {K : Frag} {x D : Addr} {ox : Obj} {od : Option Obj}
/-- e.__class__ of an own exception, its dict made or not -/
theorem exl_class {prog : Program} {w : World} {A : Around} {E : Value → Shared → Prop} {s : Shared} {Q : Option Value → Shared → Prop} (T : L2.XfC K D) (hf : findObj K D od "__class__" = some (.bind (.builtin "getset_descriptor.__get__") (.builtin "object.__class__")))
    (hm : mroIn K D (.type "object") = some true) (X : K.In s.heap) (I : InstAt s.heap x ox D od) (h : Q (some (.ref D)) { s with toks := s.toks + 1 }) : wpAny (model prog w) A (getAttr? (.ref x) "__class__") Q E s := by
  obtain ⟨hp, g, d, t, os⟩ := s
  have LT := I.type (M := model prog w)
  have LA := looks_findIn (M := model prog w) X T.ga
  have LG := looks_findIn (M := model prog w) X T.gg
  have LF := looks_find (M := model prog w) X I hf
  have isx : Looks (model prog w) hp (isInstance (.ref x) (.type "BaseException")) true := LT.andThen (looks_subIn X T.exC)
  have n2 : (Value.builtin "BaseException.__getattribute__" == Value.builtin "object.__getattribute__") = false := by decide +kernel
  have n0 : (false && onTheHeap (Value.builtin "BaseException.__getattribute__")) = false := rfl
  have n1 : (onTheHeap (Value.ref D) && Value.builtin "BaseException.__getattribute__" == Value.builtin "object.__getattribute__") = false := by rw [n2]; rfl
  unfold getAttr? getAttrBy? getAttrBy
  refine wpAny_bind (wpAny_mkText (wpAny_bind (wpAny_attempt (wpAny_holding (wpAny_bind (LT.at (wpAny_bind (LA.at ?_))))))))
  show wpAny _ _ (if (onTheHeap (Value.ref D) && Value.builtin "BaseException.__getattribute__" == Value.builtin "object.__getattribute__") = true then _ else _) _ _ _
  rw [n1, if_neg Bool.false_ne_true]
  unfold getAttrByItsOwn hookBefore
  refine wpAny_bind ?_
  rw [if_pos (show onTheHeap (Value.ref D) = true from rfl)]
  refine LG.at (wpAny_bind (wpAny_attempt (wpAny_holding ?_)))
  unfold callGetattribute
  rw [n0, if_neg Bool.false_ne_true]
  unfold boundAndCalled
  rw [PySem.F.excAttr_ValueError.ga.bind (.ref x)]
  refine wpAny_bind (wpAny_pure ?_)
  show wpAny _ _ (call (.builtin "BaseException.__getattribute__") [.ref x, .str "__class__" t]) _ _ _
  refine wpAny_call (codeAny_call_builtin PySem.F.excAttr_ValueError.ga.plain PySem.F.entry_bexc_ga (@check_slot (model prog w) _ _ ⟨hp, g, d, t + 1, os⟩ "BaseException.__getattribute__" "BaseException" "__getattribute__" (.ref x) [.str "__class__" t] [] _
    (by decide +kernel) (by decide +kernel) isx (PySem.F.args_bexc_ga (.ref x) (.str "__class__" t)) ?_))
  unfold Builtin.«object.__getattribute__»
  refine wpAny_bind (wpAny_of_eq (a := ((Value.ref x : Value), [Value.str "__class__" t])) (by first | rfl | (simp only [slotArgs]; rfl)) (wpAny_bind (wpAny_pure (wpAny_bind (LT.at (wpAny_bind (LF.at ?_)))))))
  show wpAny _ _ (holding [Value.builtin "object.__class__"] (call (.builtin "getset_descriptor.__get__") [.builtin "object.__class__", .ref x, .ref D]) >>= ret) _ _ _
  refine wpAny_bind (wpAny_holding (wpAny_call (class_get (s := ⟨hp, g, d, t + 1, os⟩) (ox := ox) (od := od) X I hm (wpAny_pure ?_))))
  show wpAny _ _ (handedOut (.ref D)) _ _ _
  rw [handedOut_of (v := .ref D) rfl]
  first
    | exact wpAny_pure (wpAny_pure h)
    | exact wpAny_pure h
    | exact wpAny_pure (wpAny_bind (wpAny_pure (wpAny_pure h)))
theorem exl_kit (T : L2.XfC K D) (ha : findIn K (.ref D) "__class__" = some (some (.builtin "object.__class__"))) (hn : specialIn K (.builtin "object.__class__") "__get__" = some (some (.builtin "getset_descriptor.__get__")))
    (htk : takesIn K (.builtin "object.__class__") = some true) (hm : mroIn K D (.type "object") = some true) : KitX K (.ref x) (.ref D) (fun h => InstAt h x ox D od) := by
  obtain ⟨cdD, hcD, _⟩ := any_some T.hdC
  have hf : findObj K D od "__class__" = some (.bind (.builtin "getset_descriptor.__get__") (.builtin "object.__class__")) := by
    cases od with
    | none => exact findObj_dataN (by rw [hcD]; rfl) ha hn htk
    | some o => exact findObj_data (by rw [hcD]; rfl) ha hn htk
  unfold clsIn at hcD
  split at hcD
  · rename_i c' d' cd' sl' ho
    refine ⟨fun _ _ _ I => I.type, fun _ _ X _ => fun {A' Q' E'} s' k q => ?_, fun h tp dd its n sl X htp => ?_, fun X I k => exl_class T hf hm X I k⟩
    · unfold isType loadHead
      exact wpAny_bind (wpAny_loadPart (k _ _ (X _ _ ho)) (wpAny_pure q))
    · refine Bool.eq_false_iff.mpr fun q => ?_
      have e : D = tp := Value.ref.inj (beq_iff_eq.mp q)
      subst e
      have z := (X _ _ ho).symm.trans htp
      cases z
  · cases hcD
end
end PySem.W

set_option Elab.async false
set_option linter.all false
set_option maxRecDepth 100000
set_option maxHeartbeats 4000000
namespace EX
open PySem PySem.Spec PyProof.Rows L2
/-- what the written part says of object.__class__ -/
structure KCl (K : PySem.W.Frag) : Prop where
  hn : PySem.W.specialIn K (.builtin "object.__class__") "__get__" = some (some (.builtin "getset_descriptor.__get__"))
  ht : PySem.W.takesIn K (.builtin "object.__class__") = some true
def kclB (K : PySem.W.Frag) : Bool := decide (PySem.W.specialIn K (.builtin "object.__class__") "__get__" = some (some (.builtin "getset_descriptor.__get__"))) && decide (PySem.W.takesIn K (.builtin "object.__class__") = some true)
theorem kclB_ok {K : PySem.W.Frag} (h : kclB K = true) : KCl K := by
  obtain ⟨h1, h2⟩ := He.ba h
  exact ⟨of_decide_eq_true h1, of_decide_eq_true h2⟩
section
variable {X : Cx}
def rIsX (K : PySem.W.Frag) : List V → Hp → VK → Prop := fun xs H Q => ∃ (a D : Addr) (o : Option (Str × V)) (c : V) (cv : Value) (b : Bool), xs = [.ref a, c] ∧ ClsV c cv ∧ XAt H a D o ∧ XC K D ∧ KCl K ∧ PySem.W.kitOne K (.ref D) cv = some b ∧ Q (.bl b) H
theorem call_isX : CallR X (.builtin "isinstance") (rIsX X.K) := by
  intro pins s σ H xs us Q I r h
  obtain ⟨a, D, o, c, cv, b, rfl, hc, xa, T, KC, e, q⟩ := h
  obtain ⟨u1, u2, rfl, r1, r2⟩ := vals2 r
  obtain rfl : u1 = Value.ref a := r1
  have e2 := hc.eq r2
  subst e2
  cases xa with
  | bare ha =>
    obtain ⟨oe, vs, ho, hz, hd, _⟩ := (I.hok a _ ha).1
    have J : PySem.W.InstAt s.heap a oe D none := ⟨ho, hz.1, by unfold PySem.W.notCls; rw [hd] <;> rfl, by rw [hz.2]; exact True.intro⟩
    exact PySem.W.kia_one (PySem.W.exl_kit T.xf T.cl KC.hn KC.ht T.mo) I.kIn J e (fun z => nomatch z) fun tk => ⟨.bl b, H, I.tok tk, rfl, q⟩
  | @fld dx f y ha hd =>
    obtain ⟨t1, ho⟩ := exo_at I.hok ha
    obtain ⟨mA, ⟨od, es, ep, hod, _⟩, _⟩ := exd_at I.hok hd
    have J : PySem.W.InstAt s.heap a { cls := .ref D, dict := some dx, data := .fields #[.ref t1, .none, .none, .none, .bool false, .none] } D (some od) := ⟨ho, rfl, rfl, hod⟩
    exact PySem.W.kia_one (PySem.W.exl_kit T.xf T.cl KC.hn KC.ht T.mo) I.kIn J e (fun z => nomatch z) fun tk => ⟨.bl b, H, I.tok tk, rfl, q⟩
/-- xs != ys, two lists of the same values: False -/
def rNeS (K : PySem.W.Frag) : R2 := fun x y H Q => ∃ (a b : Addr) (xs : List V), x = .ref a ∧ y = .ref b ∧ SqL K H a xs ∧ SqL K H b xs ∧ (∀ v ∈ xs, flatB v = true ∨ ∃ r, v = .ref r) ∧ Q (.bl false) H
theorem same_items {A : Around} {s : Shared} : ∀ {xs : List V} {us ws : List Value}, (∀ v ∈ xs, flatB v = true ∨ ∃ r, v = .ref r) → Vals xs us → Vals xs ws → ∀ j (h1 : j < us.length) (h2 : j < ws.length), SeqAt.EqAt A s us[j] ws[j] true := by
  intro xs
  induction xs with
  | nil =>
    intro us ws _ r1 r2 j h1
    cases r1
    exact absurd h1 (Nat.not_lt_zero j)
  | cons x xs ih =>
    intro us ws hx r1 r2 j h1 h2
    cases r1 with
    | cons a1 b1 =>
      cases r2 with
      | cons a2 b2 =>
        cases j with
        | zero =>
          rcases hx x List.mem_cons_self with f | ⟨r, rfl⟩
          · exact eqAt_same a1 a2 f
          · have e1 : _ = Value.ref r := a1
            have e2 : _ = Value.ref r := a2
            show SeqAt.EqAt A s _ _ true
            subst e1
            subst e2
            exact SeqAt.EqAt.same _
        | succ j => exact ih (fun v hv => hx v (List.mem_cons_of_mem _ hv)) b1 b2 j (Nat.lt_of_succ_lt_succ h1) (Nat.lt_of_succ_lt_succ h2)
theorem op_neS (hu : X.A.units < cLine) : OpR X (compareOp .NotEq) (rNeS X.K) := by
  intro pins s σ H x y v u Q I rx ry h
  obtain ⟨a, b, xs, rfl, rfl, ha, hb, hx, q⟩ := h
  obtain rfl : v = Value.ref a := rx
  obtain rfl : u = Value.ref b := ry
  obtain ⟨us, r1, p1, _⟩ := I.list ha
  obtain ⟨ws, r2, p2, _⟩ := I.list hb
  have hsz : us.toArray.size = ws.toArray.size := by rw [List.size_toArray, List.size_toArray, ← r1.length, ← r2.length]
  refine SeqAt.RcNeAt.lists (e := fun _ => true) p1.isList p2.isList hsz hu (fun j h1 h2 => ?_) X.prog X.w _ _ ?_
  · have k := same_items (A := X.A.in1) (s := s) hx r1 r2 j (by simpa using h1) (by simpa using h2)
    simpa using k
  · rw [show ((List.range us.toArray.size).all fun _ => true) = true from List.all_eq_true.mpr fun _ _ => rfl]
    exact ⟨.bl false, H, I, rfl, q⟩
end
end EX

set_option Elab.async false
set_option linter.all false
set_option maxRecDepth 100000
set_option maxHeartbeats 4000000
namespace K39
open PySem PySem.Spec PyProof.Rows L2 EX

/-! ### the text -/
def top (i : Nat) : Stmt := PySem.Challenge.pw_packedbases_k39_errors.main.body.getD i (.Pass ⟨0, 0, 0, 0⟩)
abbrev sNum : Stmt := top 26
abbrev sPool : Stmt := top 27
abbrev sDraw : Stmt := top 28
abbrev sPick : Stmt := top 29
abbrev sOpen : Stmt := top 30
/-! ### drawn numbers: what a pool is -/
def Small (zs : List Int) : Prop := zs.length ≤ 500 ∧ ∀ z ∈ zs, 0 ≤ z ∧ z < 420
def PoolAt (H : Hp) (q p : Addr) (zs : List Int) (n : Nat) : Prop := p ≠ q ∧ H q = some (.lst [.ref p, .int n]) ∧ H p = some (.lst (zs.map V.int)) ∧ Small zs
/-- the pool behind one more draw -/
def drawn (H : Hp) (q p : Addr) (n : Nat) : Hp := upd H q (.lst [.ref p, .int ((n + 1 : Nat) : Int)])
theorem PoolAt.drawn {H : Hp} {q p : Addr} {zs : List Int} {n : Nat} (h : PoolAt H q p zs n) : PoolAt (drawn H q p n) q p zs (n + 1) :=
  ⟨h.1, upd_same, by unfold K39.drawn; rw [upd_ne h.1]; exact h.2.2.1, h.2.2.2⟩
theorem PoolAt.off {H H' : Hp} {q p : Addr} {zs : List Int} {n : Nat} (h : PoolAt H q p zs n) (s : Same H H') : PoolAt H' q p zs n := ⟨h.1, s _ _ h.2.1, s _ _ h.2.2.1, h.2.2.2⟩
/-! ### promises -/
def spNum (K : PySem.W.Frag) : Sp := fun vs H Q _ => ∃ (c z : Int) (a : Addr) (n : Nat), vs = [.int c, .int z, .ref a] ∧ SqL K H a (List.replicate n (V.int 420)) ∧ n ≤ 500 ∧ 0 ≤ z ∧ z ≤ 100 ∧
  ∀ H' p zs, Same H H' → H p = none → H' p = some (.lst (zs.map V.int)) → Small zs → Q (.ref p) H'
def spPool : Sp := fun vs H Q _ => ∃ (c z : Int) (n : Nat), vs = [.int c, .int z, .int n] ∧ n ≤ 500 ∧ 0 ≤ z ∧ z ≤ 100 ∧ ∀ H' q p zs, Same H H' → H q = none → H p = none → PoolAt H' q p zs 0 → Q (.ref q) H'
def spDraw : Sp := fun vs H Q _ => ∃ (q p : Addr) (zs : List Int) (n : Nat) (m : Int), vs = [.ref q, .int m] ∧ PoolAt H q p zs n ∧ 0 < m ∧ m ≤ 500 ∧ ∀ d : Int, 0 ≤ d → d < m → Q (.int d) (drawn H q p n)
def spPick (K : PySem.W.Frag) : Sp := fun vs H Q _ => ∃ (q p s : Addr) (zs : List Int) (n : Nat) (xs : List V), vs = [.ref q, .ref s] ∧ PoolAt H q p zs n ∧ SqL K H s xs ∧ s ≠ q ∧ xs ≠ [] ∧ xs.length ≤ 500 ∧
  ∀ (j : Nat) x, xs[j]? = some x → Q x (drawn H q p n)
def spOpen (K : PySem.W.Frag) : Sp := fun vs H Q _ => ∃ (a : Addr) (ns : List Int) (k n : Nat), vs = [.ref a, .int k, .int n] ∧ SqL K H a (ns.map V.int) ∧ (ns = [] ∨ k < ns.length) ∧ k ≤ 100 ∧ n ≤ 500 ∧
  ∀ H' q p zs, Same H H' → H q = none → H p = none → PoolAt H' q p zs 0 → Q (.ref q) H'
/-- the names of the built-ins are free, those of the defs stand -/
structure Dn (mg : Str → Option Value) : Prop where
  max : mg "max" = none
  min : mg "min" = none
  int : mg "int" = none
  rng : mg "range" = none
  len : mg "len" = none
theorem emod_small (x : Int) : 0 ≤ x % 420 ∧ x % 420 < 420 := ⟨Int.emod_nonneg _ (by decide), Int.emod_lt_of_pos _ (by decide)⟩
theorem pos420 : (0 : Int) < 420 := by decide
theorem posA : (0 : Int) < 2147483629 := by decide
theorem posB : (0 : Int) < 2147483647 := by decide
theorem pw3 (x : Int) {z : Int} (h0 : 0 ≤ z) (h1 : z ≤ 100) : (x % 2147483629 + 7919 * z + 1).natAbs < 2 ^ 64 := by
  have a := Int.emod_nonneg x (show (2147483629 : Int) ≠ 0 by decide)
  have b := Int.emod_lt_of_pos x (show (0 : Int) < 2147483629 by decide)
  omega
theorem pw5 (x : Int) : (x % 2147483629).natAbs < 2 ^ 64 := by
  have a := Int.emod_nonneg x (show (2147483629 : Int) ≠ 0 by decide)
  have b := Int.emod_lt_of_pos x (show (0 : Int) < 2147483629 by decide)
  omega
section
variable {P : Program} {w : World} {K : PySem.W.Frag} {mg : Str → Option Value} {base : Heap} {f fN fP fD : Addr} {fd fdN fdP fdD : FuncData}
theorem scNum : FnScope ["cell", "salt", "sizes", "whole", "left", "result", "k", "one"] ["cell", "salt", "sizes"] (defScope sNum) := ⟨rfl, rfl, rfl, by decide +kernel, rfl, by decide +kernel, by decide +kernel⟩
def numW (c : Int) : Int := if -1 - c > c then -1 - c else c
theorem lst_get {n i : Nat} (h : i < n) : (List.replicate n (V.int 420))[i]? = some (V.int 420) := by rw [List.getElem?_replicate, if_pos h]
theorem ok_num (F : Fun K "_law_numbers" "_law_numbers" sNum f fd) (T : Dn mg) : FnOk P w K mg base CX0 1 f fd ["cell", "salt", "sizes"] (spNum K) := by
  refine F.ok scNum (fun vs H Q E h => ?_) (fun cdv A outer s H vs Q E hr h => ?_)
  · obtain ⟨c, z, a, n, rfl, _⟩ := h
    rfl
  · obtain ⟨c, z, a, n, rfl, hS, hn, hz0, hz1, k⟩ := h
    refine ⟨_, pss_cons (ps_set (i := 3) scNum.nd rfl (.inl rfl) (pe_callB (call_max2 rfl) rfl T.max boot_max (pa_cons (pe_callTy call_int1 rfl T.int PyProof.Rows.boot_int (pa_cons (pv 0) pa_nil)) (pa_cons (pe_callTy call_int1 rfl T.int PyProof.Rows.boot_int (pa_cons (pe_op op_sub (pe_un un_neg pe_int) (pv 0)) pa_nil)) pa_nil))))
      (pss_cons (ps_set (i := 4) scNum.nd rfl (.inl rfl) (pv 3))
      (pss_cons (ps_set (i := 5) scNum.nd rfl (.inl rfl) (pe_lst pa_nil))
      (pss_cons (ps_for PassesOwn.never rfl (pi_range1 rfl T.rng (pa_cons (pe_callB call_len_seq rfl T.len boot_len (pa_cons (pv 2) pa_nil)) pa_nil)) (pg_name (i := 6) scNum.nd rfl (.inl rfl))
        (pss_one (ps_if (PW.pt (pw_and (pt_cmpR op_ge (pv 3) (pe_op op_pow pe_int pe_int) (nomark _)) (pw_and1 (pt_cmpR op_gt (pv 4) pe_int (nomark _)))))
          (pss_cons (ps_expr (pe_bm PySem.F.plainAttrs_list PySem.F.slot_list_append PySem.F.type_list_append mt_append (pv 5) (pa_cons (pe_op op_mod (pe_callTy call_int1 rfl T.int PyProof.Rows.boot_int (pa_cons (pv 4) pa_nil)) (pe_ix ix_list (pv 2) (pv 6) (fun _ _ => rfl))) pa_nil)))
            (pss_one (ps_set (i := 4) scNum.nd rfl (.inl rfl) (pe_op op_fdivN (pv 4) (pe_ix ix_list (pv 2) (pv 6) (fun _ _ => rfl))))))
          (pss_cons (ps_set (i := 7) scNum.nd rfl (.inl rfl) (pe_op op_pow (pe_op op_add (pe_op op_add (pe_op op_mod (pe_callTy call_int1 rfl T.int PyProof.Rows.boot_int (pa_cons (pv 3) pa_nil)) pe_int) (pe_op op_mul pe_int (pv 1))) pe_int) pe_int))
          (pss_cons (ps_set (i := 7) scNum.nd rfl (.inl rfl) (pe_op op_mul (pe_op op_add (pe_op op_mod (pe_callTy call_int1 rfl T.int PyProof.Rows.boot_int (pa_cons (pv 7) pa_nil)) pe_int) (pe_op op_mul pe_int (pe_op op_add (pv 6) pe_int))) (pe_op op_add (pv 6) pe_int)))
          (pss_cons (ps_set (i := 7) scNum.nd rfl (.inl rfl) (pe_op op_mod (pe_callTy call_int1 rfl T.int PyProof.Rows.boot_int (pa_cons (pv 7) pa_nil)) pe_int))
          (pss_cons (ps_set (i := 7) scNum.nd rfl (.inl rfl) (pe_op op_mul (pe_op op_mod (pe_callTy call_int1 rfl T.int PyProof.Rows.boot_int (pa_cons (pe_op op_pow (pv 7) pe_int) pa_nil)) pe_int) pe_int))
          (pss_cons (ps_set (i := 7) scNum.nd rfl (.inl rfl) (pe_op op_mod (pe_callTy call_int1 rfl T.int PyProof.Rows.boot_int (pa_cons (pv 7) pa_nil)) pe_int))
          (pss_one (ps_expr (pe_bm PySem.F.plainAttrs_list PySem.F.slot_list_append PySem.F.type_list_append mt_append (pv 5) (pa_cons (pe_op op_mod (pe_callTy call_int1 rfl T.int PyProof.Rows.boot_int (pa_cons (pe_op op_fdivN (pv 7) pe_int) pa_nil)) (pe_ix ix_list (pv 2) (pv 6) (fun _ _ => rfl))) pa_nil))))))))))))
      (pss_one (ps_ret (pv 5)))))), ?_⟩
    -- whole = max(int(cell), int(-1 - cell)); left = whole; result = []
    refine ⟨_, rfl, .inl ⟨_, rfl, _, rfl, _, rfl, _, _, rfl, rfl, .inl ⟨_, rfl, _, _, rfl, _, rfl, Nat.zero_le _, fun r hr' => ?_⟩⟩⟩
    have sm0 : Same H (upd H r (.lst [])) := fun b o e => by rw [upd_ne (ne_of_none e hr')]; exact e
    refine ⟨_, rfl, a, _, rfl, .inl (sm0.seq hS), _, rfl, ?_, ?_, ?_⟩
    · rw [List.length_replicate]
      omega
    · rw [List.length_replicate]
      omega
    refine for_range (lo := 0) (Pv := fun i σ H' => ∃ (L : Int) (zs : List Int) (v1 v2 : Option V), σ = [some (.int c), some (.int z), some (.ref a), some (.int (if -1 - c > c then -1 - c else c)), some (.int L), some (.ref r), v1, v2] ∧
      Same H H' ∧ H' r = some (.lst (zs.map V.int)) ∧ zs.length = i ∧ ∀ y ∈ zs, 0 ≤ y ∧ y < 420) ?_ ?_ ?_
    · exact ⟨_, [], none, none, rfl, sm0, upd_same, rfl, fun y hy => by cases hy⟩
    · rintro i σ H' hi ⟨L, zs, v1, v2, rfl, sm, hr1, hl, hb⟩
      have hin : i < n := by
        rw [List.length_replicate] at hi
        omega
      have hix : atI (List.replicate n (V.int 420)) ((0 : Int) + (i : Int)) = some (V.int 420) := at_of (by omega) (lst_get hin)
      have put : ∀ (y : Int) (L' : Int) (v2' : Option V), 0 ≤ y → y < 420 → ∃ (L : Int) (zs' : List Int) (v1 v2 : Option V),
          ([some (.int c), some (.int z), some (.ref a), some (.int (if -1 - c > c then -1 - c else c)), some (.int L'), some (.ref r), some (.int ((0 : Int) + (i : Int))), v2'] : List (Option V)) = [some (.int c), some (.int z), some (.ref a), some (.int (if -1 - c > c then -1 - c else c)), some (.int L), some (.ref r), v1, v2] ∧
          Same H (upd H' r (.lst (zs.map V.int ++ [.int y]))) ∧ (upd H' r (.lst (zs.map V.int ++ [.int y]))) r = some (.lst (zs'.map V.int)) ∧ zs'.length = i + 1 ∧ ∀ u ∈ zs', 0 ≤ u ∧ u < 420 := fun y L' v2' h0 h1 => by
        refine ⟨L', zs ++ [y], _, v2', rfl, fun b o e => ?_, ?_, ?_, fun u hu => ?_⟩
        · rw [upd_ne (ne_of_none e hr')]
          exact sm b o e
        · rw [upd_same, List.map_append, List.map_singleton]
        · rw [List.length_append, List.length_singleton, hl]
        · rcases List.mem_append.mp hu with hu | hu
          · exact hb u hu
          · rw [List.mem_singleton.mp hu]
            exact ⟨h0, h1⟩
      have sm2 : ∀ {o : HO}, Same H (upd H' r o) := fun {o} b u e => by
        rw [upd_ne (ne_of_none e hr')]
        exact sm b u e
      have room : (zs.map V.int).length < sizeLine := by
        rw [List.length_map, hl]
        exact small1000 (by omega)
      refine ⟨_, rfl, _, _, rfl, rfl, ⟨by decide, by decide, by decide⟩, _, _, rfl, rfl, _, rfl, ?_⟩
      refine ite2 (fun _ => ?_) (fun _ => ?_)
      · refine ⟨_, rfl, _, _, rfl, rfl, _, rfl, ?_⟩
        refine ite2 (fun _ => ?_) (fun _ => ?_)
        · refine ⟨_, rfl, .inl ⟨rfl, _, SqL.of hr1⟩, _, rfl, .inl ⟨_, rfl, _, rfl, _, rfl, a, _, _, _, rfl, rfl, sm.seq hS, hix, _, _, rfl, rfl, pos420, ?_⟩⟩
          refine ⟨r, _, _, rfl, rfl, hr1, room, ?_⟩
          refine ⟨_, rfl, _, rfl, _, rfl, a, _, _, _, rfl, rfl, sm2.seq hS, hix, _, _, rfl, rfl, ⟨by decide, by decide⟩, ?_⟩
          exact put _ _ _ (emod_small _).1 (emod_small _).2
        · -- one = ..
          refine ⟨_, rfl, .inl ⟨_, rfl, _, _, rfl, rfl, posA, _, rfl, _, _, rfl, rfl, .inl ⟨by decide, by decide⟩, _, _, rfl, rfl, _, _, rfl, rfl, _, _, rfl, rfl, ⟨by decide, by decide, pw3 _ hz0 hz1⟩, ?_⟩⟩
          refine ⟨_, rfl, .inl ⟨_, rfl, _, _, rfl, rfl, posB, _, rfl, _, _, rfl, rfl, _, _, rfl, rfl, .inl ⟨by decide, by decide⟩, _, _, rfl, rfl, _, rfl, _, _, rfl, rfl, _, _, rfl, rfl, .inr ⟨by omega, by omega⟩, ?_⟩⟩
          refine ⟨_, rfl, .inl ⟨_, rfl, _, _, rfl, rfl, posA, ?_⟩⟩
          refine ⟨_, rfl, _, _, rfl, rfl, ⟨by decide, by decide, pw5 _⟩, .inl ⟨_, rfl, _, _, rfl, rfl, posB, _, _, rfl, rfl, .inr ⟨by decide, by decide⟩, ?_⟩⟩
          refine ⟨_, rfl, .inl ⟨_, rfl, _, _, rfl, rfl, posA, ?_⟩⟩
          refine ⟨_, rfl, .inl ⟨rfl, _, SqL.of hr1⟩, _, rfl, _, _, rfl, rfl, ⟨by decide, by decide⟩, .inl ⟨_, rfl, _, rfl, _, rfl, a, _, _, _, rfl, rfl, sm.seq hS, hix, _, _, rfl, rfl, pos420, r, _, _, rfl, rfl, hr1, room, ?_⟩⟩
          exact put _ _ _ (emod_small _).1 (emod_small _).2
      · refine iteF ?_
        -- one = ..
        refine ⟨_, rfl, .inl ⟨_, rfl, _, _, rfl, rfl, posA, _, rfl, _, _, rfl, rfl, .inl ⟨by decide, by decide⟩, _, _, rfl, rfl, _, _, rfl, rfl, _, _, rfl, rfl, ⟨by decide, by decide, pw3 _ hz0 hz1⟩, ?_⟩⟩
        refine ⟨_, rfl, .inl ⟨_, rfl, _, _, rfl, rfl, posB, _, rfl, _, _, rfl, rfl, _, _, rfl, rfl, .inl ⟨by decide, by decide⟩, _, _, rfl, rfl, _, rfl, _, _, rfl, rfl, _, _, rfl, rfl, .inr ⟨by omega, by omega⟩, ?_⟩⟩
        refine ⟨_, rfl, .inl ⟨_, rfl, _, _, rfl, rfl, posA, ?_⟩⟩
        refine ⟨_, rfl, _, _, rfl, rfl, ⟨by decide, by decide, pw5 _⟩, .inl ⟨_, rfl, _, _, rfl, rfl, posB, _, _, rfl, rfl, .inr ⟨by decide, by decide⟩, ?_⟩⟩
        refine ⟨_, rfl, .inl ⟨_, rfl, _, _, rfl, rfl, posA, ?_⟩⟩
        refine ⟨_, rfl, .inl ⟨rfl, _, SqL.of hr1⟩, _, rfl, _, _, rfl, rfl, ⟨by decide, by decide⟩, .inl ⟨_, rfl, _, rfl, _, rfl, a, _, _, _, rfl, rfl, sm.seq hS, hix, _, _, rfl, rfl, pos420, r, _, _, rfl, rfl, hr1, room, ?_⟩⟩
        exact put _ _ _ (emod_small _).1 (emod_small _).2
    · rintro σ H' ⟨L, zs, v1, v2, rfl, sm, hr1, hl, hb⟩
      refine ⟨_, rfl, k H' r zs sm hr' hr1 ⟨?_, hb⟩⟩
      rw [hl, List.length_replicate]
      omega
theorem scPool : FnScope ["cell", "salt", "many"] ["cell", "salt", "many"] (defScope sPool) := ⟨rfl, rfl, rfl, by decide +kernel, rfl, by decide +kernel, by decide +kernel⟩
theorem ok_pool (F : Fun K "_law_pool" "_law_pool" sPool f fd) (FN : Fun K "_law_numbers" "_law_numbers" sNum fN fdN) (gN : mg "_law_numbers" = some (.ref fN)) (bN : Binds K fdN ["cell", "salt", "sizes"] []) (T : Dn mg) :
    FnOk P w K mg base CX0 2 f fd ["cell", "salt", "many"] spPool := by
  have GN : FnOk P w K mg base CX0 1 fN fdN ["cell", "salt", "sizes"] (spNum K) := ok_num FN T
  refine F.ok scPool (fun vs H Q E h => ?_) (fun cdv A outer s H vs Q E hr h => ?_)
  · obtain ⟨c, z, n, rfl, _⟩ := h
    rfl
  · obtain ⟨c, z, n, rfl, hn, hz0, hz1, k⟩ := h
    refine ⟨_, pss_one (ps_ret (pe_lst (pa_cons (pe_call GN hr rfl gN FN.kp bN .nil pass0 (pa_cons (pv 0) (pa_cons (pv 1) (pa_cons (pe_op op_rep (pe_lst (pa_cons pe_int pa_nil)) (pv 2)) pa_nil)))) (pa_cons pe_int pa_nil)))), ?_⟩
    refine ⟨_, rfl, _, rfl, (by show 1 ≤ sizeLine; decide), fun l hl => ?_⟩
    refine ⟨_, rfl, l, n, [.int 420], rfl, rfl, upd_same, by omega, by omega, ?_, fun r hr2 => ?_⟩
    · show 1 * (n : Int).toNat ≤ sizeLine
      exact Nat.le_of_lt (small1000 (by omega))
    have e1 : (List.replicate (n : Int).toNat [V.int 420]).flatten = List.replicate n (V.int 420) := by
      rw [show (n : Int).toNat = n by omega]
      clear hl hr2 k hn
      induction n with
      | zero => rfl
      | succ n ih => rw [List.replicate_succ, List.flatten_cons, ih, List.replicate_succ, List.singleton_append]
    have hl2 : H r = none := by
      by_cases e : r = l
      · rw [e]; exact hl
      · rw [upd_ne e] at hr2; exact hr2
    have nrl : r ≠ l := fun e => by rw [e, upd_same] at hr2; cases hr2
    refine ⟨c, z, r, n, rfl, SqL.of (by rw [upd_same, e1]), hn, hz0, hz1, fun H' p zs sm hp hp' hsm => ?_⟩
    have hp0 : H p = none ∧ p ≠ r ∧ p ≠ l := by
      have n1 : p ≠ r := fun e => by rw [e, upd_same] at hp; cases hp
      rw [upd_ne n1] at hp
      have n2 : p ≠ l := fun e => by rw [e, upd_same] at hp; cases hp
      rw [upd_ne n2] at hp
      exact ⟨hp, n1, n2⟩
    refine ⟨(by show 2 ≤ sizeLine; decide), fun q hq => ?_⟩
    have npq : p ≠ q := fun e => by rw [← e, hp'] at hq; cases hq
    have sm3 : Same H (upd H' q (.lst [.ref p, .int 0])) := fun b o e => by
      have e2 : H' b = some o := sm b o (by rw [upd_ne (ne_of_none e hl2), upd_ne (ne_of_none e hl)]; exact e)
      rw [upd_ne (ne_of_none e2 hq)]
      exact e2
    exact k _ q p zs sm3 (show H q = none from (Same.free (fun b o e => sm b o (by rw [upd_ne (ne_of_none e hl2), upd_ne (ne_of_none e hl)]; exact e)) hq)) hp0.1 ⟨npq, upd_same, by rw [upd_ne npq]; exact hp', hsm⟩
theorem scDraw : FnScope ["pool", "many", "at"] ["pool", "many"] (defScope sDraw) := ⟨rfl, rfl, rfl, by decide +kernel, rfl, by decide +kernel, by decide +kernel⟩
theorem ok_draw (F : Fun K "_law_draw" "_law_draw" sDraw f fd) (T : Dn mg) : FnOk P w K mg base CX0 1 f fd ["pool", "many"] spDraw := by
  refine F.ok scDraw (fun vs H Q E h => ?_) (fun cdv A outer s H vs Q E hr h => ?_)
  · obtain ⟨q, p, zs, n, m, rfl, _⟩ := h
    rfl
  · obtain ⟨q, p, zs, n, m, rfl, hP, hm0, hm1, k⟩ := h
    obtain ⟨npq, hq, hp, hz, hb⟩ := id hP
    refine ⟨_, pss_cons (ps_set (i := 2) scDraw.nd rfl (.inl rfl) (pe_ix ix_list (pv 0) pe_int (fun _ _ => rfl)))
      (pss_cons (ps_asg (pe_op op_add (pv 2) pe_int) (pg_sub (pv 0) pe_int set_list))
      (pss_one (ps_ret (pe_ifExp (pt_cmpR op_lt (pv 2) (pe_callB call_len_seq rfl T.len boot_len (pa_cons (pe_ix ix_list (pv 0) pe_int (fun _ _ => rfl)) pa_nil)) (nomark _))
        (pe_op op_mod (pe_callTy call_int1 rfl T.int PyProof.Rows.boot_int (pa_cons (pe_ix ix_list (pe_ix ix_list (pv 0) pe_int (fun _ _ => rfl)) (pv 2) (fun _ _ => rfl)) pa_nil)) (pv 1)) pe_int)))), ?_⟩
    refine ⟨_, rfl, q, _, _, _, rfl, rfl, SqL.of hq, (rfl : atI [V.ref p, V.int (n : Int)] 1 = some (V.int (n : Int))), ?_⟩
    refine ⟨_, rfl, _, _, rfl, rfl, _, rfl, q, _, _, 1, rfl, rfl, hq, rfl, ?_⟩
    have h2 : PoolAt (drawn H q p n) q p zs (n + 1) := hP.drawn
    have hq2 : drawn H q p n q = some (.lst [.ref p, .int ((n + 1 : Nat) : Int)]) := h2.2.1
    refine ⟨_, rfl, _, rfl, q, _, _, _, rfl, rfl, SqL.of hq2, (rfl : atI [V.ref p, V.int ((n + 1 : Nat) : Int)] 0 = some (V.ref p)), p, _, rfl, .inl (SqL.of h2.2.2.1), _, _, rfl, rfl, _, rfl, ?_⟩
    refine ite2 (fun hlt => ?_) (fun _ => ?_)
    · have hlt2 : n < zs.length := by
        have e := of_decide_eq_true hlt
        rw [List.length_map] at e
        omega
      have hget : (zs.map V.int)[n]? = some (V.int zs[n]) := by rw [List.getElem?_map, List.getElem?_eq_getElem hlt2]; rfl
      refine ⟨_, rfl, q, _, _, _, rfl, rfl, SqL.of hq2, (rfl : atI [V.ref p, V.int ((n + 1 : Nat) : Int)] 0 = some (V.ref p)), _, rfl, p, _, _, _, rfl, rfl, SqL.of h2.2.2.1, atI_nat hget, .inl ⟨_, rfl, _, rfl, _, _, rfl, rfl, hm0, ?_⟩⟩
      exact k _ (Int.emod_nonneg _ (by omega)) (Int.emod_lt_of_pos _ hm0)
    · exact k 0 (by omega) hm0
theorem scPick : FnScope ["pool", "some"] ["pool", "some"] (defScope sPick) := ⟨rfl, rfl, rfl, by decide +kernel, rfl, by decide +kernel, by decide +kernel⟩
theorem ok_pick (F : Fun K "_law_pick" "_law_pick" sPick f fd) (FD : Fun K "_law_draw" "_law_draw" sDraw fD fdD) (gD : mg "_law_draw" = some (.ref fD)) (bD : Binds K fdD ["pool", "many"] []) (T : Dn mg) : FnOk P w K mg base CX0 2 f fd ["pool", "some"] (spPick K) := by
  have GD : FnOk P w K mg base CX0 1 fD fdD ["pool", "many"] spDraw := ok_draw FD T
  refine F.ok scPick (fun vs H Q E h => ?_) (fun cdv A outer s H vs Q E hr h => ?_)
  · obtain ⟨q, p, t, zs, n, xs, rfl, _⟩ := h
    rfl
  · obtain ⟨q, p, t, zs, n, xs, rfl, hP, hS, nq, hne, hl, k⟩ := h
    refine ⟨_, pss_one (ps_ret (pe_ix ix_list (pv 1) (pe_call GD hr rfl gD FD.kp bD .nil pass0 (pa_cons (pv 0) (pa_cons (pe_callB call_len_seq rfl T.len boot_len (pa_cons (pv 1) pa_nil)) pa_nil))) (fun _ _ => rfl))), ?_⟩
    have hpos : 0 < xs.length := List.length_pos_iff.mpr hne
    refine ⟨_, rfl, _, rfl, _, rfl, t, _, rfl, .inl hS, q, p, zs, n, _, rfl, hP, by omega, by omega, fun d d0 d1 => ?_⟩
    have hd : d.toNat < xs.length := by omega
    have hS2 : SqL K (drawn H q p n) t xs := by
      rcases hS with (h | ⟨o, h⟩) | h
      · exact .inl (.inl (by unfold drawn; rw [upd_ne nq]; exact h))
      · exact .inl (.inr ⟨o, by unfold drawn; rw [upd_ne nq]; exact h⟩)
      · exact .inr h
    exact ⟨t, xs, d, _, rfl, rfl, hS2, at_of (j := d.toNat) (by omega) (List.getElem?_eq_getElem hd), k d.toNat _ (List.getElem?_eq_getElem hd)⟩
theorem scOpen : FnScope ["script", "k", "many", "cell"] ["script", "k", "many"] (defScope sOpen) := ⟨rfl, rfl, rfl, by decide +kernel, rfl, by decide +kernel, by decide +kernel⟩
theorem dp_ints {H : Hp} : ∀ ns : List Int, DpAll K H (ns.map V.int) (ns.map PyData.int)
  | [] => .nil
  | n :: r => .cons (.int n) (dp_ints r)
theorem ok_open (F : Fun K "_law_opened" "_law_opened" sOpen f fd) (FP : Fun K "_law_pool" "_law_pool" sPool fP fdP) (gP : mg "_law_pool" = some (.ref fP)) (bP : Binds K fdP ["cell", "salt", "many"] [])
    (FN : Fun K "_law_numbers" "_law_numbers" sNum fN fdN) (gN : mg "_law_numbers" = some (.ref fN)) (bN : Binds K fdN ["cell", "salt", "sizes"] []) (T : Dn mg) :
    FnOk P w K mg base CX0 3 f fd ["script", "k", "many"] (spOpen K) := by
  have GP : FnOk P w K mg base CX0 2 fP fdP ["cell", "salt", "many"] spPool := ok_pool FP FN gN bN T
  refine F.ok scOpen (fun vs H Q E h => ?_) (fun cdv A outer s H vs Q E hr h => ?_)
  · obtain ⟨a, ns, k, n, rfl, _⟩ := h
    rfl
  · obtain ⟨a, ns, k, n, rfl, hS, hk, hk1, hn, kk⟩ := h
    refine ⟨_, pss_cons (ps_set (i := 3) scOpen.nd rfl (.inl rfl) (pe_ifExp (pt_cmpR (op_neD hr.units) (pv 0) (pe_lst pa_nil) (nomark _)) (pe_ix ix_list (pv 0) (pv 1) (fun _ _ => rfl)) pe_int))
      (pss_one (ps_ret (pe_call GP hr rfl gP FP.kp bP .nil pass0 (pa_cons (pv 3) (pa_cons (pv 1) (pa_cons (pv 2) pa_nil)))))), ?_⟩
    refine ⟨_, rfl, Nat.zero_le _, fun l hl => ?_⟩
    have sm : Same H (upd H l (.lst [])) := fun b o e => by rw [upd_ne (ne_of_none e hl)]; exact e
    refine ⟨_, _, .lst (sm.seq hS) (dp_ints ns), .lst (SqL.of upd_same) .nil, PySem.W.ke_shaped_ints ns, PySem.W.ke_shaped_ints [], _, rfl, ?_⟩
    have fin : ∀ c : Int, spPool [.int c, .int k, .int n] (upd H l (.lst [])) Q E0 := fun c =>
      ⟨c, k, n, rfl, hn, by omega, by omega, fun H' q p zs s2 hq hp hP => kk H' q p zs (sm.trans s2) (sm.free hq) (sm.free hp) hP⟩
    cases ns with
    | nil => exact iteF ⟨_, rfl, _, rfl, _, rfl, fin _⟩
    | cons x r =>
      refine iteT ?_
      have hk2 : k < (x :: r).length := by
        rcases hk with h | h
        · cases h
        · exact h
      have hget : ((x :: r).map V.int)[k]? = some (V.int (x :: r)[k]) := by rw [List.getElem?_map, List.getElem?_eq_getElem hk2]; rfl
      exact ⟨_, rfl, _, rfl, a, _, _, _, rfl, rfl, sm.seq hS, atI_nat hget, _, rfl, _, rfl, _, rfl, fin _⟩
end
end K39

set_option Elab.async false
set_option linter.all false
set_option maxRecDepth 100000
set_option maxHeartbeats 4000000
namespace K39
open PySem PySem.Spec PyProof.Rows L2 EX

/-! ### the classes -/
abbrev sObj : Stmt := top 31
abbrev sCls : Stmt := top 32
abbrev sFld : Stmt := top 33
abbrev sPlc : Stmt := top 34
abbrev sLaw : Stmt := top 35
def nm : List Str := ["BadArgument", "BadKind", "BadMeasure", "BadThing", "BadWord", "BadMarks", "BadBase", "BadPacker", "BadDeed", "BadNumber", "BadWalk", "BadPaper", "BadChange", "BadWish", "BadEntry", "BadRule", "BadText", "BadCommand", "Ringed", "Lost", "TooMany", "Leaned", "NothingLeft"]
/-- the class at the i-th place -/
def cA (K : PySem.W.Frag) (i : Nat) : Addr := He.ga K (nm.getD i "PackError")
structure Cs (P : Program) (w : World) (K : PySem.W.Frag) (mg : Str → Option Value) (base : Heap) : Prop where
  c0 : XI P w K mg base 1 "BadArgument" "value" (cA K 0) (He.ma K (cA K 0) "__init__")
  n0 : NoF K (cA K 0) "value"
  c1 : XI P w K mg base 1 "BadKind" "value" (cA K 1) (He.ma K (cA K 1) "__init__")
  n1 : NoF K (cA K 1) "value"
  c2 : XI P w K mg base 1 "BadMeasure" "value" (cA K 2) (He.ma K (cA K 2) "__init__")
  n2 : NoF K (cA K 2) "value"
  c3 : XI P w K mg base 1 "BadThing" "value" (cA K 3) (He.ma K (cA K 3) "__init__")
  n3 : NoF K (cA K 3) "value"
  c4 : XI P w K mg base 1 "BadWord" "value" (cA K 4) (He.ma K (cA K 4) "__init__")
  n4 : NoF K (cA K 4) "value"
  c5 : XI P w K mg base 1 "BadMarks" "value" (cA K 5) (He.ma K (cA K 5) "__init__")
  n5 : NoF K (cA K 5) "value"
  c6 : XI P w K mg base 1 "BadBase" "value" (cA K 6) (He.ma K (cA K 6) "__init__")
  n6 : NoF K (cA K 6) "value"
  c7 : XI P w K mg base 1 "BadPacker" "value" (cA K 7) (He.ma K (cA K 7) "__init__")
  n7 : NoF K (cA K 7) "value"
  c8 : XI P w K mg base 1 "BadDeed" "value" (cA K 8) (He.ma K (cA K 8) "__init__")
  n8 : NoF K (cA K 8) "value"
  c9 : XI P w K mg base 1 "BadNumber" "value" (cA K 9) (He.ma K (cA K 9) "__init__")
  n9 : NoF K (cA K 9) "value"
  c10 : XI P w K mg base 1 "BadWalk" "value" (cA K 10) (He.ma K (cA K 10) "__init__")
  n10 : NoF K (cA K 10) "value"
  c11 : XI P w K mg base 1 "BadPaper" "value" (cA K 11) (He.ma K (cA K 11) "__init__")
  n11 : NoF K (cA K 11) "value"
  c12 : XI P w K mg base 1 "BadChange" "value" (cA K 12) (He.ma K (cA K 12) "__init__")
  n12 : NoF K (cA K 12) "value"
  c13 : XI P w K mg base 1 "BadWish" "value" (cA K 13) (He.ma K (cA K 13) "__init__")
  n13 : NoF K (cA K 13) "value"
  c14 : XI P w K mg base 1 "BadEntry" "value" (cA K 14) (He.ma K (cA K 14) "__init__")
  n14 : NoF K (cA K 14) "value"
  c15 : XI P w K mg base 1 "BadRule" "part" (cA K 15) (He.ma K (cA K 15) "__init__")
  n15 : NoF K (cA K 15) "part"
  c16 : XI P w K mg base 1 "BadText" "at" (cA K 16) (He.ma K (cA K 16) "__init__")
  n16 : NoF K (cA K 16) "at"
  c17 : XI P w K mg base 1 "BadCommand" "line" (cA K 17) (He.ma K (cA K 17) "__init__")
  n17 : NoF K (cA K 17) "line"
  c18 : XI P w K mg base 1 "Ringed" "things" (cA K 18) (He.ma K (cA K 18) "__init__")
  n18 : NoF K (cA K 18) "things"
  c19 : XI P w K mg base 1 "Lost" "word" (cA K 19) (He.ma K (cA K 19) "__init__")
  n19 : NoF K (cA K 19) "word"
  c20 : XI P w K mg base 1 "TooMany" "number" (cA K 20) (He.ma K (cA K 20) "__init__")
  n20 : NoF K (cA K 20) "number"
  c21 : XI P w K mg base 1 "Leaned" "word" (cA K 21) (He.ma K (cA K 21) "__init__")
  n21 : NoF K (cA K 21) "word"
  c22 : XC K (cA K 22)
  g22 : mg "NothingLeft" = some (.ref (cA K 22))
  x22 : PySem.W.excIn K (cA K 22) eT "Exception.__new__" = true
  kcl : KCl K
  kit : ∀ i j, i < 23 → j < 23 → PySem.W.kitOne K (.ref (cA K i)) (.ref (cA K j)) = some (decide (i = j))
  xcs : ∀ i, i < 23 → XC K (cA K i)
  kitP : ∀ i, i < 23 → PySem.W.kitOne K (.ref (cA K i)) (.ref (He.ga K "PackError")) = some true
  gP : mg "PackError" = some (.ref (He.ga K "PackError"))
  isi : mg "isinstance" = none
  enm : mg "enumerate" = none
/-! ### steps -/
theorem same_put {H : Hp} {m : Addr} {u : HO} (h : H m = none) : Same H (upd H m u) := fun b o e => by
  rw [upd_ne (ne_of_none e h)]
  exact e
theorem keep_put {H H' : Hp} {l m : Addr} {o u : HO} (s : Same H H') (h : H l = some o) (hm : H' m = none) : upd H' m u l = some o := by
  have e := s _ _ h
  rw [upd_ne (ne_of_none e hm)]
  exact e
theorem same_two {H : Hp} {a dx : Addr} {u v : HO} (ha : H a = none) (hd : H dx = none) : Same H (upd (upd H dx u) a v) := fun b o e => by
  rw [upd_ne (ne_of_none e ha), upd_ne (ne_of_none e hd)]
  exact e
/-! ### promises -/
def Flat (y : V) : Prop := flatB y = true ∨ ∃ r, y = .ref r
def spFld : Sp := fun vs H Q _ => ∃ y, vs = [y] ∧ ∀ H' p, Same H H' → H p = none → H' p = some (.lst (List.replicate 22 y)) → Q (.ref p) H'
/-- exceptions of the classes in their order -/
def ExsAt (K : PySem.W.Frag) (H : Hp) (as : List Addr) : Prop := as.length = 23 ∧ ∀ i a, as[i]? = some a → ∃ o, XAt H a (cA K i) o
def spObj (K : PySem.W.Frag) : Sp := fun vs H Q _ => ∃ y, vs = [y] ∧ ∀ H' p as, Same H H' → H p = none → H' p = some (.lst (as.map V.ref)) → ExsAt K H' as → Q (.ref p) H'
def spCls (K : PySem.W.Frag) : Sp := fun vs H Q _ => ∃ (a : Addr) (i : Nat) (o : Option (Str × V)), vs = [.ref a] ∧ i < 23 ∧ XAt H a (cA K i) o ∧
  ∀ H' p, Same H H' → H p = none → H' p = some (.lst ((List.range 23).map fun j => V.bl (decide (i = j)))) → Q (.ref p) H'
section
variable {P : Program} {w : World} {K : PySem.W.Frag} {mg : Str → Option Value} {base : Heap} {f fN fP fD : Addr} {fd fdN fdP fdD : FuncData}
theorem scFld : FnScope ["thing", "found"] ["thing"] (defScope sFld) := ⟨rfl, rfl, rfl, by decide +kernel, rfl, by decide +kernel, by decide +kernel⟩
theorem ok_fld (F : Fun K "_law_fields" "_law_fields" sFld f fd) (T : Cs P w K mg base) : FnOk P w K mg base CX0 3 f fd ["thing"] spFld := by
  refine F.ok scFld (fun vs H Q E h => ?_) (fun cdv A outer s H vs Q E hr h => ?_)
  · obtain ⟨y, rfl, _⟩ := h
    rfl
  · obtain ⟨y, rfl, k⟩ := h
    refine ⟨_, (pss_cons (ps_set (i := 1) scFld.nd rfl (.inl rfl) (pe_lst (pa_cons (pe_xfld (pe_mkK T.c0 hr rfl (pk_cons (pv 0) pk_nil))) (pa_cons (pe_xfld (pe_mkK T.c1 hr rfl (pk_cons (pv 0) pk_nil))) (pa_cons (pe_xfld (pe_mkK T.c2 hr rfl (pk_cons (pv 0) pk_nil))) pa_nil))))) (pss_cons (ps_set (i := 1) scFld.nd rfl (.inl rfl) (pe_op op_cat (pv 1) (pe_lst (pa_cons (pe_xfld (pe_mkK T.c3 hr rfl (pk_cons (pv 0) pk_nil))) (pa_cons (pe_xfld (pe_mkK T.c4 hr rfl (pk_cons (pv 0) pk_nil))) (pa_cons (pe_xfld (pe_mkK T.c5 hr rfl (pk_cons (pv 0) pk_nil))) pa_nil)))))) (pss_cons (ps_set (i := 1) scFld.nd rfl (.inl rfl) (pe_op op_cat (pv 1) (pe_lst (pa_cons (pe_xfld (pe_mkK T.c6 hr rfl (pk_cons (pv 0) pk_nil))) (pa_cons (pe_xfld (pe_mkK T.c7 hr rfl (pk_cons (pv 0) pk_nil))) (pa_cons (pe_xfld (pe_mkK T.c8 hr rfl (pk_cons (pv 0) pk_nil))) pa_nil)))))) (pss_cons (ps_set (i := 1) scFld.nd rfl (.inl rfl) (pe_op op_cat (pv 1) (pe_lst (pa_cons (pe_xfld (pe_mkK T.c9 hr rfl (pk_cons (pv 0) pk_nil))) (pa_cons (pe_xfld (pe_mkK T.c10 hr rfl (pk_cons (pv 0) pk_nil))) (pa_cons (pe_xfld (pe_mkK T.c11 hr rfl (pk_cons (pv 0) pk_nil))) pa_nil)))))) (pss_cons (ps_set (i := 1) scFld.nd rfl (.inl rfl) (pe_op op_cat (pv 1) (pe_lst (pa_cons (pe_xfld (pe_mkK T.c12 hr rfl (pk_cons (pv 0) pk_nil))) (pa_cons (pe_xfld (pe_mkK T.c13 hr rfl (pk_cons (pv 0) pk_nil))) (pa_cons (pe_xfld (pe_mkK T.c14 hr rfl (pk_cons (pv 0) pk_nil))) pa_nil)))))) (pss_cons (ps_set (i := 1) scFld.nd rfl (.inl rfl) (pe_op op_cat (pv 1) (pe_lst (pa_cons (pe_xfld (pe_mkK T.c15 hr rfl (pk_cons (pv 0) pk_nil))) (pa_cons (pe_xfld (pe_mkP T.c16 hr rfl (pa_cons (pv 0) pa_nil))) (pa_cons (pe_xfld (pe_mkK T.c17 hr rfl (pk_cons (pv 0) pk_nil))) pa_nil)))))) (pss_cons (ps_set (i := 1) scFld.nd rfl (.inl rfl) (pe_op op_cat (pv 1) (pe_lst (pa_cons (pe_xfld (pe_mkK T.c18 hr rfl (pk_cons (pv 0) pk_nil))) (pa_cons (pe_xfld (pe_mkK T.c19 hr rfl (pk_cons (pv 0) pk_nil))) (pa_cons (pe_xfld (pe_mkK T.c20 hr rfl (pk_cons (pv 0) pk_nil))) pa_nil)))))) (pss_one (ps_ret (pe_op op_cat (pv 1) (pe_lst (pa_cons (pe_xfld (pe_mkK T.c21 hr rfl (pk_cons (pv 0) pk_nil))) pa_nil)))))))))))), ?_⟩
    refine ⟨_, rfl, _, rfl, fun a1 d1 ha1 hd1 ne1 => ⟨a1, _, _, rfl, T.c0.cls, T.n0, .fld upd_same (by rw [upd_ne ne1, upd_same]), ?_⟩⟩
    refine ⟨_, rfl, _, rfl, fun a2 d2 ha2 hd2 ne2 => ⟨a2, _, _, rfl, T.c1.cls, T.n1, .fld upd_same (by rw [upd_ne ne2, upd_same]), ?_⟩⟩
    refine ⟨_, rfl, _, rfl, fun a3 d3 ha3 hd3 ne3 => ⟨a3, _, _, rfl, T.c2.cls, T.n2, .fld upd_same (by rw [upd_ne ne3, upd_same]), ?_⟩⟩
    refine ⟨(by show 3 ≤ sizeLine; decide), fun l0 hl0 => ?_⟩
    have t0 := Same.trans (Same.trans (Same.trans (same_two ha1 hd1) (same_two ha2 hd2)) (same_two ha3 hd3)) (same_put (u := .lst (List.replicate 3 y)) hl0)
    refine ⟨_, rfl, ?_⟩
    refine ⟨_, rfl, _, rfl, fun a4 d4 ha4 hd4 ne4 => ⟨a4, _, _, rfl, T.c3.cls, T.n3, .fld upd_same (by rw [upd_ne ne4, upd_same]), ?_⟩⟩
    refine ⟨_, rfl, _, rfl, fun a5 d5 ha5 hd5 ne5 => ⟨a5, _, _, rfl, T.c4.cls, T.n4, .fld upd_same (by rw [upd_ne ne5, upd_same]), ?_⟩⟩
    refine ⟨_, rfl, _, rfl, fun a6 d6 ha6 hd6 ne6 => ⟨a6, _, _, rfl, T.c5.cls, T.n5, .fld upd_same (by rw [upd_ne ne6, upd_same]), ?_⟩⟩
    refine ⟨(by show 3 ≤ sizeLine; decide), fun m1 hm1 => ⟨l0, m1, List.replicate 3 y, List.replicate 3 y, rfl, rfl, keep_put (Same.trans (Same.trans (same_two ha4 hd4) (same_two ha5 hd5)) (same_two ha6 hd6)) upd_same hm1, upd_same, (by show 3 + 3 ≤ sizeLine; decide), fun l1 hl1 => ?_⟩⟩
    have t1 := Same.trans (Same.trans (Same.trans t0 (Same.trans (Same.trans (same_two ha4 hd4) (same_two ha5 hd5)) (same_two ha6 hd6))) (same_put (u := .lst (List.replicate 3 y)) hm1)) (same_put (u := .lst (List.replicate 6 y)) hl1)
    refine ⟨_, rfl, ?_⟩
    refine ⟨_, rfl, _, rfl, fun a7 d7 ha7 hd7 ne7 => ⟨a7, _, _, rfl, T.c6.cls, T.n6, .fld upd_same (by rw [upd_ne ne7, upd_same]), ?_⟩⟩
    refine ⟨_, rfl, _, rfl, fun a8 d8 ha8 hd8 ne8 => ⟨a8, _, _, rfl, T.c7.cls, T.n7, .fld upd_same (by rw [upd_ne ne8, upd_same]), ?_⟩⟩
    refine ⟨_, rfl, _, rfl, fun a9 d9 ha9 hd9 ne9 => ⟨a9, _, _, rfl, T.c8.cls, T.n8, .fld upd_same (by rw [upd_ne ne9, upd_same]), ?_⟩⟩
    refine ⟨(by show 3 ≤ sizeLine; decide), fun m2 hm2 => ⟨l1, m2, List.replicate 6 y, List.replicate 3 y, rfl, rfl, keep_put (Same.trans (Same.trans (same_two ha7 hd7) (same_two ha8 hd8)) (same_two ha9 hd9)) upd_same hm2, upd_same, (by show 6 + 3 ≤ sizeLine; decide), fun l2 hl2 => ?_⟩⟩
    have t2 := Same.trans (Same.trans (Same.trans t1 (Same.trans (Same.trans (same_two ha7 hd7) (same_two ha8 hd8)) (same_two ha9 hd9))) (same_put (u := .lst (List.replicate 3 y)) hm2)) (same_put (u := .lst (List.replicate 9 y)) hl2)
    refine ⟨_, rfl, ?_⟩
    refine ⟨_, rfl, _, rfl, fun a10 d10 ha10 hd10 ne10 => ⟨a10, _, _, rfl, T.c9.cls, T.n9, .fld upd_same (by rw [upd_ne ne10, upd_same]), ?_⟩⟩
    refine ⟨_, rfl, _, rfl, fun a11 d11 ha11 hd11 ne11 => ⟨a11, _, _, rfl, T.c10.cls, T.n10, .fld upd_same (by rw [upd_ne ne11, upd_same]), ?_⟩⟩
    refine ⟨_, rfl, _, rfl, fun a12 d12 ha12 hd12 ne12 => ⟨a12, _, _, rfl, T.c11.cls, T.n11, .fld upd_same (by rw [upd_ne ne12, upd_same]), ?_⟩⟩
    refine ⟨(by show 3 ≤ sizeLine; decide), fun m3 hm3 => ⟨l2, m3, List.replicate 9 y, List.replicate 3 y, rfl, rfl, keep_put (Same.trans (Same.trans (same_two ha10 hd10) (same_two ha11 hd11)) (same_two ha12 hd12)) upd_same hm3, upd_same, (by show 9 + 3 ≤ sizeLine; decide), fun l3 hl3 => ?_⟩⟩
    have t3 := Same.trans (Same.trans (Same.trans t2 (Same.trans (Same.trans (same_two ha10 hd10) (same_two ha11 hd11)) (same_two ha12 hd12))) (same_put (u := .lst (List.replicate 3 y)) hm3)) (same_put (u := .lst (List.replicate 12 y)) hl3)
    refine ⟨_, rfl, ?_⟩
    refine ⟨_, rfl, _, rfl, fun a13 d13 ha13 hd13 ne13 => ⟨a13, _, _, rfl, T.c12.cls, T.n12, .fld upd_same (by rw [upd_ne ne13, upd_same]), ?_⟩⟩
    refine ⟨_, rfl, _, rfl, fun a14 d14 ha14 hd14 ne14 => ⟨a14, _, _, rfl, T.c13.cls, T.n13, .fld upd_same (by rw [upd_ne ne14, upd_same]), ?_⟩⟩
    refine ⟨_, rfl, _, rfl, fun a15 d15 ha15 hd15 ne15 => ⟨a15, _, _, rfl, T.c14.cls, T.n14, .fld upd_same (by rw [upd_ne ne15, upd_same]), ?_⟩⟩
    refine ⟨(by show 3 ≤ sizeLine; decide), fun m4 hm4 => ⟨l3, m4, List.replicate 12 y, List.replicate 3 y, rfl, rfl, keep_put (Same.trans (Same.trans (same_two ha13 hd13) (same_two ha14 hd14)) (same_two ha15 hd15)) upd_same hm4, upd_same, (by show 12 + 3 ≤ sizeLine; decide), fun l4 hl4 => ?_⟩⟩
    have t4 := Same.trans (Same.trans (Same.trans t3 (Same.trans (Same.trans (same_two ha13 hd13) (same_two ha14 hd14)) (same_two ha15 hd15))) (same_put (u := .lst (List.replicate 3 y)) hm4)) (same_put (u := .lst (List.replicate 15 y)) hl4)
    refine ⟨_, rfl, ?_⟩
    refine ⟨_, rfl, _, rfl, fun a16 d16 ha16 hd16 ne16 => ⟨a16, _, _, rfl, T.c15.cls, T.n15, .fld upd_same (by rw [upd_ne ne16, upd_same]), ?_⟩⟩
    refine ⟨_, rfl, _, rfl, fun a17 d17 ha17 hd17 ne17 => ⟨a17, _, _, rfl, T.c16.cls, T.n16, .fld upd_same (by rw [upd_ne ne17, upd_same]), ?_⟩⟩
    refine ⟨_, rfl, _, rfl, fun a18 d18 ha18 hd18 ne18 => ⟨a18, _, _, rfl, T.c17.cls, T.n17, .fld upd_same (by rw [upd_ne ne18, upd_same]), ?_⟩⟩
    refine ⟨(by show 3 ≤ sizeLine; decide), fun m5 hm5 => ⟨l4, m5, List.replicate 15 y, List.replicate 3 y, rfl, rfl, keep_put (Same.trans (Same.trans (same_two ha16 hd16) (same_two ha17 hd17)) (same_two ha18 hd18)) upd_same hm5, upd_same, (by show 15 + 3 ≤ sizeLine; decide), fun l5 hl5 => ?_⟩⟩
    have t5 := Same.trans (Same.trans (Same.trans t4 (Same.trans (Same.trans (same_two ha16 hd16) (same_two ha17 hd17)) (same_two ha18 hd18))) (same_put (u := .lst (List.replicate 3 y)) hm5)) (same_put (u := .lst (List.replicate 18 y)) hl5)
    refine ⟨_, rfl, ?_⟩
    refine ⟨_, rfl, _, rfl, fun a19 d19 ha19 hd19 ne19 => ⟨a19, _, _, rfl, T.c18.cls, T.n18, .fld upd_same (by rw [upd_ne ne19, upd_same]), ?_⟩⟩
    refine ⟨_, rfl, _, rfl, fun a20 d20 ha20 hd20 ne20 => ⟨a20, _, _, rfl, T.c19.cls, T.n19, .fld upd_same (by rw [upd_ne ne20, upd_same]), ?_⟩⟩
    refine ⟨_, rfl, _, rfl, fun a21 d21 ha21 hd21 ne21 => ⟨a21, _, _, rfl, T.c20.cls, T.n20, .fld upd_same (by rw [upd_ne ne21, upd_same]), ?_⟩⟩
    refine ⟨(by show 3 ≤ sizeLine; decide), fun m6 hm6 => ⟨l5, m6, List.replicate 18 y, List.replicate 3 y, rfl, rfl, keep_put (Same.trans (Same.trans (same_two ha19 hd19) (same_two ha20 hd20)) (same_two ha21 hd21)) upd_same hm6, upd_same, (by show 18 + 3 ≤ sizeLine; decide), fun l6 hl6 => ?_⟩⟩
    have t6 := Same.trans (Same.trans (Same.trans t5 (Same.trans (Same.trans (same_two ha19 hd19) (same_two ha20 hd20)) (same_two ha21 hd21))) (same_put (u := .lst (List.replicate 3 y)) hm6)) (same_put (u := .lst (List.replicate 21 y)) hl6)
    refine ⟨_, rfl, ?_⟩
    refine ⟨_, rfl, _, rfl, fun a22 d22 ha22 hd22 ne22 => ⟨a22, _, _, rfl, T.c21.cls, T.n21, .fld upd_same (by rw [upd_ne ne22, upd_same]), ?_⟩⟩
    refine ⟨(by show 1 ≤ sizeLine; decide), fun m7 hm7 => ⟨l6, m7, List.replicate 21 y, List.replicate 1 y, rfl, rfl, keep_put (same_two ha22 hd22) upd_same hm7, upd_same, (by show 21 + 1 ≤ sizeLine; decide), fun l7 hl7 => ?_⟩⟩
    have t7 := Same.trans (Same.trans (Same.trans t6 (same_two ha22 hd22)) (same_put (u := .lst (List.replicate 1 y)) hm7)) (same_put (u := .lst (List.replicate 22 y)) hl7)
    exact k _ l7 t7 (Same.free (Same.trans (Same.trans t6 (same_two ha22 hd22)) (same_put hm7)) hl7) upd_same
theorem scPlc : FnScope ["thing", "found"] ["thing"] (defScope sPlc) := ⟨rfl, rfl, rfl, by decide +kernel, rfl, by decide +kernel, by decide +kernel⟩
theorem ok_plc (F : Fun K "_law_placed" "_law_placed" sPlc f fd) (T : Cs P w K mg base) : FnOk P w K mg base CX0 3 f fd ["thing"] spFld := by
  refine F.ok scPlc (fun vs H Q E h => ?_) (fun cdv A outer s H vs Q E hr h => ?_)
  · obtain ⟨y, rfl, _⟩ := h
    rfl
  · obtain ⟨y, rfl, k⟩ := h
    refine ⟨_, (pss_cons (ps_set (i := 1) scPlc.nd rfl (.inl rfl) (pe_lst (pa_cons (pe_xfld (pe_mkP T.c0 hr rfl (pa_cons (pv 0) pa_nil))) (pa_cons (pe_xfld (pe_mkP T.c1 hr rfl (pa_cons (pv 0) pa_nil))) (pa_cons (pe_xfld (pe_mkP T.c2 hr rfl (pa_cons (pv 0) pa_nil))) pa_nil))))) (pss_cons (ps_set (i := 1) scPlc.nd rfl (.inl rfl) (pe_op op_cat (pv 1) (pe_lst (pa_cons (pe_xfld (pe_mkP T.c3 hr rfl (pa_cons (pv 0) pa_nil))) (pa_cons (pe_xfld (pe_mkP T.c4 hr rfl (pa_cons (pv 0) pa_nil))) (pa_cons (pe_xfld (pe_mkP T.c5 hr rfl (pa_cons (pv 0) pa_nil))) pa_nil)))))) (pss_cons (ps_set (i := 1) scPlc.nd rfl (.inl rfl) (pe_op op_cat (pv 1) (pe_lst (pa_cons (pe_xfld (pe_mkP T.c6 hr rfl (pa_cons (pv 0) pa_nil))) (pa_cons (pe_xfld (pe_mkP T.c7 hr rfl (pa_cons (pv 0) pa_nil))) (pa_cons (pe_xfld (pe_mkP T.c8 hr rfl (pa_cons (pv 0) pa_nil))) pa_nil)))))) (pss_cons (ps_set (i := 1) scPlc.nd rfl (.inl rfl) (pe_op op_cat (pv 1) (pe_lst (pa_cons (pe_xfld (pe_mkP T.c9 hr rfl (pa_cons (pv 0) pa_nil))) (pa_cons (pe_xfld (pe_mkP T.c10 hr rfl (pa_cons (pv 0) pa_nil))) (pa_cons (pe_xfld (pe_mkP T.c11 hr rfl (pa_cons (pv 0) pa_nil))) pa_nil)))))) (pss_cons (ps_set (i := 1) scPlc.nd rfl (.inl rfl) (pe_op op_cat (pv 1) (pe_lst (pa_cons (pe_xfld (pe_mkP T.c12 hr rfl (pa_cons (pv 0) pa_nil))) (pa_cons (pe_xfld (pe_mkP T.c13 hr rfl (pa_cons (pv 0) pa_nil))) (pa_cons (pe_xfld (pe_mkP T.c14 hr rfl (pa_cons (pv 0) pa_nil))) pa_nil)))))) (pss_cons (ps_set (i := 1) scPlc.nd rfl (.inl rfl) (pe_op op_cat (pv 1) (pe_lst (pa_cons (pe_xfld (pe_mkP T.c15 hr rfl (pa_cons (pv 0) pa_nil))) (pa_cons (pe_xfld (pe_mkP T.c16 hr rfl (pa_cons (pv 0) pa_nil))) (pa_cons (pe_xfld (pe_mkP T.c17 hr rfl (pa_cons (pv 0) pa_nil))) pa_nil)))))) (pss_cons (ps_set (i := 1) scPlc.nd rfl (.inl rfl) (pe_op op_cat (pv 1) (pe_lst (pa_cons (pe_xfld (pe_mkP T.c18 hr rfl (pa_cons (pv 0) pa_nil))) (pa_cons (pe_xfld (pe_mkP T.c19 hr rfl (pa_cons (pv 0) pa_nil))) (pa_cons (pe_xfld (pe_mkP T.c20 hr rfl (pa_cons (pv 0) pa_nil))) pa_nil)))))) (pss_one (ps_ret (pe_op op_cat (pv 1) (pe_lst (pa_cons (pe_xfld (pe_mkP T.c21 hr rfl (pa_cons (pv 0) pa_nil))) pa_nil)))))))))))), ?_⟩
    refine ⟨_, rfl, _, rfl, fun a1 d1 ha1 hd1 ne1 => ⟨a1, _, _, rfl, T.c0.cls, T.n0, .fld upd_same (by rw [upd_ne ne1, upd_same]), ?_⟩⟩
    refine ⟨_, rfl, _, rfl, fun a2 d2 ha2 hd2 ne2 => ⟨a2, _, _, rfl, T.c1.cls, T.n1, .fld upd_same (by rw [upd_ne ne2, upd_same]), ?_⟩⟩
    refine ⟨_, rfl, _, rfl, fun a3 d3 ha3 hd3 ne3 => ⟨a3, _, _, rfl, T.c2.cls, T.n2, .fld upd_same (by rw [upd_ne ne3, upd_same]), ?_⟩⟩
    refine ⟨(by show 3 ≤ sizeLine; decide), fun l0 hl0 => ?_⟩
    have t0 := Same.trans (Same.trans (Same.trans (same_two ha1 hd1) (same_two ha2 hd2)) (same_two ha3 hd3)) (same_put (u := .lst (List.replicate 3 y)) hl0)
    refine ⟨_, rfl, ?_⟩
    refine ⟨_, rfl, _, rfl, fun a4 d4 ha4 hd4 ne4 => ⟨a4, _, _, rfl, T.c3.cls, T.n3, .fld upd_same (by rw [upd_ne ne4, upd_same]), ?_⟩⟩
    refine ⟨_, rfl, _, rfl, fun a5 d5 ha5 hd5 ne5 => ⟨a5, _, _, rfl, T.c4.cls, T.n4, .fld upd_same (by rw [upd_ne ne5, upd_same]), ?_⟩⟩
    refine ⟨_, rfl, _, rfl, fun a6 d6 ha6 hd6 ne6 => ⟨a6, _, _, rfl, T.c5.cls, T.n5, .fld upd_same (by rw [upd_ne ne6, upd_same]), ?_⟩⟩
    refine ⟨(by show 3 ≤ sizeLine; decide), fun m1 hm1 => ⟨l0, m1, List.replicate 3 y, List.replicate 3 y, rfl, rfl, keep_put (Same.trans (Same.trans (same_two ha4 hd4) (same_two ha5 hd5)) (same_two ha6 hd6)) upd_same hm1, upd_same, (by show 3 + 3 ≤ sizeLine; decide), fun l1 hl1 => ?_⟩⟩
    have t1 := Same.trans (Same.trans (Same.trans t0 (Same.trans (Same.trans (same_two ha4 hd4) (same_two ha5 hd5)) (same_two ha6 hd6))) (same_put (u := .lst (List.replicate 3 y)) hm1)) (same_put (u := .lst (List.replicate 6 y)) hl1)
    refine ⟨_, rfl, ?_⟩
    refine ⟨_, rfl, _, rfl, fun a7 d7 ha7 hd7 ne7 => ⟨a7, _, _, rfl, T.c6.cls, T.n6, .fld upd_same (by rw [upd_ne ne7, upd_same]), ?_⟩⟩
    refine ⟨_, rfl, _, rfl, fun a8 d8 ha8 hd8 ne8 => ⟨a8, _, _, rfl, T.c7.cls, T.n7, .fld upd_same (by rw [upd_ne ne8, upd_same]), ?_⟩⟩
    refine ⟨_, rfl, _, rfl, fun a9 d9 ha9 hd9 ne9 => ⟨a9, _, _, rfl, T.c8.cls, T.n8, .fld upd_same (by rw [upd_ne ne9, upd_same]), ?_⟩⟩
    refine ⟨(by show 3 ≤ sizeLine; decide), fun m2 hm2 => ⟨l1, m2, List.replicate 6 y, List.replicate 3 y, rfl, rfl, keep_put (Same.trans (Same.trans (same_two ha7 hd7) (same_two ha8 hd8)) (same_two ha9 hd9)) upd_same hm2, upd_same, (by show 6 + 3 ≤ sizeLine; decide), fun l2 hl2 => ?_⟩⟩
    have t2 := Same.trans (Same.trans (Same.trans t1 (Same.trans (Same.trans (same_two ha7 hd7) (same_two ha8 hd8)) (same_two ha9 hd9))) (same_put (u := .lst (List.replicate 3 y)) hm2)) (same_put (u := .lst (List.replicate 9 y)) hl2)
    refine ⟨_, rfl, ?_⟩
    refine ⟨_, rfl, _, rfl, fun a10 d10 ha10 hd10 ne10 => ⟨a10, _, _, rfl, T.c9.cls, T.n9, .fld upd_same (by rw [upd_ne ne10, upd_same]), ?_⟩⟩
    refine ⟨_, rfl, _, rfl, fun a11 d11 ha11 hd11 ne11 => ⟨a11, _, _, rfl, T.c10.cls, T.n10, .fld upd_same (by rw [upd_ne ne11, upd_same]), ?_⟩⟩
    refine ⟨_, rfl, _, rfl, fun a12 d12 ha12 hd12 ne12 => ⟨a12, _, _, rfl, T.c11.cls, T.n11, .fld upd_same (by rw [upd_ne ne12, upd_same]), ?_⟩⟩
    refine ⟨(by show 3 ≤ sizeLine; decide), fun m3 hm3 => ⟨l2, m3, List.replicate 9 y, List.replicate 3 y, rfl, rfl, keep_put (Same.trans (Same.trans (same_two ha10 hd10) (same_two ha11 hd11)) (same_two ha12 hd12)) upd_same hm3, upd_same, (by show 9 + 3 ≤ sizeLine; decide), fun l3 hl3 => ?_⟩⟩
    have t3 := Same.trans (Same.trans (Same.trans t2 (Same.trans (Same.trans (same_two ha10 hd10) (same_two ha11 hd11)) (same_two ha12 hd12))) (same_put (u := .lst (List.replicate 3 y)) hm3)) (same_put (u := .lst (List.replicate 12 y)) hl3)
    refine ⟨_, rfl, ?_⟩
    refine ⟨_, rfl, _, rfl, fun a13 d13 ha13 hd13 ne13 => ⟨a13, _, _, rfl, T.c12.cls, T.n12, .fld upd_same (by rw [upd_ne ne13, upd_same]), ?_⟩⟩
    refine ⟨_, rfl, _, rfl, fun a14 d14 ha14 hd14 ne14 => ⟨a14, _, _, rfl, T.c13.cls, T.n13, .fld upd_same (by rw [upd_ne ne14, upd_same]), ?_⟩⟩
    refine ⟨_, rfl, _, rfl, fun a15 d15 ha15 hd15 ne15 => ⟨a15, _, _, rfl, T.c14.cls, T.n14, .fld upd_same (by rw [upd_ne ne15, upd_same]), ?_⟩⟩
    refine ⟨(by show 3 ≤ sizeLine; decide), fun m4 hm4 => ⟨l3, m4, List.replicate 12 y, List.replicate 3 y, rfl, rfl, keep_put (Same.trans (Same.trans (same_two ha13 hd13) (same_two ha14 hd14)) (same_two ha15 hd15)) upd_same hm4, upd_same, (by show 12 + 3 ≤ sizeLine; decide), fun l4 hl4 => ?_⟩⟩
    have t4 := Same.trans (Same.trans (Same.trans t3 (Same.trans (Same.trans (same_two ha13 hd13) (same_two ha14 hd14)) (same_two ha15 hd15))) (same_put (u := .lst (List.replicate 3 y)) hm4)) (same_put (u := .lst (List.replicate 15 y)) hl4)
    refine ⟨_, rfl, ?_⟩
    refine ⟨_, rfl, _, rfl, fun a16 d16 ha16 hd16 ne16 => ⟨a16, _, _, rfl, T.c15.cls, T.n15, .fld upd_same (by rw [upd_ne ne16, upd_same]), ?_⟩⟩
    refine ⟨_, rfl, _, rfl, fun a17 d17 ha17 hd17 ne17 => ⟨a17, _, _, rfl, T.c16.cls, T.n16, .fld upd_same (by rw [upd_ne ne17, upd_same]), ?_⟩⟩
    refine ⟨_, rfl, _, rfl, fun a18 d18 ha18 hd18 ne18 => ⟨a18, _, _, rfl, T.c17.cls, T.n17, .fld upd_same (by rw [upd_ne ne18, upd_same]), ?_⟩⟩
    refine ⟨(by show 3 ≤ sizeLine; decide), fun m5 hm5 => ⟨l4, m5, List.replicate 15 y, List.replicate 3 y, rfl, rfl, keep_put (Same.trans (Same.trans (same_two ha16 hd16) (same_two ha17 hd17)) (same_two ha18 hd18)) upd_same hm5, upd_same, (by show 15 + 3 ≤ sizeLine; decide), fun l5 hl5 => ?_⟩⟩
    have t5 := Same.trans (Same.trans (Same.trans t4 (Same.trans (Same.trans (same_two ha16 hd16) (same_two ha17 hd17)) (same_two ha18 hd18))) (same_put (u := .lst (List.replicate 3 y)) hm5)) (same_put (u := .lst (List.replicate 18 y)) hl5)
    refine ⟨_, rfl, ?_⟩
    refine ⟨_, rfl, _, rfl, fun a19 d19 ha19 hd19 ne19 => ⟨a19, _, _, rfl, T.c18.cls, T.n18, .fld upd_same (by rw [upd_ne ne19, upd_same]), ?_⟩⟩
    refine ⟨_, rfl, _, rfl, fun a20 d20 ha20 hd20 ne20 => ⟨a20, _, _, rfl, T.c19.cls, T.n19, .fld upd_same (by rw [upd_ne ne20, upd_same]), ?_⟩⟩
    refine ⟨_, rfl, _, rfl, fun a21 d21 ha21 hd21 ne21 => ⟨a21, _, _, rfl, T.c20.cls, T.n20, .fld upd_same (by rw [upd_ne ne21, upd_same]), ?_⟩⟩
    refine ⟨(by show 3 ≤ sizeLine; decide), fun m6 hm6 => ⟨l5, m6, List.replicate 18 y, List.replicate 3 y, rfl, rfl, keep_put (Same.trans (Same.trans (same_two ha19 hd19) (same_two ha20 hd20)) (same_two ha21 hd21)) upd_same hm6, upd_same, (by show 18 + 3 ≤ sizeLine; decide), fun l6 hl6 => ?_⟩⟩
    have t6 := Same.trans (Same.trans (Same.trans t5 (Same.trans (Same.trans (same_two ha19 hd19) (same_two ha20 hd20)) (same_two ha21 hd21))) (same_put (u := .lst (List.replicate 3 y)) hm6)) (same_put (u := .lst (List.replicate 21 y)) hl6)
    refine ⟨_, rfl, ?_⟩
    refine ⟨_, rfl, _, rfl, fun a22 d22 ha22 hd22 ne22 => ⟨a22, _, _, rfl, T.c21.cls, T.n21, .fld upd_same (by rw [upd_ne ne22, upd_same]), ?_⟩⟩
    refine ⟨(by show 1 ≤ sizeLine; decide), fun m7 hm7 => ⟨l6, m7, List.replicate 21 y, List.replicate 1 y, rfl, rfl, keep_put (same_two ha22 hd22) upd_same hm7, upd_same, (by show 21 + 1 ≤ sizeLine; decide), fun l7 hl7 => ?_⟩⟩
    have t7 := Same.trans (Same.trans (Same.trans t6 (same_two ha22 hd22)) (same_put (u := .lst (List.replicate 1 y)) hm7)) (same_put (u := .lst (List.replicate 22 y)) hl7)
    exact k _ l7 t7 (Same.free (Same.trans (Same.trans t6 (same_two ha22 hd22)) (same_put hm7)) hl7) upd_same
/-- the exceptions made so far -/
def ExsL (K : PySem.W.Frag) (H : Hp) (as : List Addr) (n : Nat) : Prop := as.length = n ∧ ∀ i a, as[i]? = some a → ∃ o, XAt H a (cA K i) o
theorem exs_nil {K : PySem.W.Frag} {H : Hp} : ExsL K H [] 0 := ⟨rfl, fun i a h => by simp at h⟩
theorem exs_same {K : PySem.W.Frag} {H H' : Hp} {as : List Addr} {n : Nat} (x : ExsL K H as n) (s : Same H H') : ExsL K H' as n := ⟨x.1, fun i a h => by
  obtain ⟨o, q⟩ := x.2 i a h
  exact ⟨o, q.same s⟩⟩
theorem exs_add {K : PySem.W.Frag} {H H' : Hp} {as : List Addr} {n : Nat} {a : Addr} {o : Option (Str × V)} (x : ExsL K H as n) (s : Same H H') (xa : XAt H' a (cA K n) o) : ExsL K H' (as ++ [a]) (n + 1) := by
  refine ⟨by rw [List.length_append, x.1]; rfl, fun i b h => ?_⟩
  by_cases hi : i < as.length
  · rw [List.getElem?_append_left hi] at h
    exact (exs_same x s).2 i b h
  · rw [List.getElem?_append_right (by omega)] at h
    have e : i - as.length = 0 := by
      cases q : i - as.length with
      | zero => rfl
      | succ m => rw [q] at h; simp at h
    rw [e] at h
    have eb : a = b := Option.some.inj h
    have ei : i = n := by have := x.1; omega
    rw [← eb, ei]
    exact ⟨o, xa⟩
theorem exs_fld {K : PySem.W.Frag} {H : Hp} {as : List Addr} {n : Nat} {a d : Addr} {fn : Str} {y : V} (x : ExsL K H as n) (ha : H a = none) (hd : H d = none) (ne : d ≠ a) : ExsL K (upd (upd H d (exd d [(fn, y)])) a (exo a (cA K n) (some d))) (as ++ [a]) (n + 1) :=
  exs_add x (same_two ha hd) (.fld upd_same (by rw [upd_ne ne, upd_same]))
theorem exs_bare {K : PySem.W.Frag} {H : Hp} {as : List Addr} {n : Nat} {a : Addr} (x : ExsL K H as n) (ha : H a = none) : ExsL K (upd H a (ExO (.ref (cA K n)) a)) (as ++ [a]) (n + 1) := exs_add x (same_put ha) (.bare upd_same)
theorem scObj : FnScope ["thing", "found"] ["thing"] (defScope sObj) := ⟨rfl, rfl, rfl, by decide +kernel, rfl, by decide +kernel, by decide +kernel⟩
theorem ok_obj (F : Fun K "_law_objects" "_law_objects" sObj f fd) (T : Cs P w K mg base) : FnOk P w K mg base CX0 3 f fd ["thing"] (spObj K) := by
  refine F.ok scObj (fun vs H Q E h => ?_) (fun cdv A outer s H vs Q E hr h => ?_)
  · obtain ⟨y, rfl, _⟩ := h
    rfl
  · obtain ⟨y, rfl, k⟩ := h
    refine ⟨_, (pss_cons (ps_set (i := 1) scObj.nd rfl (.inl rfl) (pe_lst (pa_cons (pe_mkP T.c0 hr rfl (pa_cons (pv 0) pa_nil)) (pa_cons (pe_mkP T.c1 hr rfl (pa_cons (pv 0) pa_nil)) (pa_cons (pe_mkP T.c2 hr rfl (pa_cons (pv 0) pa_nil)) (pa_cons (pe_mkP T.c3 hr rfl (pa_cons (pv 0) pa_nil)) (pa_cons (pe_mkP T.c4 hr rfl (pa_cons (pv 0) pa_nil)) pa_nil))))))) (pss_cons (ps_set (i := 1) scObj.nd rfl (.inl rfl) (pe_op op_cat (pv 1) (pe_lst (pa_cons (pe_mkP T.c5 hr rfl (pa_cons (pv 0) pa_nil)) (pa_cons (pe_mkP T.c6 hr rfl (pa_cons (pv 0) pa_nil)) (pa_cons (pe_mkP T.c7 hr rfl (pa_cons (pv 0) pa_nil)) (pa_cons (pe_mkP T.c8 hr rfl (pa_cons (pv 0) pa_nil)) (pa_cons (pe_mkP T.c9 hr rfl (pa_cons (pv 0) pa_nil)) pa_nil)))))))) (pss_cons (ps_set (i := 1) scObj.nd rfl (.inl rfl) (pe_op op_cat (pv 1) (pe_lst (pa_cons (pe_mkP T.c10 hr rfl (pa_cons (pv 0) pa_nil)) (pa_cons (pe_mkP T.c11 hr rfl (pa_cons (pv 0) pa_nil)) (pa_cons (pe_mkP T.c12 hr rfl (pa_cons (pv 0) pa_nil)) (pa_cons (pe_mkP T.c13 hr rfl (pa_cons (pv 0) pa_nil)) (pa_cons (pe_mkP T.c14 hr rfl (pa_cons (pv 0) pa_nil)) pa_nil)))))))) (pss_cons (ps_set (i := 1) scObj.nd rfl (.inl rfl) (pe_op op_cat (pv 1) (pe_lst (pa_cons (pe_mkP T.c15 hr rfl (pa_cons (pv 0) pa_nil)) (pa_cons (pe_mkP T.c16 hr rfl (pa_cons (pv 0) pa_nil)) (pa_cons (pe_mkP T.c17 hr rfl (pa_cons (pv 0) pa_nil)) (pa_cons (pe_mkP T.c18 hr rfl (pa_cons (pv 0) pa_nil)) (pa_cons (pe_mkP T.c19 hr rfl (pa_cons (pv 0) pa_nil)) pa_nil)))))))) (pss_one (ps_ret (pe_op op_cat (pv 1) (pe_lst (pa_cons (pe_mkP T.c20 hr rfl (pa_cons (pv 0) pa_nil)) (pa_cons (pe_mkP T.c21 hr rfl (pa_cons (pv 0) pa_nil)) (pa_cons (pe_mk0 T.x22 T.g22 T.c22.kC rfl) pa_nil))))))))))), ?_⟩
    have x0 : ExsL K H [] 0 := exs_nil
    have t0 : Same H H := Same.refl H
    refine ⟨_, rfl, _, rfl, fun a1 d1 ha1 hd1 ne1 => ?_⟩
    have x1 : ExsL K _ [a1] 1 := exs_fld (y := y) (fn := "value") x0 ha1 hd1 ne1
    refine ⟨_, rfl, _, rfl, fun a2 d2 ha2 hd2 ne2 => ?_⟩
    have x2 : ExsL K _ [a1, a2] 2 := exs_fld (y := y) (fn := "value") x1 ha2 hd2 ne2
    refine ⟨_, rfl, _, rfl, fun a3 d3 ha3 hd3 ne3 => ?_⟩
    have x3 : ExsL K _ [a1, a2, a3] 3 := exs_fld (y := y) (fn := "value") x2 ha3 hd3 ne3
    refine ⟨_, rfl, _, rfl, fun a4 d4 ha4 hd4 ne4 => ?_⟩
    have x4 : ExsL K _ [a1, a2, a3, a4] 4 := exs_fld (y := y) (fn := "value") x3 ha4 hd4 ne4
    refine ⟨_, rfl, _, rfl, fun a5 d5 ha5 hd5 ne5 => ?_⟩
    have x5 : ExsL K _ [a1, a2, a3, a4, a5] 5 := exs_fld (y := y) (fn := "value") x4 ha5 hd5 ne5
    refine ⟨(by show 5 ≤ sizeLine; decide), fun l0 hl0 => ?_⟩
    have t1 := Same.trans (Same.trans (Same.trans (Same.trans (Same.trans (same_two (u := exd d1 [("value", y)]) (v := exo a1 (cA K 0) (some d1)) ha1 hd1) (same_two (u := exd d2 [("value", y)]) (v := exo a2 (cA K 1) (some d2)) ha2 hd2)) (same_two (u := exd d3 [("value", y)]) (v := exo a3 (cA K 2) (some d3)) ha3 hd3)) (same_two (u := exd d4 [("value", y)]) (v := exo a4 (cA K 3) (some d4)) ha4 hd4)) (same_two (u := exd d5 [("value", y)]) (v := exo a5 (cA K 4) (some d5)) ha5 hd5)) (same_put (u := .lst [.ref a1, .ref a2, .ref a3, .ref a4, .ref a5]) hl0)
    have xA0 := exs_same x5 (same_put (u := .lst [.ref a1, .ref a2, .ref a3, .ref a4, .ref a5]) hl0)
    refine ⟨_, rfl, ?_⟩
    refine ⟨_, rfl, _, rfl, fun a6 d6 ha6 hd6 ne6 => ?_⟩
    have x6 : ExsL K _ [a1, a2, a3, a4, a5, a6] 6 := exs_fld (y := y) (fn := "value") xA0 ha6 hd6 ne6
    refine ⟨_, rfl, _, rfl, fun a7 d7 ha7 hd7 ne7 => ?_⟩
    have x7 : ExsL K _ [a1, a2, a3, a4, a5, a6, a7] 7 := exs_fld (y := y) (fn := "value") x6 ha7 hd7 ne7
    refine ⟨_, rfl, _, rfl, fun a8 d8 ha8 hd8 ne8 => ?_⟩
    have x8 : ExsL K _ [a1, a2, a3, a4, a5, a6, a7, a8] 8 := exs_fld (y := y) (fn := "value") x7 ha8 hd8 ne8
    refine ⟨_, rfl, _, rfl, fun a9 d9 ha9 hd9 ne9 => ?_⟩
    have x9 : ExsL K _ [a1, a2, a3, a4, a5, a6, a7, a8, a9] 9 := exs_fld (y := y) (fn := "value") x8 ha9 hd9 ne9
    refine ⟨_, rfl, _, rfl, fun a10 d10 ha10 hd10 ne10 => ?_⟩
    have x10 : ExsL K _ [a1, a2, a3, a4, a5, a6, a7, a8, a9, a10] 10 := exs_fld (y := y) (fn := "value") x9 ha10 hd10 ne10
    refine ⟨(by show 5 ≤ sizeLine; decide), fun m1 hm1 => ⟨l0, m1, [.ref a1, .ref a2, .ref a3, .ref a4, .ref a5], [.ref a6, .ref a7, .ref a8, .ref a9, .ref a10], rfl, rfl, keep_put (Same.trans (Same.trans (Same.trans (Same.trans (same_two (u := exd d6 [("value", y)]) (v := exo a6 (cA K 5) (some d6)) ha6 hd6) (same_two (u := exd d7 [("value", y)]) (v := exo a7 (cA K 6) (some d7)) ha7 hd7)) (same_two (u := exd d8 [("value", y)]) (v := exo a8 (cA K 7) (some d8)) ha8 hd8)) (same_two (u := exd d9 [("value", y)]) (v := exo a9 (cA K 8) (some d9)) ha9 hd9)) (same_two (u := exd d10 [("value", y)]) (v := exo a10 (cA K 9) (some d10)) ha10 hd10)) upd_same hm1, upd_same, (by show 5 + 5 ≤ sizeLine; decide), fun l1 hl1 => ?_⟩⟩
    have t2 := Same.trans (Same.trans (Same.trans t1 (Same.trans (Same.trans (Same.trans (Same.trans (same_two (u := exd d6 [("value", y)]) (v := exo a6 (cA K 5) (some d6)) ha6 hd6) (same_two (u := exd d7 [("value", y)]) (v := exo a7 (cA K 6) (some d7)) ha7 hd7)) (same_two (u := exd d8 [("value", y)]) (v := exo a8 (cA K 7) (some d8)) ha8 hd8)) (same_two (u := exd d9 [("value", y)]) (v := exo a9 (cA K 8) (some d9)) ha9 hd9)) (same_two (u := exd d10 [("value", y)]) (v := exo a10 (cA K 9) (some d10)) ha10 hd10))) (same_put (u := .lst [.ref a6, .ref a7, .ref a8, .ref a9, .ref a10]) hm1)) (same_put (u := .lst [.ref a1, .ref a2, .ref a3, .ref a4, .ref a5, .ref a6, .ref a7, .ref a8, .ref a9, .ref a10]) hl1)
    have xA1 := exs_same x10 (Same.trans (same_put (u := .lst [.ref a6, .ref a7, .ref a8, .ref a9, .ref a10]) hm1) (same_put (u := .lst [.ref a1, .ref a2, .ref a3, .ref a4, .ref a5, .ref a6, .ref a7, .ref a8, .ref a9, .ref a10]) hl1))
    refine ⟨_, rfl, ?_⟩
    refine ⟨_, rfl, _, rfl, fun a11 d11 ha11 hd11 ne11 => ?_⟩
    have x11 : ExsL K _ [a1, a2, a3, a4, a5, a6, a7, a8, a9, a10, a11] 11 := exs_fld (y := y) (fn := "value") xA1 ha11 hd11 ne11
    refine ⟨_, rfl, _, rfl, fun a12 d12 ha12 hd12 ne12 => ?_⟩
    have x12 : ExsL K _ [a1, a2, a3, a4, a5, a6, a7, a8, a9, a10, a11, a12] 12 := exs_fld (y := y) (fn := "value") x11 ha12 hd12 ne12
    refine ⟨_, rfl, _, rfl, fun a13 d13 ha13 hd13 ne13 => ?_⟩
    have x13 : ExsL K _ [a1, a2, a3, a4, a5, a6, a7, a8, a9, a10, a11, a12, a13] 13 := exs_fld (y := y) (fn := "value") x12 ha13 hd13 ne13
    refine ⟨_, rfl, _, rfl, fun a14 d14 ha14 hd14 ne14 => ?_⟩
    have x14 : ExsL K _ [a1, a2, a3, a4, a5, a6, a7, a8, a9, a10, a11, a12, a13, a14] 14 := exs_fld (y := y) (fn := "value") x13 ha14 hd14 ne14
    refine ⟨_, rfl, _, rfl, fun a15 d15 ha15 hd15 ne15 => ?_⟩
    have x15 : ExsL K _ [a1, a2, a3, a4, a5, a6, a7, a8, a9, a10, a11, a12, a13, a14, a15] 15 := exs_fld (y := y) (fn := "value") x14 ha15 hd15 ne15
    refine ⟨(by show 5 ≤ sizeLine; decide), fun m2 hm2 => ⟨l1, m2, [.ref a1, .ref a2, .ref a3, .ref a4, .ref a5, .ref a6, .ref a7, .ref a8, .ref a9, .ref a10], [.ref a11, .ref a12, .ref a13, .ref a14, .ref a15], rfl, rfl, keep_put (Same.trans (Same.trans (Same.trans (Same.trans (same_two (u := exd d11 [("value", y)]) (v := exo a11 (cA K 10) (some d11)) ha11 hd11) (same_two (u := exd d12 [("value", y)]) (v := exo a12 (cA K 11) (some d12)) ha12 hd12)) (same_two (u := exd d13 [("value", y)]) (v := exo a13 (cA K 12) (some d13)) ha13 hd13)) (same_two (u := exd d14 [("value", y)]) (v := exo a14 (cA K 13) (some d14)) ha14 hd14)) (same_two (u := exd d15 [("value", y)]) (v := exo a15 (cA K 14) (some d15)) ha15 hd15)) upd_same hm2, upd_same, (by show 10 + 5 ≤ sizeLine; decide), fun l2 hl2 => ?_⟩⟩
    have t3 := Same.trans (Same.trans (Same.trans t2 (Same.trans (Same.trans (Same.trans (Same.trans (same_two (u := exd d11 [("value", y)]) (v := exo a11 (cA K 10) (some d11)) ha11 hd11) (same_two (u := exd d12 [("value", y)]) (v := exo a12 (cA K 11) (some d12)) ha12 hd12)) (same_two (u := exd d13 [("value", y)]) (v := exo a13 (cA K 12) (some d13)) ha13 hd13)) (same_two (u := exd d14 [("value", y)]) (v := exo a14 (cA K 13) (some d14)) ha14 hd14)) (same_two (u := exd d15 [("value", y)]) (v := exo a15 (cA K 14) (some d15)) ha15 hd15))) (same_put (u := .lst [.ref a11, .ref a12, .ref a13, .ref a14, .ref a15]) hm2)) (same_put (u := .lst [.ref a1, .ref a2, .ref a3, .ref a4, .ref a5, .ref a6, .ref a7, .ref a8, .ref a9, .ref a10, .ref a11, .ref a12, .ref a13, .ref a14, .ref a15]) hl2)
    have xA2 := exs_same x15 (Same.trans (same_put (u := .lst [.ref a11, .ref a12, .ref a13, .ref a14, .ref a15]) hm2) (same_put (u := .lst [.ref a1, .ref a2, .ref a3, .ref a4, .ref a5, .ref a6, .ref a7, .ref a8, .ref a9, .ref a10, .ref a11, .ref a12, .ref a13, .ref a14, .ref a15]) hl2))
    refine ⟨_, rfl, ?_⟩
    refine ⟨_, rfl, _, rfl, fun a16 d16 ha16 hd16 ne16 => ?_⟩
    have x16 : ExsL K _ [a1, a2, a3, a4, a5, a6, a7, a8, a9, a10, a11, a12, a13, a14, a15, a16] 16 := exs_fld (y := y) (fn := "part") xA2 ha16 hd16 ne16
    refine ⟨_, rfl, _, rfl, fun a17 d17 ha17 hd17 ne17 => ?_⟩
    have x17 : ExsL K _ [a1, a2, a3, a4, a5, a6, a7, a8, a9, a10, a11, a12, a13, a14, a15, a16, a17] 17 := exs_fld (y := y) (fn := "at") x16 ha17 hd17 ne17
    refine ⟨_, rfl, _, rfl, fun a18 d18 ha18 hd18 ne18 => ?_⟩
    have x18 : ExsL K _ [a1, a2, a3, a4, a5, a6, a7, a8, a9, a10, a11, a12, a13, a14, a15, a16, a17, a18] 18 := exs_fld (y := y) (fn := "line") x17 ha18 hd18 ne18
    refine ⟨_, rfl, _, rfl, fun a19 d19 ha19 hd19 ne19 => ?_⟩
    have x19 : ExsL K _ [a1, a2, a3, a4, a5, a6, a7, a8, a9, a10, a11, a12, a13, a14, a15, a16, a17, a18, a19] 19 := exs_fld (y := y) (fn := "things") x18 ha19 hd19 ne19
    refine ⟨_, rfl, _, rfl, fun a20 d20 ha20 hd20 ne20 => ?_⟩
    have x20 : ExsL K _ [a1, a2, a3, a4, a5, a6, a7, a8, a9, a10, a11, a12, a13, a14, a15, a16, a17, a18, a19, a20] 20 := exs_fld (y := y) (fn := "word") x19 ha20 hd20 ne20
    refine ⟨(by show 5 ≤ sizeLine; decide), fun m3 hm3 => ⟨l2, m3, [.ref a1, .ref a2, .ref a3, .ref a4, .ref a5, .ref a6, .ref a7, .ref a8, .ref a9, .ref a10, .ref a11, .ref a12, .ref a13, .ref a14, .ref a15], [.ref a16, .ref a17, .ref a18, .ref a19, .ref a20], rfl, rfl, keep_put (Same.trans (Same.trans (Same.trans (Same.trans (same_two (u := exd d16 [("part", y)]) (v := exo a16 (cA K 15) (some d16)) ha16 hd16) (same_two (u := exd d17 [("at", y)]) (v := exo a17 (cA K 16) (some d17)) ha17 hd17)) (same_two (u := exd d18 [("line", y)]) (v := exo a18 (cA K 17) (some d18)) ha18 hd18)) (same_two (u := exd d19 [("things", y)]) (v := exo a19 (cA K 18) (some d19)) ha19 hd19)) (same_two (u := exd d20 [("word", y)]) (v := exo a20 (cA K 19) (some d20)) ha20 hd20)) upd_same hm3, upd_same, (by show 15 + 5 ≤ sizeLine; decide), fun l3 hl3 => ?_⟩⟩
    have t4 := Same.trans (Same.trans (Same.trans t3 (Same.trans (Same.trans (Same.trans (Same.trans (same_two (u := exd d16 [("part", y)]) (v := exo a16 (cA K 15) (some d16)) ha16 hd16) (same_two (u := exd d17 [("at", y)]) (v := exo a17 (cA K 16) (some d17)) ha17 hd17)) (same_two (u := exd d18 [("line", y)]) (v := exo a18 (cA K 17) (some d18)) ha18 hd18)) (same_two (u := exd d19 [("things", y)]) (v := exo a19 (cA K 18) (some d19)) ha19 hd19)) (same_two (u := exd d20 [("word", y)]) (v := exo a20 (cA K 19) (some d20)) ha20 hd20))) (same_put (u := .lst [.ref a16, .ref a17, .ref a18, .ref a19, .ref a20]) hm3)) (same_put (u := .lst [.ref a1, .ref a2, .ref a3, .ref a4, .ref a5, .ref a6, .ref a7, .ref a8, .ref a9, .ref a10, .ref a11, .ref a12, .ref a13, .ref a14, .ref a15, .ref a16, .ref a17, .ref a18, .ref a19, .ref a20]) hl3)
    have xA3 := exs_same x20 (Same.trans (same_put (u := .lst [.ref a16, .ref a17, .ref a18, .ref a19, .ref a20]) hm3) (same_put (u := .lst [.ref a1, .ref a2, .ref a3, .ref a4, .ref a5, .ref a6, .ref a7, .ref a8, .ref a9, .ref a10, .ref a11, .ref a12, .ref a13, .ref a14, .ref a15, .ref a16, .ref a17, .ref a18, .ref a19, .ref a20]) hl3))
    refine ⟨_, rfl, ?_⟩
    refine ⟨_, rfl, _, rfl, fun a21 d21 ha21 hd21 ne21 => ?_⟩
    have x21 : ExsL K _ [a1, a2, a3, a4, a5, a6, a7, a8, a9, a10, a11, a12, a13, a14, a15, a16, a17, a18, a19, a20, a21] 21 := exs_fld (y := y) (fn := "number") xA3 ha21 hd21 ne21
    refine ⟨_, rfl, _, rfl, fun a22 d22 ha22 hd22 ne22 => ?_⟩
    have x22 : ExsL K _ [a1, a2, a3, a4, a5, a6, a7, a8, a9, a10, a11, a12, a13, a14, a15, a16, a17, a18, a19, a20, a21, a22] 22 := exs_fld (y := y) (fn := "word") x21 ha22 hd22 ne22
    refine fun a23 ha23 => ?_
    have x23 : ExsL K _ [a1, a2, a3, a4, a5, a6, a7, a8, a9, a10, a11, a12, a13, a14, a15, a16, a17, a18, a19, a20, a21, a22, a23] 23 := exs_bare x22 ha23
    refine ⟨(by show 3 ≤ sizeLine; decide), fun m4 hm4 => ⟨l3, m4, [.ref a1, .ref a2, .ref a3, .ref a4, .ref a5, .ref a6, .ref a7, .ref a8, .ref a9, .ref a10, .ref a11, .ref a12, .ref a13, .ref a14, .ref a15, .ref a16, .ref a17, .ref a18, .ref a19, .ref a20], [.ref a21, .ref a22, .ref a23], rfl, rfl, keep_put (Same.trans (Same.trans (same_two (u := exd d21 [("number", y)]) (v := exo a21 (cA K 20) (some d21)) ha21 hd21) (same_two (u := exd d22 [("word", y)]) (v := exo a22 (cA K 21) (some d22)) ha22 hd22)) (same_put (u := ExO (.ref (cA K 22)) a23) ha23)) upd_same hm4, upd_same, (by show 20 + 3 ≤ sizeLine; decide), fun l4 hl4 => ?_⟩⟩
    have sm := Same.trans (Same.trans (Same.trans t4 (Same.trans (Same.trans (same_two (u := exd d21 [("number", y)]) (v := exo a21 (cA K 20) (some d21)) ha21 hd21) (same_two (u := exd d22 [("word", y)]) (v := exo a22 (cA K 21) (some d22)) ha22 hd22)) (same_put (u := ExO (.ref (cA K 22)) a23) ha23))) (same_put (u := .lst [.ref a21, .ref a22, .ref a23]) hm4)) (same_put (u := .lst [.ref a1, .ref a2, .ref a3, .ref a4, .ref a5, .ref a6, .ref a7, .ref a8, .ref a9, .ref a10, .ref a11, .ref a12, .ref a13, .ref a14, .ref a15, .ref a16, .ref a17, .ref a18, .ref a19, .ref a20, .ref a21, .ref a22, .ref a23]) hl4)
    have fr := Same.free (Same.trans (Same.trans t4 (Same.trans (Same.trans (same_two (u := exd d21 [("number", y)]) (v := exo a21 (cA K 20) (some d21)) ha21 hd21) (same_two (u := exd d22 [("word", y)]) (v := exo a22 (cA K 21) (some d22)) ha22 hd22)) (same_put (u := ExO (.ref (cA K 22)) a23) ha23))) (same_put (u := .lst [.ref a21, .ref a22, .ref a23]) hm4)) hl4
    have ex := exs_same x23 (Same.trans (same_put (u := .lst [.ref a21, .ref a22, .ref a23]) hm4) (same_put (u := .lst [.ref a1, .ref a2, .ref a3, .ref a4, .ref a5, .ref a6, .ref a7, .ref a8, .ref a9, .ref a10, .ref a11, .ref a12, .ref a13, .ref a14, .ref a15, .ref a16, .ref a17, .ref a18, .ref a19, .ref a20, .ref a21, .ref a22, .ref a23]) hl4))
    exact k _ l4 [a1, a2, a3, a4, a5, a6, a7, a8, a9, a10, a11, a12, a13, a14, a15, a16, a17, a18, a19, a20, a21, a22, a23] sm fr upd_same ex
theorem scCls : FnScope ["one", "found"] ["one"] (defScope sCls) := ⟨rfl, rfl, rfl, by decide +kernel, rfl, by decide +kernel, by decide +kernel⟩
theorem ok_cls (F : Fun K "_law_classes" "_law_classes" sCls f fd) (T : Cs P w K mg base) : FnOk P w K mg base CX0 1 f fd ["one"] (spCls K) := by
  refine F.ok scCls (fun vs H Q E h => ?_) (fun cdv A outer s H vs Q E hr h => ?_)
  · obtain ⟨a, i, o, rfl, _⟩ := h
    rfl
  · obtain ⟨a, i, o, rfl, hi, xa, k⟩ := h
    refine ⟨_, (pss_cons (ps_set (i := 1) scCls.nd rfl (.inl rfl) (pe_lst (pa_cons (pe_callB call_isX rfl T.isi boot_isinstance (pa_cons (pv 0) (pa_cons (pe_glob (v := .ref (cA K 0)) rfl T.c0.gl rfl) pa_nil))) (pa_cons (pe_callB call_isX rfl T.isi boot_isinstance (pa_cons (pv 0) (pa_cons (pe_glob (v := .ref (cA K 1)) rfl T.c1.gl rfl) pa_nil))) (pa_cons (pe_callB call_isX rfl T.isi boot_isinstance (pa_cons (pv 0) (pa_cons (pe_glob (v := .ref (cA K 2)) rfl T.c2.gl rfl) pa_nil))) pa_nil))))) (pss_cons (ps_set (i := 1) scCls.nd rfl (.inl rfl) (pe_op op_cat (pv 1) (pe_lst (pa_cons (pe_callB call_isX rfl T.isi boot_isinstance (pa_cons (pv 0) (pa_cons (pe_glob (v := .ref (cA K 3)) rfl T.c3.gl rfl) pa_nil))) (pa_cons (pe_callB call_isX rfl T.isi boot_isinstance (pa_cons (pv 0) (pa_cons (pe_glob (v := .ref (cA K 4)) rfl T.c4.gl rfl) pa_nil))) (pa_cons (pe_callB call_isX rfl T.isi boot_isinstance (pa_cons (pv 0) (pa_cons (pe_glob (v := .ref (cA K 5)) rfl T.c5.gl rfl) pa_nil))) pa_nil)))))) (pss_cons (ps_set (i := 1) scCls.nd rfl (.inl rfl) (pe_op op_cat (pv 1) (pe_lst (pa_cons (pe_callB call_isX rfl T.isi boot_isinstance (pa_cons (pv 0) (pa_cons (pe_glob (v := .ref (cA K 6)) rfl T.c6.gl rfl) pa_nil))) (pa_cons (pe_callB call_isX rfl T.isi boot_isinstance (pa_cons (pv 0) (pa_cons (pe_glob (v := .ref (cA K 7)) rfl T.c7.gl rfl) pa_nil))) (pa_cons (pe_callB call_isX rfl T.isi boot_isinstance (pa_cons (pv 0) (pa_cons (pe_glob (v := .ref (cA K 8)) rfl T.c8.gl rfl) pa_nil))) pa_nil)))))) (pss_cons (ps_set (i := 1) scCls.nd rfl (.inl rfl) (pe_op op_cat (pv 1) (pe_lst (pa_cons (pe_callB call_isX rfl T.isi boot_isinstance (pa_cons (pv 0) (pa_cons (pe_glob (v := .ref (cA K 9)) rfl T.c9.gl rfl) pa_nil))) (pa_cons (pe_callB call_isX rfl T.isi boot_isinstance (pa_cons (pv 0) (pa_cons (pe_glob (v := .ref (cA K 10)) rfl T.c10.gl rfl) pa_nil))) (pa_cons (pe_callB call_isX rfl T.isi boot_isinstance (pa_cons (pv 0) (pa_cons (pe_glob (v := .ref (cA K 11)) rfl T.c11.gl rfl) pa_nil))) pa_nil)))))) (pss_cons (ps_set (i := 1) scCls.nd rfl (.inl rfl) (pe_op op_cat (pv 1) (pe_lst (pa_cons (pe_callB call_isX rfl T.isi boot_isinstance (pa_cons (pv 0) (pa_cons (pe_glob (v := .ref (cA K 12)) rfl T.c12.gl rfl) pa_nil))) (pa_cons (pe_callB call_isX rfl T.isi boot_isinstance (pa_cons (pv 0) (pa_cons (pe_glob (v := .ref (cA K 13)) rfl T.c13.gl rfl) pa_nil))) (pa_cons (pe_callB call_isX rfl T.isi boot_isinstance (pa_cons (pv 0) (pa_cons (pe_glob (v := .ref (cA K 14)) rfl T.c14.gl rfl) pa_nil))) pa_nil)))))) (pss_cons (ps_set (i := 1) scCls.nd rfl (.inl rfl) (pe_op op_cat (pv 1) (pe_lst (pa_cons (pe_callB call_isX rfl T.isi boot_isinstance (pa_cons (pv 0) (pa_cons (pe_glob (v := .ref (cA K 15)) rfl T.c15.gl rfl) pa_nil))) (pa_cons (pe_callB call_isX rfl T.isi boot_isinstance (pa_cons (pv 0) (pa_cons (pe_glob (v := .ref (cA K 16)) rfl T.c16.gl rfl) pa_nil))) (pa_cons (pe_callB call_isX rfl T.isi boot_isinstance (pa_cons (pv 0) (pa_cons (pe_glob (v := .ref (cA K 17)) rfl T.c17.gl rfl) pa_nil))) pa_nil)))))) (pss_cons (ps_set (i := 1) scCls.nd rfl (.inl rfl) (pe_op op_cat (pv 1) (pe_lst (pa_cons (pe_callB call_isX rfl T.isi boot_isinstance (pa_cons (pv 0) (pa_cons (pe_glob (v := .ref (cA K 18)) rfl T.c18.gl rfl) pa_nil))) (pa_cons (pe_callB call_isX rfl T.isi boot_isinstance (pa_cons (pv 0) (pa_cons (pe_glob (v := .ref (cA K 19)) rfl T.c19.gl rfl) pa_nil))) (pa_cons (pe_callB call_isX rfl T.isi boot_isinstance (pa_cons (pv 0) (pa_cons (pe_glob (v := .ref (cA K 20)) rfl T.c20.gl rfl) pa_nil))) pa_nil)))))) (pss_one (ps_ret (pe_op op_cat (pv 1) (pe_lst (pa_cons (pe_callB call_isX rfl T.isi boot_isinstance (pa_cons (pv 0) (pa_cons (pe_glob (v := .ref (cA K 21)) rfl T.c21.gl rfl) pa_nil))) (pa_cons (pe_callB call_isX rfl T.isi boot_isinstance (pa_cons (pv 0) (pa_cons (pe_glob (v := .ref (cA K 22)) rfl T.g22 rfl) pa_nil))) pa_nil))))))))))))), ?_⟩
    have t0 : Same H H := Same.refl H
    refine ⟨_, rfl, a, cA K i, o, _, _, _, rfl, .own _, xa.same t0, T.xcs i hi, T.kcl, T.kit i 0 hi (by decide), ?_⟩
    refine ⟨_, rfl, a, cA K i, o, _, _, _, rfl, .own _, xa.same t0, T.xcs i hi, T.kcl, T.kit i 1 hi (by decide), ?_⟩
    refine ⟨_, rfl, a, cA K i, o, _, _, _, rfl, .own _, xa.same t0, T.xcs i hi, T.kcl, T.kit i 2 hi (by decide), ?_⟩
    refine ⟨(by show 3 ≤ sizeLine; decide), fun l0 hl0 => ?_⟩
    have t1 := Same.trans t0 (same_put (u := .lst [.bl (decide (i = 0)), .bl (decide (i = 1)), .bl (decide (i = 2))]) hl0)
    refine ⟨_, rfl, ?_⟩
    refine ⟨_, rfl, a, cA K i, o, _, _, _, rfl, .own _, xa.same t1, T.xcs i hi, T.kcl, T.kit i 3 hi (by decide), ?_⟩
    refine ⟨_, rfl, a, cA K i, o, _, _, _, rfl, .own _, xa.same t1, T.xcs i hi, T.kcl, T.kit i 4 hi (by decide), ?_⟩
    refine ⟨_, rfl, a, cA K i, o, _, _, _, rfl, .own _, xa.same t1, T.xcs i hi, T.kcl, T.kit i 5 hi (by decide), ?_⟩
    refine ⟨(by show 3 ≤ sizeLine; decide), fun m1 hm1 => ⟨l0, m1, [.bl (decide (i = 0)), .bl (decide (i = 1)), .bl (decide (i = 2))], [.bl (decide (i = 3)), .bl (decide (i = 4)), .bl (decide (i = 5))], rfl, rfl, keep_put (Same.refl _) upd_same hm1, upd_same, (by show 3 + 3 ≤ sizeLine; decide), fun l1 hl1 => ?_⟩⟩
    have t2 := Same.trans (Same.trans t1 (same_put (u := .lst [.bl (decide (i = 3)), .bl (decide (i = 4)), .bl (decide (i = 5))]) hm1)) (same_put (u := .lst [.bl (decide (i = 0)), .bl (decide (i = 1)), .bl (decide (i = 2)), .bl (decide (i = 3)), .bl (decide (i = 4)), .bl (decide (i = 5))]) hl1)
    refine ⟨_, rfl, ?_⟩
    refine ⟨_, rfl, a, cA K i, o, _, _, _, rfl, .own _, xa.same t2, T.xcs i hi, T.kcl, T.kit i 6 hi (by decide), ?_⟩
    refine ⟨_, rfl, a, cA K i, o, _, _, _, rfl, .own _, xa.same t2, T.xcs i hi, T.kcl, T.kit i 7 hi (by decide), ?_⟩
    refine ⟨_, rfl, a, cA K i, o, _, _, _, rfl, .own _, xa.same t2, T.xcs i hi, T.kcl, T.kit i 8 hi (by decide), ?_⟩
    refine ⟨(by show 3 ≤ sizeLine; decide), fun m2 hm2 => ⟨l1, m2, [.bl (decide (i = 0)), .bl (decide (i = 1)), .bl (decide (i = 2)), .bl (decide (i = 3)), .bl (decide (i = 4)), .bl (decide (i = 5))], [.bl (decide (i = 6)), .bl (decide (i = 7)), .bl (decide (i = 8))], rfl, rfl, keep_put (Same.refl _) upd_same hm2, upd_same, (by show 6 + 3 ≤ sizeLine; decide), fun l2 hl2 => ?_⟩⟩
    have t3 := Same.trans (Same.trans t2 (same_put (u := .lst [.bl (decide (i = 6)), .bl (decide (i = 7)), .bl (decide (i = 8))]) hm2)) (same_put (u := .lst [.bl (decide (i = 0)), .bl (decide (i = 1)), .bl (decide (i = 2)), .bl (decide (i = 3)), .bl (decide (i = 4)), .bl (decide (i = 5)), .bl (decide (i = 6)), .bl (decide (i = 7)), .bl (decide (i = 8))]) hl2)
    refine ⟨_, rfl, ?_⟩
    refine ⟨_, rfl, a, cA K i, o, _, _, _, rfl, .own _, xa.same t3, T.xcs i hi, T.kcl, T.kit i 9 hi (by decide), ?_⟩
    refine ⟨_, rfl, a, cA K i, o, _, _, _, rfl, .own _, xa.same t3, T.xcs i hi, T.kcl, T.kit i 10 hi (by decide), ?_⟩
    refine ⟨_, rfl, a, cA K i, o, _, _, _, rfl, .own _, xa.same t3, T.xcs i hi, T.kcl, T.kit i 11 hi (by decide), ?_⟩
    refine ⟨(by show 3 ≤ sizeLine; decide), fun m3 hm3 => ⟨l2, m3, [.bl (decide (i = 0)), .bl (decide (i = 1)), .bl (decide (i = 2)), .bl (decide (i = 3)), .bl (decide (i = 4)), .bl (decide (i = 5)), .bl (decide (i = 6)), .bl (decide (i = 7)), .bl (decide (i = 8))], [.bl (decide (i = 9)), .bl (decide (i = 10)), .bl (decide (i = 11))], rfl, rfl, keep_put (Same.refl _) upd_same hm3, upd_same, (by show 9 + 3 ≤ sizeLine; decide), fun l3 hl3 => ?_⟩⟩
    have t4 := Same.trans (Same.trans t3 (same_put (u := .lst [.bl (decide (i = 9)), .bl (decide (i = 10)), .bl (decide (i = 11))]) hm3)) (same_put (u := .lst [.bl (decide (i = 0)), .bl (decide (i = 1)), .bl (decide (i = 2)), .bl (decide (i = 3)), .bl (decide (i = 4)), .bl (decide (i = 5)), .bl (decide (i = 6)), .bl (decide (i = 7)), .bl (decide (i = 8)), .bl (decide (i = 9)), .bl (decide (i = 10)), .bl (decide (i = 11))]) hl3)
    refine ⟨_, rfl, ?_⟩
    refine ⟨_, rfl, a, cA K i, o, _, _, _, rfl, .own _, xa.same t4, T.xcs i hi, T.kcl, T.kit i 12 hi (by decide), ?_⟩
    refine ⟨_, rfl, a, cA K i, o, _, _, _, rfl, .own _, xa.same t4, T.xcs i hi, T.kcl, T.kit i 13 hi (by decide), ?_⟩
    refine ⟨_, rfl, a, cA K i, o, _, _, _, rfl, .own _, xa.same t4, T.xcs i hi, T.kcl, T.kit i 14 hi (by decide), ?_⟩
    refine ⟨(by show 3 ≤ sizeLine; decide), fun m4 hm4 => ⟨l3, m4, [.bl (decide (i = 0)), .bl (decide (i = 1)), .bl (decide (i = 2)), .bl (decide (i = 3)), .bl (decide (i = 4)), .bl (decide (i = 5)), .bl (decide (i = 6)), .bl (decide (i = 7)), .bl (decide (i = 8)), .bl (decide (i = 9)), .bl (decide (i = 10)), .bl (decide (i = 11))], [.bl (decide (i = 12)), .bl (decide (i = 13)), .bl (decide (i = 14))], rfl, rfl, keep_put (Same.refl _) upd_same hm4, upd_same, (by show 12 + 3 ≤ sizeLine; decide), fun l4 hl4 => ?_⟩⟩
    have t5 := Same.trans (Same.trans t4 (same_put (u := .lst [.bl (decide (i = 12)), .bl (decide (i = 13)), .bl (decide (i = 14))]) hm4)) (same_put (u := .lst [.bl (decide (i = 0)), .bl (decide (i = 1)), .bl (decide (i = 2)), .bl (decide (i = 3)), .bl (decide (i = 4)), .bl (decide (i = 5)), .bl (decide (i = 6)), .bl (decide (i = 7)), .bl (decide (i = 8)), .bl (decide (i = 9)), .bl (decide (i = 10)), .bl (decide (i = 11)), .bl (decide (i = 12)), .bl (decide (i = 13)), .bl (decide (i = 14))]) hl4)
    refine ⟨_, rfl, ?_⟩
    refine ⟨_, rfl, a, cA K i, o, _, _, _, rfl, .own _, xa.same t5, T.xcs i hi, T.kcl, T.kit i 15 hi (by decide), ?_⟩
    refine ⟨_, rfl, a, cA K i, o, _, _, _, rfl, .own _, xa.same t5, T.xcs i hi, T.kcl, T.kit i 16 hi (by decide), ?_⟩
    refine ⟨_, rfl, a, cA K i, o, _, _, _, rfl, .own _, xa.same t5, T.xcs i hi, T.kcl, T.kit i 17 hi (by decide), ?_⟩
    refine ⟨(by show 3 ≤ sizeLine; decide), fun m5 hm5 => ⟨l4, m5, [.bl (decide (i = 0)), .bl (decide (i = 1)), .bl (decide (i = 2)), .bl (decide (i = 3)), .bl (decide (i = 4)), .bl (decide (i = 5)), .bl (decide (i = 6)), .bl (decide (i = 7)), .bl (decide (i = 8)), .bl (decide (i = 9)), .bl (decide (i = 10)), .bl (decide (i = 11)), .bl (decide (i = 12)), .bl (decide (i = 13)), .bl (decide (i = 14))], [.bl (decide (i = 15)), .bl (decide (i = 16)), .bl (decide (i = 17))], rfl, rfl, keep_put (Same.refl _) upd_same hm5, upd_same, (by show 15 + 3 ≤ sizeLine; decide), fun l5 hl5 => ?_⟩⟩
    have t6 := Same.trans (Same.trans t5 (same_put (u := .lst [.bl (decide (i = 15)), .bl (decide (i = 16)), .bl (decide (i = 17))]) hm5)) (same_put (u := .lst [.bl (decide (i = 0)), .bl (decide (i = 1)), .bl (decide (i = 2)), .bl (decide (i = 3)), .bl (decide (i = 4)), .bl (decide (i = 5)), .bl (decide (i = 6)), .bl (decide (i = 7)), .bl (decide (i = 8)), .bl (decide (i = 9)), .bl (decide (i = 10)), .bl (decide (i = 11)), .bl (decide (i = 12)), .bl (decide (i = 13)), .bl (decide (i = 14)), .bl (decide (i = 15)), .bl (decide (i = 16)), .bl (decide (i = 17))]) hl5)
    refine ⟨_, rfl, ?_⟩
    refine ⟨_, rfl, a, cA K i, o, _, _, _, rfl, .own _, xa.same t6, T.xcs i hi, T.kcl, T.kit i 18 hi (by decide), ?_⟩
    refine ⟨_, rfl, a, cA K i, o, _, _, _, rfl, .own _, xa.same t6, T.xcs i hi, T.kcl, T.kit i 19 hi (by decide), ?_⟩
    refine ⟨_, rfl, a, cA K i, o, _, _, _, rfl, .own _, xa.same t6, T.xcs i hi, T.kcl, T.kit i 20 hi (by decide), ?_⟩
    refine ⟨(by show 3 ≤ sizeLine; decide), fun m6 hm6 => ⟨l5, m6, [.bl (decide (i = 0)), .bl (decide (i = 1)), .bl (decide (i = 2)), .bl (decide (i = 3)), .bl (decide (i = 4)), .bl (decide (i = 5)), .bl (decide (i = 6)), .bl (decide (i = 7)), .bl (decide (i = 8)), .bl (decide (i = 9)), .bl (decide (i = 10)), .bl (decide (i = 11)), .bl (decide (i = 12)), .bl (decide (i = 13)), .bl (decide (i = 14)), .bl (decide (i = 15)), .bl (decide (i = 16)), .bl (decide (i = 17))], [.bl (decide (i = 18)), .bl (decide (i = 19)), .bl (decide (i = 20))], rfl, rfl, keep_put (Same.refl _) upd_same hm6, upd_same, (by show 18 + 3 ≤ sizeLine; decide), fun l6 hl6 => ?_⟩⟩
    have t7 := Same.trans (Same.trans t6 (same_put (u := .lst [.bl (decide (i = 18)), .bl (decide (i = 19)), .bl (decide (i = 20))]) hm6)) (same_put (u := .lst [.bl (decide (i = 0)), .bl (decide (i = 1)), .bl (decide (i = 2)), .bl (decide (i = 3)), .bl (decide (i = 4)), .bl (decide (i = 5)), .bl (decide (i = 6)), .bl (decide (i = 7)), .bl (decide (i = 8)), .bl (decide (i = 9)), .bl (decide (i = 10)), .bl (decide (i = 11)), .bl (decide (i = 12)), .bl (decide (i = 13)), .bl (decide (i = 14)), .bl (decide (i = 15)), .bl (decide (i = 16)), .bl (decide (i = 17)), .bl (decide (i = 18)), .bl (decide (i = 19)), .bl (decide (i = 20))]) hl6)
    refine ⟨_, rfl, ?_⟩
    refine ⟨_, rfl, a, cA K i, o, _, _, _, rfl, .own _, xa.same t7, T.xcs i hi, T.kcl, T.kit i 21 hi (by decide), ?_⟩
    refine ⟨_, rfl, a, cA K i, o, _, _, _, rfl, .own _, xa.same t7, T.xcs i hi, T.kcl, T.kit i 22 hi (by decide), ?_⟩
    refine ⟨(by show 2 ≤ sizeLine; decide), fun m7 hm7 => ⟨l6, m7, [.bl (decide (i = 0)), .bl (decide (i = 1)), .bl (decide (i = 2)), .bl (decide (i = 3)), .bl (decide (i = 4)), .bl (decide (i = 5)), .bl (decide (i = 6)), .bl (decide (i = 7)), .bl (decide (i = 8)), .bl (decide (i = 9)), .bl (decide (i = 10)), .bl (decide (i = 11)), .bl (decide (i = 12)), .bl (decide (i = 13)), .bl (decide (i = 14)), .bl (decide (i = 15)), .bl (decide (i = 16)), .bl (decide (i = 17)), .bl (decide (i = 18)), .bl (decide (i = 19)), .bl (decide (i = 20))], [.bl (decide (i = 21)), .bl (decide (i = 22))], rfl, rfl, keep_put (Same.refl _) upd_same hm7, upd_same, (by show 21 + 2 ≤ sizeLine; decide), fun l7 hl7 => ?_⟩⟩
    exact k _ l7 (Same.trans (Same.trans t7 (same_put (u := .lst [.bl (decide (i = 21)), .bl (decide (i = 22))]) hm7)) (same_put (u := .lst [.bl (decide (i = 0)), .bl (decide (i = 1)), .bl (decide (i = 2)), .bl (decide (i = 3)), .bl (decide (i = 4)), .bl (decide (i = 5)), .bl (decide (i = 6)), .bl (decide (i = 7)), .bl (decide (i = 8)), .bl (decide (i = 9)), .bl (decide (i = 10)), .bl (decide (i = 11)), .bl (decide (i = 12)), .bl (decide (i = 13)), .bl (decide (i = 14)), .bl (decide (i = 15)), .bl (decide (i = 16)), .bl (decide (i = 17)), .bl (decide (i = 18)), .bl (decide (i = 19)), .bl (decide (i = 20)), .bl (decide (i = 21)), .bl (decide (i = 22))]) hl7)) (Same.free (Same.trans t7 (same_put (u := .lst [.bl (decide (i = 21)), .bl (decide (i = 22))]) hm7)) hl7) upd_same
end
end K39

set_option Elab.async false
set_option linter.all false
set_option maxRecDepth 100000
set_option maxHeartbeats 4000000
namespace K39
open PySem PySem.Spec PyProof.Rows L2 EX
/-- a loop over enumerate(list), the list left as it is -/
theorem for_enum {K : PySem.W.Frag} {a : Addr} {xs : List V} {g : TG} {tb : TS} {D : Ends} {σ : L2.St} {H : Hp} (Pv : Nat → L2.St → Hp → Prop) (h0 : Pv 0 σ H) (hl : ∀ i σ H, i ≤ xs.length → Pv i σ H → SqL K H a xs)
    (hs : ∀ i x σ H T, xs[i]? = some x → Pv i σ H → H T = none → g (.ref T) σ (upd H T (.tup [.int (i : Nat), x])) fun σ2 H2 => tb { D with nx := Pv (i + 1), ct := Pv (i + 1), bk := D.nx } σ2 H2) (hd : ∀ σ H, Pv xs.length σ H → D.nx σ H) :
    ∃ W : Nat → Nat → L2.St → Hp → Prop, (∃ m, W 0 m σ H) ∧ ∀ i m σ H, W i m σ H →
      ((Ite K a).stop i H ∧ D.nx σ H) ∨ ((Ite K a).go i H ∧ ∃ N : L2.St → Hp → Prop, (∀ σ' H', N σ' H' → ∃ m', m' < m ∧ W (i + 1) m' σ' H') ∧ ∀ x H', (Ite K a).yld i H x H' → g x σ H' fun σ2 H2 => tb { D with nx := N, ct := N, bk := D.nx } σ2 H2) := by
  refine ⟨fun i m σ H => m = xs.length - i ∧ i ≤ xs.length ∧ Pv i σ H, ⟨xs.length, by simp, Nat.zero_le _, h0⟩, ?_⟩
  rintro i m σ H ⟨rfl, hi, p⟩
  have q := hl i σ H hi p
  by_cases hlt : i < xs.length
  · refine .inr ⟨⟨xs, xs[i], q, by simp [hlt]⟩, Pv (i + 1), fun σ' H' p' => ⟨xs.length - (i + 1), by omega, rfl, hlt, p'⟩, fun x H' y => ?_⟩
    obtain ⟨T, v, e1, hT, e2, hv⟩ := y
    subst e1
    subst e2
    exact hs i v σ H T (hv xs q) p hT
  · have e : i = xs.length := by omega
    subst e
    exact .inl ⟨⟨xs, q, Nat.le_refl _⟩, hd σ H p⟩
/-! ### lists of bools compared -/
theorem bl_shaped (bs : List Bool) : SeqAt.shaped (.list (bs.map PyData.bool)) = true := by
  have h1 : PyData.canLayAll0 (bs.map PyData.bool) = true := by
    induction bs with
    | nil => rfl
    | cons b r ih =>
      show (PyData.canLay0 (.bool b) && PyData.canLayAll0 (r.map PyData.bool)) = true
      rw [ih]
      rfl
  have h2 : PyData.depthAll (bs.map PyData.bool) = 0 := by
    clear h1
    induction bs with
    | nil => rfl
    | cons b r ih =>
      show max (PyData.depth (.bool b)) (PyData.depthAll (r.map PyData.bool)) = 0
      rw [ih]
      rfl
  unfold SeqAt.shaped
  show (PyData.canLayAll0 (bs.map PyData.bool) && decide (PyData.depthAll (bs.map PyData.bool) + 1 ≤ 64)) = true
  rw [h1, h2]
  rfl
theorem bl_eqv (bs : List Bool) : PyData.eqv (.list (bs.map PyData.bool)) (.list (bs.map PyData.bool)) = true := by
  show PyData.eqvAll (bs.map PyData.bool) (bs.map PyData.bool) = true
  induction bs with
  | nil => rfl
  | cons b r ih =>
    show (PyData.eqv (.bool b) (.bool b) && PyData.eqvAll (r.map PyData.bool) (r.map PyData.bool)) = true
    rw [ih]
    cases b <;> rfl
theorem dp_bls {K : PySem.W.Frag} {H : Hp} : ∀ bs : List Bool, DpAll K H (bs.map V.bl) (bs.map PyData.bool)
  | [] => .nil
  | b :: r => .cons (.bl b) (dp_bls r)
theorem same_draw {H H' : Hp} {q p : Addr} {n : Nat} (s : Same H H') (hq : H q = none) : Same H (drawn H' q p n) := fun b o e => by
  unfold drawn
  rw [upd_ne (ne_of_none e hq)]
  exact s b o e
theorem same_put2 {H : Hp} {m : Addr} {u v : HO} (h : H m = none) : Same H (upd (upd H m u) m v) := fun b o e => by
  rw [upd_ne (ne_of_none e h), upd_ne (ne_of_none e h)]
  exact e
def spLaw (K : PySem.W.Frag) : Sp := fun vs H Q _ => ∃ (a : Addr) (ns : List Int), vs = [.ref a] ∧ SqL K H a (ns.map V.int) ∧ ns.length ≤ 63 ∧ ∀ H', Q (.bl true) H'
abbrev nL : List Str := ["script", "k", "pool", "turn", "thing", "place", "one", "j"]
theorem scLaw : FnScope nL ["script"] (defScope sLaw) := ⟨rfl, rfl, rfl, by decide +kernel, rfl, by decide +kernel, by decide +kernel⟩
/-- the defs of the text -/
structure Ds (P : Program) (w : World) (K : PySem.W.Frag) (mg : Str → Option Value) (base : Heap) : Prop where
  dn : Dn mg
  cs : Cs P w K mg base
  op : ∃ f fd, mg "_law_opened" = some (.ref f) ∧ PySem.W.keepIn K (.ref f) = true ∧ Binds K fd ["script", "k", "many"] [] ∧ FnOk P w K mg base CX0 3 f fd ["script", "k", "many"] (spOpen K)
  pk : ∃ f fd, mg "_law_pick" = some (.ref f) ∧ PySem.W.keepIn K (.ref f) = true ∧ Binds K fd ["pool", "some"] [] ∧ FnOk P w K mg base CX0 2 f fd ["pool", "some"] (spPick K)
  fl : ∃ f fd, mg "_law_fields" = some (.ref f) ∧ PySem.W.keepIn K (.ref f) = true ∧ Binds K fd ["thing"] [] ∧ FnOk P w K mg base CX0 3 f fd ["thing"] spFld
  pl : ∃ f fd, mg "_law_placed" = some (.ref f) ∧ PySem.W.keepIn K (.ref f) = true ∧ Binds K fd ["thing"] [] ∧ FnOk P w K mg base CX0 3 f fd ["thing"] spFld
  ob : ∃ f fd, mg "_law_objects" = some (.ref f) ∧ PySem.W.keepIn K (.ref f) = true ∧ Binds K fd ["thing"] [] ∧ FnOk P w K mg base CX0 3 f fd ["thing"] (spObj K)
  cl : ∃ f fd, mg "_law_classes" = some (.ref f) ∧ PySem.W.keepIn K (.ref f) = true ∧ Binds K fd ["one"] [] ∧ FnOk P w K mg base CX0 1 f fd ["one"] (spCls K)
section
variable {P : Program} {w : World} {K : PySem.W.Frag} {mg : Str → Option Value} {base : Heap} {f : Addr} {fd : FuncData}
theorem ok_law (F : Fun K "law" "law" sLaw f fd) (D : Ds P w K mg base) : FnOk P w K mg base CX0 4 f fd ["script"] (spLaw K) := by
  obtain ⟨fO, fdO, gO, kO, bO, GO⟩ := D.op
  obtain ⟨fP, fdP, gP, kP, bP, GP⟩ := D.pk
  obtain ⟨fF, fdF, gF, kF, bF, GF⟩ := D.fl
  obtain ⟨fA, fdA, gA, kA, bA, GA⟩ := D.pl
  obtain ⟨fB, fdB, gB, kB, bB, GB⟩ := D.ob
  obtain ⟨fC, fdC, gC, kC, bC, GC⟩ := D.cl
  have T := D.dn
  have S := D.cs
  refine F.ok scLaw (fun vs H Q E h => ?_) (fun cdv A outer s H vs Q E hr h => ?_)
  · obtain ⟨a, ns, rfl, _⟩ := h
    rfl
  · obtain ⟨a, ns, rfl, hS, hlen, k⟩ := h
    have hr2 : Room 2 _ := hr.mono (by decide)
    have hr1 : Room 1 _ := hr.mono (by decide)
    refine ⟨_, pss_cons (ps_for PassesOwn.never rfl (pi_range1 rfl T.rng (pa_cons (pe_callB (call_max2 rfl) rfl T.max boot_max (pa_cons pe_int (pa_cons (pe_callB (call_min2 rfl) rfl T.min boot_min (pa_cons pe_int (pa_cons (pe_callB call_len_seq rfl T.len boot_len (pa_cons (pv 0) pa_nil)) pa_nil))) pa_nil))) pa_nil))
        (pg_name (i := 1) scLaw.nd rfl (.inl rfl))
        (pss_cons (ps_set (i := 2) scLaw.nd rfl (.inl rfl) (pe_call GO hr rfl gO kO bO .nil pass0 (pa_cons (pv 0) (pa_cons (pv 1) (pa_cons pe_int pa_nil)))))
        (pss_one (ps_for PassesOwn.never rfl (pi_range1 rfl T.rng (pa_cons pe_int pa_nil)) (pg_name (i := 3) scLaw.nd rfl (.inl rfl))
          (pss_cons (ps_set (i := 4) scLaw.nd rfl (.inl rfl) (pe_call GP hr2 rfl gP kP bP .nil pass0 (pa_cons (pv 2) (pa_cons (pe_lst (pa_cons pe_non (pa_cons pe_int (pa_cons pe_str (pa_cons (pe_tup (pa_cons pe_str (pa_cons pe_int pa_nil)))
            (pa_cons (pe_lst (pa_cons pe_str pa_nil)) (pa_cons (pe_disp (pps_cons pe_str pe_int pps_nil) rfl rfl (by simp) (by decide)) (pa_cons (pe_op op_pow pe_int pe_int) (pa_cons pe_int (pa_cons pe_str pa_nil)))))))))) pa_nil))))
          (pss_cons (ps_if (PW.pt (pw_or (pt_cmpR (op_neS hr.units0) (pe_call GF hr rfl gF kF bF .nil pass0 (pa_cons (pv 4) pa_nil)) (pe_op op_rep (pe_lst (pa_cons (pv 4) pa_nil)) pe_int) (nomark _))
            (pw_or1 (pt_cmpR (op_neS hr.units0) (pe_call GA hr rfl gA kA bA .nil pass0 (pa_cons (pv 4) pa_nil)) (pe_op op_rep (pe_lst (pa_cons (pv 4) pa_nil)) pe_int) (nomark _))))) (pss_one (ps_ret pe_bl)) pss_nil)
          (pss_one (ps_for PassesOwn.never rfl (pi_enum rfl S.enm (pa_cons (pe_call GB hr rfl gB kB bB .nil pass0 (pa_cons (pv 4) pa_nil)) pa_nil))
            (pg_tup rfl (pgs_cons (pg_name (i := 5) scLaw.nd rfl (.inr rfl)) (pgs_cons (pg_name (i := 6) scLaw.nd rfl (.inl rfl)) pgs_nil)))
            (pss_one (ps_if (PW.pt (pw_or (pt_cmpR (op_neD hr.units) (pe_call GC hr1 rfl gC kC bC .nil pass0 (pa_cons (pv 6) pa_nil))
                (pe_lc (own := [("j", 7)]) (g := gName 7) (tt := tYes) rfl scLaw.nd (pi_range1 rfl T.rng (pa_cons pe_int pa_nil)) (blkOk_by (N := nL) (sc := defScope sLaw) (by decide +kernel)) (fun _ _ _ _ _ => pg_name (i := 7) scLaw.nd rfl (.inl rfl)) (fun _ _ _ _ _ => pts_nil)
                  (fun _ _ _ _ _ => pe_cmpR op_eq (pv 5) (pv 7) (nomark _))) (nomark _))
              (pw_or1 (pt_not (pt_val (pe_callB call_isX rfl S.isi boot_isinstance (pa_cons (pv 6) (pa_cons (pe_glob (v := .ref (He.ga K "PackError")) rfl S.gP rfl) pa_nil)))))))) (pss_one (ps_ret pe_bl)) pss_nil))))))))))
      (pss_one (ps_ret pe_bl)), ?_⟩
    refine ⟨_, rfl, a, _, rfl, .inl hS, _, _, rfl, _, _, rfl, _, rfl, ?_, ?_, ?_⟩
    · rw [List.length_map]
      split <;> split <;> omega
    · rw [List.length_map]
      split <;> split <;> omega
    refine for_range (lo := 0) (Pv := fun i σ H' => ∃ v1 v2 v3 v4 v5 v6 v7 : Option V, σ = [some (.ref a), v1, v2, v3, v4, v5, v6, v7] ∧ Same H H') ?_ ?_ ?_
    · exact ⟨none, none, none, none, none, none, none, rfl, Same.refl H⟩
    · rintro i σ H1 hi ⟨v1, v2, v3, v4, v5, v6, v7, rfl, s1⟩
      have hin : ns = [] ∨ i < ns.length := by
        cases ns with
        | nil => exact .inl rfl
        | cons x r =>
          refine .inr ?_
          rw [List.length_map] at hi
          have hp : 0 < (x :: r).length := Nat.succ_pos _
          revert hi
          split <;> split <;> intro hi <;> omega
      have hi6 : i ≤ 100 := by
        rw [List.length_map] at hi
        revert hi
        split <;> split <;> intro hi <;> omega
      have e0 : ((0 : Int) + (i : Int)) = ((i : Nat) : Int) := by omega
      refine ⟨_, rfl, _, rfl, a, ns, i, 20, by rw [e0]; rfl, s1.seq hS, hin, hi6, by decide, fun H2 q p zs s2 hq hp hP => ?_⟩
      have hq0 : H q = none := s1.free hq
      refine ⟨_, rfl, by decide, by decide, for_range (lo := 0) (Pv := fun j σ H' => ∃ (v3 v4 v5 v6 v7 : Option V) (n : Nat), σ = [some (.ref a), some (.int ((0 : Int) + (i : Int))), some (.ref q), v3, v4, v5, v6, v7] ∧ Same H H' ∧ PoolAt H' q p zs n) ?_ ?_ ?_⟩
      · exact ⟨v3, v4, v5, v6, v7, 0, rfl, s1.trans s2, hP⟩
      · rintro j σ H3 hj ⟨v3, v4, v5, v6, v7, n, rfl, s3, hP3⟩
        -- thing = _law_pick(pool, [..])
        refine ⟨_, rfl, (by show 2 ≤ sizeLine; decide), fun t1 ht1 => ?_⟩
        refine ⟨(by show 1 ≤ sizeLine; decide), fun t2 ht2 => ?_⟩
        refine fun t3 ht3 => ⟨upd_same, [(Sum.inr "a", .int 1)], rfl, (by show 1 ≤ 15; decide), ?_⟩
        refine ⟨_, _, rfl, rfl, ⟨by decide, by decide, by decide⟩, ?_⟩
        refine ⟨(by show 9 ≤ sizeLine; decide), fun m hm => ?_⟩
        refine ⟨q, p, m, zs, n, _, rfl, hP3.off (((same_put ht1).trans ((same_put ht2).trans (same_put2 ht3))).trans (same_put hm)), SqL.of upd_same,
          (ne_of_none (hP3.off ((same_put ht1).trans ((same_put ht2).trans (same_put2 ht3)))).2.1 hm).symm, by simp, by show 9 ≤ 500; decide, fun u x hx => ?_⟩
        have hfl : Flat x := by
          have hmem := List.mem_of_getElem? hx
          simp only [List.mem_cons, List.not_mem_nil, or_false] at hmem
          rcases hmem with rfl | rfl | rfl | rfl | rfl | rfl | rfl | rfl | rfl
          all_goals first
            | exact .inl rfl
            | exact .inr ⟨_, rfl⟩
        have hP4 := (hP3.off (((same_put ht1).trans ((same_put ht2).trans (same_put2 ht3))).trans (same_put (u := .lst [V.non, V.int 5, V.str "a", V.ref t1, V.ref t2, V.ref t3, V.int (10 ^ (30 : Int).toNat), V.int 0, V.str ""]) hm))).drawn
        have s4 := same_draw (p := p) (n := n) (s3.trans (((same_put ht1).trans ((same_put ht2).trans (same_put2 ht3))).trans (same_put (u := .lst [V.non, V.int 5, V.str "a", V.ref t1, V.ref t2, V.ref t3, V.int (10 ^ (30 : Int).toNat), V.int 0, V.str ""]) hm))) hq0
        clear hx hP3
        revert hP4 s4
        generalize hH4 : drawn _ q p n = H4
        intro hP4 s4
        -- the two lists of fields
        refine ⟨_, rfl, x, rfl, fun H5 p5 s5 n5 e5 => ⟨_, rfl, (by show 1 ≤ sizeLine; decide), fun l5 hl5 => ⟨l5, 22, [x], rfl, rfl, upd_same, by decide, by decide, (by show 1 * 22 ≤ sizeLine; decide), fun r5 hr5 => ?_⟩⟩⟩
        refine ⟨p5, r5, List.replicate 22 x, rfl, rfl, SqL.of (keep_put (same_put hl5) e5 hr5), SqL.of upd_same, fun v hv => by rw [(List.mem_replicate.mp hv).2]; exact hfl, _, rfl, iteF ?_⟩
        refine ⟨_, rfl, x, rfl, fun H6 p6 s6 n6 e6 => ⟨_, rfl, (by show 1 ≤ sizeLine; decide), fun l6 hl6 => ⟨l6, 22, [x], rfl, rfl, upd_same, by decide, by decide, (by show 1 * 22 ≤ sizeLine; decide), fun r6 hr6 => ?_⟩⟩⟩
        refine ⟨p6, r6, List.replicate 22 x, rfl, rfl, SqL.of (keep_put (same_put hl6) e6 hr6), SqL.of upd_same, fun v hv => by rw [(List.mem_replicate.mp hv).2]; exact hfl, _, rfl, iteF ?_⟩
        have s7 := ((s5.trans (same_put (u := .lst [x]) hl5)).trans (same_put (u := .lst (List.replicate 22 x)) hr5)).trans ((s6.trans (same_put (u := .lst [x]) hl6)).trans (same_put (u := .lst (List.replicate 22 x)) hr6))
        -- the exceptions, one by one
        refine ⟨_, rfl, x, rfl, fun H8 po as s8 n8 e8 ex8 => ⟨po, as.map V.ref, rfl, SqL.of e8, ?_⟩⟩
        have s9 : Same H H8 := s4.trans (s7.trans s8)
        have hP9 : PoolAt H8 q p zs (n + 1) := hP4.off (s7.trans s8)
        refine for_enum (K := K) (a := po) (xs := as.map V.ref) (Pv := fun y σ H' => ∃ (v5 v6 v7 : Option V), σ = [some (.ref a), some (.int ((0 : Int) + (i : Int))), some (.ref q), some (.int ((0 : Int) + (j : Int))), some x, v5, v6, v7] ∧ Same H8 H') ?_ ?_ ?_ ?_
        · exact ⟨v5, v6, v7, rfl, Same.refl _⟩
        · rintro y σ H' _ ⟨_, _, _, _, s⟩
          exact SqL.of (s _ _ e8)
        · rintro y z σ H10 t hz ⟨v5, v6, v7, rfl, s10⟩ ht
          have hy : y < 23 := by
            have e := (List.getElem?_eq_some_iff.mp hz).1
            rw [List.length_map, ex8.1] at e
            exact e
          obtain ⟨b, hb, rfl⟩ : ∃ b, as[y]? = some b ∧ z = V.ref b := by
            rw [List.getElem?_map] at hz
            cases e : as[y]? with
            | none =>
              rw [e] at hz
              cases hz
            | some b =>
              rw [e] at hz
              exact ⟨b, rfl, (Option.some.inj hz).symm⟩
          obtain ⟨o, xb⟩ := ex8.2 y b hb
          have xb1 := xb.same (s10.trans (same_put (u := .tup [.int (y : Nat), .ref b]) ht))
          refine ⟨t, _, rfl, SqT.of upd_same, rfl, _, _, rfl, _, _, rfl, rfl, ?_⟩
          have eq23 : (List.range 23).map (fun u => V.bl (decide (y = u))) = ((List.range 23).map fun u => decide (y = u)).map V.bl := by rw [List.map_map]; rfl
          -- _law_classes(one) != [place == j for j in range(23)]
          refine ⟨_, rfl, b, y, o, rfl, hy, xb1, fun H11 pc s11 n11 e11 => ?_⟩
          refine ⟨23, rfl, by decide, by decide, fun D hD => ?_⟩
          refine lc_range (lo := 0) (n := 23) (Pv := fun u H' => Same H11 H' ∧ H' D = some (.lst ((List.range u).map fun v => V.bl (decide (y = v))))) ⟨same_put hD, upd_same⟩ ?_ ?_
          · rintro u H' hu ⟨sH, eD⟩
            refine ⟨rfl, ?_⟩
            refine ⟨_, rfl, _, rfl, rfl, _, eD, ?_, fun c w hc => ?_, ?_⟩
            · rw [List.length_map, List.length_range]
              exact small1000 (by omega)
            · rw [upd_ne (ne_of_none hc hD)]
              exact sH _ _ hc
            · rw [upd_same, List.range_succ, List.map_append, List.map_singleton]
              have ed : decide (V.int ((y : Nat) : Int) = V.int ((0 : Int) + (u : Int))) = decide (y = u) := by
                by_cases hyu : y = u
                · rw [decide_eq_true hyu, decide_eq_true (by rw [hyu, Int.zero_add])]
                · rw [decide_eq_false hyu, decide_eq_false fun q => hyu (by
                    have q2 := V.int.inj q
                    omega)]
              show some (HO.lst (((List.range u).map fun v => V.bl (decide (y = v))) ++ [V.bl (decide (V.int ((y : Nat) : Int) = V.int ((0 : Int) + (u : Int))))])) = _
              rw [ed]
          · rintro H12 ⟨s12, e12⟩
            rw [eq23] at e11 e12
            refine ⟨_, _, .lst (SqL.of (s12 _ _ e11)) (dp_bls _), .lst (SqL.of e12) (dp_bls _), bl_shaped _, bl_shaped _, _, rfl, ?_⟩
            rw [bl_eqv]
            refine iteF ?_
            have xb2 := xb1.same (s11.trans s12)
            refine ⟨_, rfl, b, cA K y, o, _, _, _, rfl, .own _, xb2, S.xcs y hy, S.kcl, S.kitP y hy, _, rfl, ?_⟩
            refine iteF ?_
            exact ⟨_, _, _, rfl, (s10.trans (same_put ht)).trans (s11.trans s12)⟩
        · rintro σ H10 ⟨v5, v6, v7, rfl, s10⟩
          exact ⟨_, _, _, _, _, _, rfl, s9.trans s10, hP9.off s10⟩
      · rintro σ H3 ⟨v3, v4, v5, v6, v7, n, rfl, s3, hP3⟩
        exact ⟨_, _, _, _, _, _, _, rfl, s3⟩
    · rintro σ H1 ⟨v1, v2, v3, v4, v5, v6, v7, rfl, s1⟩
      exact k H1
end
end K39

set_option Elab.async false
set_option linter.all false
set_option maxRecDepth 100000
set_option maxHeartbeats 0
namespace K39
open PySem PySem.Spec PyProof.Rows L2 EX
/-! ### the classes' makers -/
theorem fun_of {K : PySem.W.Frag} {x qual : Str} {st : Stmt} {f : Addr} {fd : FuncData} (F : FunD K x qual (defArgs st) (defBody st) (defScope st) [] [] f fd) : Fun K x qual st f fd := by
  obtain ⟨oc, od, dV, kV, doc, pm, an, cdv, ct, osl, rfl, lk, hcd, hD, hK⟩ := F.ex
  rcases hD with ⟨_, rfl⟩ | ⟨e, _⟩
  · exact ⟨⟨oc, od, kV, doc, pm, an, cdv, ct, osl, rfl, lk, hcd⟩, F.kp⟩
  · exact absurd rfl e
section
variable {P : Program} {w : World} {K : PySem.W.Frag} {mg : Str → Option Value} {base : Heap} {f : Addr} {fd : FuncData}
abbrev i0 : Stmt := inClass (top 2) 0
theorem sc0 : FnScope ["self", "value"] ["self", "value"] (defScope i0) := ⟨rfl, rfl, rfl, by decide +kernel, rfl, by decide +kernel, by decide +kernel⟩
theorem xi0 (F : Fun K "__init__" "BadArgument.__init__" i0 (He.ma K (cA K 0) "__init__") fd) (g : mg "BadArgument" = some (.ref (cA K 0))) (T : XC K (cA K 0)) (N : NoF K (cA K 0) "value")
    (h1 : PySem.W.findIn K (.ref (cA K 0)) "__init__" = some (some (.ref (He.ma K (cA K 0) "__init__")))) (h2 : PySem.W.typeIn K (.ref (He.ma K (cA K 0) "__init__")) = some (.type "function")) :
    XI P w K mg base 1 "BadArgument" "value" (cA K 0) (He.ma K (cA K 0) "__init__") := by
  refine ⟨g, T, h1, h2, fd, ?_, fun s u v => ?_, fun s u v => ?_⟩
  · refine F.ok sc0 (fun vs H Q E h => ?_) (fun cdv A outer s H vs Q E hr h => ?_)
    · obtain ⟨a, y, rfl, _⟩ := h
      rfl
    · obtain ⟨a, y, rfl, ha, k⟩ := h
      exact ⟨_, pss_one (ps_fst (pv 0) (pv 1)), _, rfl, _, rfl, a, cA K 0, rfl, T, N, ha, k⟩
  · obtain ⟨oc, od, kV, doc, pm, an, cdv, ct, osl, rfl, lk, hcd⟩ := F.ex
    exact .of_eq rfl
  · obtain ⟨oc, od, kV, doc, pm, an, cdv, ct, osl, rfl, lk, hcd⟩ := F.ex
    exact .of_eq rfl
abbrev i1 : Stmt := inClass (top 4) 0
theorem sc1 : FnScope ["self", "value"] ["self", "value"] (defScope i1) := ⟨rfl, rfl, rfl, by decide +kernel, rfl, by decide +kernel, by decide +kernel⟩
theorem xi1 (F : Fun K "__init__" "BadKind.__init__" i1 (He.ma K (cA K 1) "__init__") fd) (g : mg "BadKind" = some (.ref (cA K 1))) (T : XC K (cA K 1)) (N : NoF K (cA K 1) "value")
    (h1 : PySem.W.findIn K (.ref (cA K 1)) "__init__" = some (some (.ref (He.ma K (cA K 1) "__init__")))) (h2 : PySem.W.typeIn K (.ref (He.ma K (cA K 1) "__init__")) = some (.type "function")) :
    XI P w K mg base 1 "BadKind" "value" (cA K 1) (He.ma K (cA K 1) "__init__") := by
  refine ⟨g, T, h1, h2, fd, ?_, fun s u v => ?_, fun s u v => ?_⟩
  · refine F.ok sc1 (fun vs H Q E h => ?_) (fun cdv A outer s H vs Q E hr h => ?_)
    · obtain ⟨a, y, rfl, _⟩ := h
      rfl
    · obtain ⟨a, y, rfl, ha, k⟩ := h
      exact ⟨_, pss_one (ps_fst (pv 0) (pv 1)), _, rfl, _, rfl, a, cA K 1, rfl, T, N, ha, k⟩
  · obtain ⟨oc, od, kV, doc, pm, an, cdv, ct, osl, rfl, lk, hcd⟩ := F.ex
    exact .of_eq rfl
  · obtain ⟨oc, od, kV, doc, pm, an, cdv, ct, osl, rfl, lk, hcd⟩ := F.ex
    exact .of_eq rfl
abbrev i2 : Stmt := inClass (top 5) 0
theorem sc2 : FnScope ["self", "value"] ["self", "value"] (defScope i2) := ⟨rfl, rfl, rfl, by decide +kernel, rfl, by decide +kernel, by decide +kernel⟩
theorem xi2 (F : Fun K "__init__" "BadMeasure.__init__" i2 (He.ma K (cA K 2) "__init__") fd) (g : mg "BadMeasure" = some (.ref (cA K 2))) (T : XC K (cA K 2)) (N : NoF K (cA K 2) "value")
    (h1 : PySem.W.findIn K (.ref (cA K 2)) "__init__" = some (some (.ref (He.ma K (cA K 2) "__init__")))) (h2 : PySem.W.typeIn K (.ref (He.ma K (cA K 2) "__init__")) = some (.type "function")) :
    XI P w K mg base 1 "BadMeasure" "value" (cA K 2) (He.ma K (cA K 2) "__init__") := by
  refine ⟨g, T, h1, h2, fd, ?_, fun s u v => ?_, fun s u v => ?_⟩
  · refine F.ok sc2 (fun vs H Q E h => ?_) (fun cdv A outer s H vs Q E hr h => ?_)
    · obtain ⟨a, y, rfl, _⟩ := h
      rfl
    · obtain ⟨a, y, rfl, ha, k⟩ := h
      exact ⟨_, pss_one (ps_fst (pv 0) (pv 1)), _, rfl, _, rfl, a, cA K 2, rfl, T, N, ha, k⟩
  · obtain ⟨oc, od, kV, doc, pm, an, cdv, ct, osl, rfl, lk, hcd⟩ := F.ex
    exact .of_eq rfl
  · obtain ⟨oc, od, kV, doc, pm, an, cdv, ct, osl, rfl, lk, hcd⟩ := F.ex
    exact .of_eq rfl
abbrev i3 : Stmt := inClass (top 6) 0
theorem sc3 : FnScope ["self", "value"] ["self", "value"] (defScope i3) := ⟨rfl, rfl, rfl, by decide +kernel, rfl, by decide +kernel, by decide +kernel⟩
theorem xi3 (F : Fun K "__init__" "BadThing.__init__" i3 (He.ma K (cA K 3) "__init__") fd) (g : mg "BadThing" = some (.ref (cA K 3))) (T : XC K (cA K 3)) (N : NoF K (cA K 3) "value")
    (h1 : PySem.W.findIn K (.ref (cA K 3)) "__init__" = some (some (.ref (He.ma K (cA K 3) "__init__")))) (h2 : PySem.W.typeIn K (.ref (He.ma K (cA K 3) "__init__")) = some (.type "function")) :
    XI P w K mg base 1 "BadThing" "value" (cA K 3) (He.ma K (cA K 3) "__init__") := by
  refine ⟨g, T, h1, h2, fd, ?_, fun s u v => ?_, fun s u v => ?_⟩
  · refine F.ok sc3 (fun vs H Q E h => ?_) (fun cdv A outer s H vs Q E hr h => ?_)
    · obtain ⟨a, y, rfl, _⟩ := h
      rfl
    · obtain ⟨a, y, rfl, ha, k⟩ := h
      exact ⟨_, pss_one (ps_fst (pv 0) (pv 1)), _, rfl, _, rfl, a, cA K 3, rfl, T, N, ha, k⟩
  · obtain ⟨oc, od, kV, doc, pm, an, cdv, ct, osl, rfl, lk, hcd⟩ := F.ex
    exact .of_eq rfl
  · obtain ⟨oc, od, kV, doc, pm, an, cdv, ct, osl, rfl, lk, hcd⟩ := F.ex
    exact .of_eq rfl
abbrev i4 : Stmt := inClass (top 7) 0
theorem sc4 : FnScope ["self", "value"] ["self", "value"] (defScope i4) := ⟨rfl, rfl, rfl, by decide +kernel, rfl, by decide +kernel, by decide +kernel⟩
theorem xi4 (F : Fun K "__init__" "BadWord.__init__" i4 (He.ma K (cA K 4) "__init__") fd) (g : mg "BadWord" = some (.ref (cA K 4))) (T : XC K (cA K 4)) (N : NoF K (cA K 4) "value")
    (h1 : PySem.W.findIn K (.ref (cA K 4)) "__init__" = some (some (.ref (He.ma K (cA K 4) "__init__")))) (h2 : PySem.W.typeIn K (.ref (He.ma K (cA K 4) "__init__")) = some (.type "function")) :
    XI P w K mg base 1 "BadWord" "value" (cA K 4) (He.ma K (cA K 4) "__init__") := by
  refine ⟨g, T, h1, h2, fd, ?_, fun s u v => ?_, fun s u v => ?_⟩
  · refine F.ok sc4 (fun vs H Q E h => ?_) (fun cdv A outer s H vs Q E hr h => ?_)
    · obtain ⟨a, y, rfl, _⟩ := h
      rfl
    · obtain ⟨a, y, rfl, ha, k⟩ := h
      exact ⟨_, pss_one (ps_fst (pv 0) (pv 1)), _, rfl, _, rfl, a, cA K 4, rfl, T, N, ha, k⟩
  · obtain ⟨oc, od, kV, doc, pm, an, cdv, ct, osl, rfl, lk, hcd⟩ := F.ex
    exact .of_eq rfl
  · obtain ⟨oc, od, kV, doc, pm, an, cdv, ct, osl, rfl, lk, hcd⟩ := F.ex
    exact .of_eq rfl
abbrev i5 : Stmt := inClass (top 8) 0
theorem sc5 : FnScope ["self", "value"] ["self", "value"] (defScope i5) := ⟨rfl, rfl, rfl, by decide +kernel, rfl, by decide +kernel, by decide +kernel⟩
theorem xi5 (F : Fun K "__init__" "BadMarks.__init__" i5 (He.ma K (cA K 5) "__init__") fd) (g : mg "BadMarks" = some (.ref (cA K 5))) (T : XC K (cA K 5)) (N : NoF K (cA K 5) "value")
    (h1 : PySem.W.findIn K (.ref (cA K 5)) "__init__" = some (some (.ref (He.ma K (cA K 5) "__init__")))) (h2 : PySem.W.typeIn K (.ref (He.ma K (cA K 5) "__init__")) = some (.type "function")) :
    XI P w K mg base 1 "BadMarks" "value" (cA K 5) (He.ma K (cA K 5) "__init__") := by
  refine ⟨g, T, h1, h2, fd, ?_, fun s u v => ?_, fun s u v => ?_⟩
  · refine F.ok sc5 (fun vs H Q E h => ?_) (fun cdv A outer s H vs Q E hr h => ?_)
    · obtain ⟨a, y, rfl, _⟩ := h
      rfl
    · obtain ⟨a, y, rfl, ha, k⟩ := h
      exact ⟨_, pss_one (ps_fst (pv 0) (pv 1)), _, rfl, _, rfl, a, cA K 5, rfl, T, N, ha, k⟩
  · obtain ⟨oc, od, kV, doc, pm, an, cdv, ct, osl, rfl, lk, hcd⟩ := F.ex
    exact .of_eq rfl
  · obtain ⟨oc, od, kV, doc, pm, an, cdv, ct, osl, rfl, lk, hcd⟩ := F.ex
    exact .of_eq rfl
abbrev i6 : Stmt := inClass (top 9) 0
theorem sc6 : FnScope ["self", "value"] ["self", "value"] (defScope i6) := ⟨rfl, rfl, rfl, by decide +kernel, rfl, by decide +kernel, by decide +kernel⟩
theorem xi6 (F : Fun K "__init__" "BadBase.__init__" i6 (He.ma K (cA K 6) "__init__") fd) (g : mg "BadBase" = some (.ref (cA K 6))) (T : XC K (cA K 6)) (N : NoF K (cA K 6) "value")
    (h1 : PySem.W.findIn K (.ref (cA K 6)) "__init__" = some (some (.ref (He.ma K (cA K 6) "__init__")))) (h2 : PySem.W.typeIn K (.ref (He.ma K (cA K 6) "__init__")) = some (.type "function")) :
    XI P w K mg base 1 "BadBase" "value" (cA K 6) (He.ma K (cA K 6) "__init__") := by
  refine ⟨g, T, h1, h2, fd, ?_, fun s u v => ?_, fun s u v => ?_⟩
  · refine F.ok sc6 (fun vs H Q E h => ?_) (fun cdv A outer s H vs Q E hr h => ?_)
    · obtain ⟨a, y, rfl, _⟩ := h
      rfl
    · obtain ⟨a, y, rfl, ha, k⟩ := h
      exact ⟨_, pss_one (ps_fst (pv 0) (pv 1)), _, rfl, _, rfl, a, cA K 6, rfl, T, N, ha, k⟩
  · obtain ⟨oc, od, kV, doc, pm, an, cdv, ct, osl, rfl, lk, hcd⟩ := F.ex
    exact .of_eq rfl
  · obtain ⟨oc, od, kV, doc, pm, an, cdv, ct, osl, rfl, lk, hcd⟩ := F.ex
    exact .of_eq rfl
abbrev i7 : Stmt := inClass (top 10) 0
theorem sc7 : FnScope ["self", "value"] ["self", "value"] (defScope i7) := ⟨rfl, rfl, rfl, by decide +kernel, rfl, by decide +kernel, by decide +kernel⟩
theorem xi7 (F : Fun K "__init__" "BadPacker.__init__" i7 (He.ma K (cA K 7) "__init__") fd) (g : mg "BadPacker" = some (.ref (cA K 7))) (T : XC K (cA K 7)) (N : NoF K (cA K 7) "value")
    (h1 : PySem.W.findIn K (.ref (cA K 7)) "__init__" = some (some (.ref (He.ma K (cA K 7) "__init__")))) (h2 : PySem.W.typeIn K (.ref (He.ma K (cA K 7) "__init__")) = some (.type "function")) :
    XI P w K mg base 1 "BadPacker" "value" (cA K 7) (He.ma K (cA K 7) "__init__") := by
  refine ⟨g, T, h1, h2, fd, ?_, fun s u v => ?_, fun s u v => ?_⟩
  · refine F.ok sc7 (fun vs H Q E h => ?_) (fun cdv A outer s H vs Q E hr h => ?_)
    · obtain ⟨a, y, rfl, _⟩ := h
      rfl
    · obtain ⟨a, y, rfl, ha, k⟩ := h
      exact ⟨_, pss_one (ps_fst (pv 0) (pv 1)), _, rfl, _, rfl, a, cA K 7, rfl, T, N, ha, k⟩
  · obtain ⟨oc, od, kV, doc, pm, an, cdv, ct, osl, rfl, lk, hcd⟩ := F.ex
    exact .of_eq rfl
  · obtain ⟨oc, od, kV, doc, pm, an, cdv, ct, osl, rfl, lk, hcd⟩ := F.ex
    exact .of_eq rfl
abbrev i8 : Stmt := inClass (top 11) 0
theorem sc8 : FnScope ["self", "value"] ["self", "value"] (defScope i8) := ⟨rfl, rfl, rfl, by decide +kernel, rfl, by decide +kernel, by decide +kernel⟩
theorem xi8 (F : Fun K "__init__" "BadDeed.__init__" i8 (He.ma K (cA K 8) "__init__") fd) (g : mg "BadDeed" = some (.ref (cA K 8))) (T : XC K (cA K 8)) (N : NoF K (cA K 8) "value")
    (h1 : PySem.W.findIn K (.ref (cA K 8)) "__init__" = some (some (.ref (He.ma K (cA K 8) "__init__")))) (h2 : PySem.W.typeIn K (.ref (He.ma K (cA K 8) "__init__")) = some (.type "function")) :
    XI P w K mg base 1 "BadDeed" "value" (cA K 8) (He.ma K (cA K 8) "__init__") := by
  refine ⟨g, T, h1, h2, fd, ?_, fun s u v => ?_, fun s u v => ?_⟩
  · refine F.ok sc8 (fun vs H Q E h => ?_) (fun cdv A outer s H vs Q E hr h => ?_)
    · obtain ⟨a, y, rfl, _⟩ := h
      rfl
    · obtain ⟨a, y, rfl, ha, k⟩ := h
      exact ⟨_, pss_one (ps_fst (pv 0) (pv 1)), _, rfl, _, rfl, a, cA K 8, rfl, T, N, ha, k⟩
  · obtain ⟨oc, od, kV, doc, pm, an, cdv, ct, osl, rfl, lk, hcd⟩ := F.ex
    exact .of_eq rfl
  · obtain ⟨oc, od, kV, doc, pm, an, cdv, ct, osl, rfl, lk, hcd⟩ := F.ex
    exact .of_eq rfl
abbrev i9 : Stmt := inClass (top 12) 0
theorem sc9 : FnScope ["self", "value"] ["self", "value"] (defScope i9) := ⟨rfl, rfl, rfl, by decide +kernel, rfl, by decide +kernel, by decide +kernel⟩
theorem xi9 (F : Fun K "__init__" "BadNumber.__init__" i9 (He.ma K (cA K 9) "__init__") fd) (g : mg "BadNumber" = some (.ref (cA K 9))) (T : XC K (cA K 9)) (N : NoF K (cA K 9) "value")
    (h1 : PySem.W.findIn K (.ref (cA K 9)) "__init__" = some (some (.ref (He.ma K (cA K 9) "__init__")))) (h2 : PySem.W.typeIn K (.ref (He.ma K (cA K 9) "__init__")) = some (.type "function")) :
    XI P w K mg base 1 "BadNumber" "value" (cA K 9) (He.ma K (cA K 9) "__init__") := by
  refine ⟨g, T, h1, h2, fd, ?_, fun s u v => ?_, fun s u v => ?_⟩
  · refine F.ok sc9 (fun vs H Q E h => ?_) (fun cdv A outer s H vs Q E hr h => ?_)
    · obtain ⟨a, y, rfl, _⟩ := h
      rfl
    · obtain ⟨a, y, rfl, ha, k⟩ := h
      exact ⟨_, pss_one (ps_fst (pv 0) (pv 1)), _, rfl, _, rfl, a, cA K 9, rfl, T, N, ha, k⟩
  · obtain ⟨oc, od, kV, doc, pm, an, cdv, ct, osl, rfl, lk, hcd⟩ := F.ex
    exact .of_eq rfl
  · obtain ⟨oc, od, kV, doc, pm, an, cdv, ct, osl, rfl, lk, hcd⟩ := F.ex
    exact .of_eq rfl
abbrev i10 : Stmt := inClass (top 13) 0
theorem sc10 : FnScope ["self", "value"] ["self", "value"] (defScope i10) := ⟨rfl, rfl, rfl, by decide +kernel, rfl, by decide +kernel, by decide +kernel⟩
theorem xi10 (F : Fun K "__init__" "BadWalk.__init__" i10 (He.ma K (cA K 10) "__init__") fd) (g : mg "BadWalk" = some (.ref (cA K 10))) (T : XC K (cA K 10)) (N : NoF K (cA K 10) "value")
    (h1 : PySem.W.findIn K (.ref (cA K 10)) "__init__" = some (some (.ref (He.ma K (cA K 10) "__init__")))) (h2 : PySem.W.typeIn K (.ref (He.ma K (cA K 10) "__init__")) = some (.type "function")) :
    XI P w K mg base 1 "BadWalk" "value" (cA K 10) (He.ma K (cA K 10) "__init__") := by
  refine ⟨g, T, h1, h2, fd, ?_, fun s u v => ?_, fun s u v => ?_⟩
  · refine F.ok sc10 (fun vs H Q E h => ?_) (fun cdv A outer s H vs Q E hr h => ?_)
    · obtain ⟨a, y, rfl, _⟩ := h
      rfl
    · obtain ⟨a, y, rfl, ha, k⟩ := h
      exact ⟨_, pss_one (ps_fst (pv 0) (pv 1)), _, rfl, _, rfl, a, cA K 10, rfl, T, N, ha, k⟩
  · obtain ⟨oc, od, kV, doc, pm, an, cdv, ct, osl, rfl, lk, hcd⟩ := F.ex
    exact .of_eq rfl
  · obtain ⟨oc, od, kV, doc, pm, an, cdv, ct, osl, rfl, lk, hcd⟩ := F.ex
    exact .of_eq rfl
abbrev i11 : Stmt := inClass (top 14) 0
theorem sc11 : FnScope ["self", "value"] ["self", "value"] (defScope i11) := ⟨rfl, rfl, rfl, by decide +kernel, rfl, by decide +kernel, by decide +kernel⟩
theorem xi11 (F : Fun K "__init__" "BadPaper.__init__" i11 (He.ma K (cA K 11) "__init__") fd) (g : mg "BadPaper" = some (.ref (cA K 11))) (T : XC K (cA K 11)) (N : NoF K (cA K 11) "value")
    (h1 : PySem.W.findIn K (.ref (cA K 11)) "__init__" = some (some (.ref (He.ma K (cA K 11) "__init__")))) (h2 : PySem.W.typeIn K (.ref (He.ma K (cA K 11) "__init__")) = some (.type "function")) :
    XI P w K mg base 1 "BadPaper" "value" (cA K 11) (He.ma K (cA K 11) "__init__") := by
  refine ⟨g, T, h1, h2, fd, ?_, fun s u v => ?_, fun s u v => ?_⟩
  · refine F.ok sc11 (fun vs H Q E h => ?_) (fun cdv A outer s H vs Q E hr h => ?_)
    · obtain ⟨a, y, rfl, _⟩ := h
      rfl
    · obtain ⟨a, y, rfl, ha, k⟩ := h
      exact ⟨_, pss_one (ps_fst (pv 0) (pv 1)), _, rfl, _, rfl, a, cA K 11, rfl, T, N, ha, k⟩
  · obtain ⟨oc, od, kV, doc, pm, an, cdv, ct, osl, rfl, lk, hcd⟩ := F.ex
    exact .of_eq rfl
  · obtain ⟨oc, od, kV, doc, pm, an, cdv, ct, osl, rfl, lk, hcd⟩ := F.ex
    exact .of_eq rfl
abbrev i12 : Stmt := inClass (top 16) 0
theorem sc12 : FnScope ["self", "value"] ["self", "value"] (defScope i12) := ⟨rfl, rfl, rfl, by decide +kernel, rfl, by decide +kernel, by decide +kernel⟩
theorem xi12 (F : Fun K "__init__" "BadChange.__init__" i12 (He.ma K (cA K 12) "__init__") fd) (g : mg "BadChange" = some (.ref (cA K 12))) (T : XC K (cA K 12)) (N : NoF K (cA K 12) "value")
    (h1 : PySem.W.findIn K (.ref (cA K 12)) "__init__" = some (some (.ref (He.ma K (cA K 12) "__init__")))) (h2 : PySem.W.typeIn K (.ref (He.ma K (cA K 12) "__init__")) = some (.type "function")) :
    XI P w K mg base 1 "BadChange" "value" (cA K 12) (He.ma K (cA K 12) "__init__") := by
  refine ⟨g, T, h1, h2, fd, ?_, fun s u v => ?_, fun s u v => ?_⟩
  · refine F.ok sc12 (fun vs H Q E h => ?_) (fun cdv A outer s H vs Q E hr h => ?_)
    · obtain ⟨a, y, rfl, _⟩ := h
      rfl
    · obtain ⟨a, y, rfl, ha, k⟩ := h
      exact ⟨_, pss_one (ps_fst (pv 0) (pv 1)), _, rfl, _, rfl, a, cA K 12, rfl, T, N, ha, k⟩
  · obtain ⟨oc, od, kV, doc, pm, an, cdv, ct, osl, rfl, lk, hcd⟩ := F.ex
    exact .of_eq rfl
  · obtain ⟨oc, od, kV, doc, pm, an, cdv, ct, osl, rfl, lk, hcd⟩ := F.ex
    exact .of_eq rfl
abbrev i13 : Stmt := inClass (top 17) 0
theorem sc13 : FnScope ["self", "value"] ["self", "value"] (defScope i13) := ⟨rfl, rfl, rfl, by decide +kernel, rfl, by decide +kernel, by decide +kernel⟩
theorem xi13 (F : Fun K "__init__" "BadWish.__init__" i13 (He.ma K (cA K 13) "__init__") fd) (g : mg "BadWish" = some (.ref (cA K 13))) (T : XC K (cA K 13)) (N : NoF K (cA K 13) "value")
    (h1 : PySem.W.findIn K (.ref (cA K 13)) "__init__" = some (some (.ref (He.ma K (cA K 13) "__init__")))) (h2 : PySem.W.typeIn K (.ref (He.ma K (cA K 13) "__init__")) = some (.type "function")) :
    XI P w K mg base 1 "BadWish" "value" (cA K 13) (He.ma K (cA K 13) "__init__") := by
  refine ⟨g, T, h1, h2, fd, ?_, fun s u v => ?_, fun s u v => ?_⟩
  · refine F.ok sc13 (fun vs H Q E h => ?_) (fun cdv A outer s H vs Q E hr h => ?_)
    · obtain ⟨a, y, rfl, _⟩ := h
      rfl
    · obtain ⟨a, y, rfl, ha, k⟩ := h
      exact ⟨_, pss_one (ps_fst (pv 0) (pv 1)), _, rfl, _, rfl, a, cA K 13, rfl, T, N, ha, k⟩
  · obtain ⟨oc, od, kV, doc, pm, an, cdv, ct, osl, rfl, lk, hcd⟩ := F.ex
    exact .of_eq rfl
  · obtain ⟨oc, od, kV, doc, pm, an, cdv, ct, osl, rfl, lk, hcd⟩ := F.ex
    exact .of_eq rfl
abbrev i14 : Stmt := inClass (top 23) 0
theorem sc14 : FnScope ["self", "value"] ["self", "value"] (defScope i14) := ⟨rfl, rfl, rfl, by decide +kernel, rfl, by decide +kernel, by decide +kernel⟩
theorem xi14 (F : Fun K "__init__" "BadEntry.__init__" i14 (He.ma K (cA K 14) "__init__") fd) (g : mg "BadEntry" = some (.ref (cA K 14))) (T : XC K (cA K 14)) (N : NoF K (cA K 14) "value")
    (h1 : PySem.W.findIn K (.ref (cA K 14)) "__init__" = some (some (.ref (He.ma K (cA K 14) "__init__")))) (h2 : PySem.W.typeIn K (.ref (He.ma K (cA K 14) "__init__")) = some (.type "function")) :
    XI P w K mg base 1 "BadEntry" "value" (cA K 14) (He.ma K (cA K 14) "__init__") := by
  refine ⟨g, T, h1, h2, fd, ?_, fun s u v => ?_, fun s u v => ?_⟩
  · refine F.ok sc14 (fun vs H Q E h => ?_) (fun cdv A outer s H vs Q E hr h => ?_)
    · obtain ⟨a, y, rfl, _⟩ := h
      rfl
    · obtain ⟨a, y, rfl, ha, k⟩ := h
      exact ⟨_, pss_one (ps_fst (pv 0) (pv 1)), _, rfl, _, rfl, a, cA K 14, rfl, T, N, ha, k⟩
  · obtain ⟨oc, od, kV, doc, pm, an, cdv, ct, osl, rfl, lk, hcd⟩ := F.ex
    exact .of_eq rfl
  · obtain ⟨oc, od, kV, doc, pm, an, cdv, ct, osl, rfl, lk, hcd⟩ := F.ex
    exact .of_eq rfl
abbrev i15 : Stmt := inClass (top 3) 0
theorem sc15 : FnScope ["self", "part"] ["self", "part"] (defScope i15) := ⟨rfl, rfl, rfl, by decide +kernel, rfl, by decide +kernel, by decide +kernel⟩
theorem xi15 (F : Fun K "__init__" "BadRule.__init__" i15 (He.ma K (cA K 15) "__init__") fd) (g : mg "BadRule" = some (.ref (cA K 15))) (T : XC K (cA K 15)) (N : NoF K (cA K 15) "part")
    (h1 : PySem.W.findIn K (.ref (cA K 15)) "__init__" = some (some (.ref (He.ma K (cA K 15) "__init__")))) (h2 : PySem.W.typeIn K (.ref (He.ma K (cA K 15) "__init__")) = some (.type "function")) :
    XI P w K mg base 1 "BadRule" "part" (cA K 15) (He.ma K (cA K 15) "__init__") := by
  refine ⟨g, T, h1, h2, fd, ?_, fun s u v => ?_, fun s u v => ?_⟩
  · refine F.ok sc15 (fun vs H Q E h => ?_) (fun cdv A outer s H vs Q E hr h => ?_)
    · obtain ⟨a, y, rfl, _⟩ := h
      rfl
    · obtain ⟨a, y, rfl, ha, k⟩ := h
      exact ⟨_, pss_one (ps_fst (pv 0) (pv 1)), _, rfl, _, rfl, a, cA K 15, rfl, T, N, ha, k⟩
  · obtain ⟨oc, od, kV, doc, pm, an, cdv, ct, osl, rfl, lk, hcd⟩ := F.ex
    exact .of_eq rfl
  · obtain ⟨oc, od, kV, doc, pm, an, cdv, ct, osl, rfl, lk, hcd⟩ := F.ex
    exact .of_eq rfl
abbrev i16 : Stmt := inClass (top 15) 0
theorem sc16 : FnScope ["self", "at"] ["self", "at"] (defScope i16) := ⟨rfl, rfl, rfl, by decide +kernel, rfl, by decide +kernel, by decide +kernel⟩
theorem xi16 (F : Fun K "__init__" "BadText.__init__" i16 (He.ma K (cA K 16) "__init__") fd) (g : mg "BadText" = some (.ref (cA K 16))) (T : XC K (cA K 16)) (N : NoF K (cA K 16) "at")
    (h1 : PySem.W.findIn K (.ref (cA K 16)) "__init__" = some (some (.ref (He.ma K (cA K 16) "__init__")))) (h2 : PySem.W.typeIn K (.ref (He.ma K (cA K 16) "__init__")) = some (.type "function")) :
    XI P w K mg base 1 "BadText" "at" (cA K 16) (He.ma K (cA K 16) "__init__") := by
  refine ⟨g, T, h1, h2, fd, ?_, fun s u v => ?_, fun s u v => ?_⟩
  · refine F.ok sc16 (fun vs H Q E h => ?_) (fun cdv A outer s H vs Q E hr h => ?_)
    · obtain ⟨a, y, rfl, _⟩ := h
      rfl
    · obtain ⟨a, y, rfl, ha, k⟩ := h
      exact ⟨_, pss_one (ps_fst (pv 0) (pv 1)), _, rfl, _, rfl, a, cA K 16, rfl, T, N, ha, k⟩
  · obtain ⟨oc, od, kV, doc, pm, an, cdv, ct, osl, rfl, lk, hcd⟩ := F.ex
    exact .of_eq rfl
  · obtain ⟨oc, od, kV, doc, pm, an, cdv, ct, osl, rfl, lk, hcd⟩ := F.ex
    exact .of_eq rfl
abbrev i17 : Stmt := inClass (top 18) 0
theorem sc17 : FnScope ["self", "line"] ["self", "line"] (defScope i17) := ⟨rfl, rfl, rfl, by decide +kernel, rfl, by decide +kernel, by decide +kernel⟩
theorem xi17 (F : Fun K "__init__" "BadCommand.__init__" i17 (He.ma K (cA K 17) "__init__") fd) (g : mg "BadCommand" = some (.ref (cA K 17))) (T : XC K (cA K 17)) (N : NoF K (cA K 17) "line")
    (h1 : PySem.W.findIn K (.ref (cA K 17)) "__init__" = some (some (.ref (He.ma K (cA K 17) "__init__")))) (h2 : PySem.W.typeIn K (.ref (He.ma K (cA K 17) "__init__")) = some (.type "function")) :
    XI P w K mg base 1 "BadCommand" "line" (cA K 17) (He.ma K (cA K 17) "__init__") := by
  refine ⟨g, T, h1, h2, fd, ?_, fun s u v => ?_, fun s u v => ?_⟩
  · refine F.ok sc17 (fun vs H Q E h => ?_) (fun cdv A outer s H vs Q E hr h => ?_)
    · obtain ⟨a, y, rfl, _⟩ := h
      rfl
    · obtain ⟨a, y, rfl, ha, k⟩ := h
      exact ⟨_, pss_one (ps_fst (pv 0) (pv 1)), _, rfl, _, rfl, a, cA K 17, rfl, T, N, ha, k⟩
  · obtain ⟨oc, od, kV, doc, pm, an, cdv, ct, osl, rfl, lk, hcd⟩ := F.ex
    exact .of_eq rfl
  · obtain ⟨oc, od, kV, doc, pm, an, cdv, ct, osl, rfl, lk, hcd⟩ := F.ex
    exact .of_eq rfl
abbrev i18 : Stmt := inClass (top 19) 0
theorem sc18 : FnScope ["self", "things"] ["self", "things"] (defScope i18) := ⟨rfl, rfl, rfl, by decide +kernel, rfl, by decide +kernel, by decide +kernel⟩
theorem xi18 (F : Fun K "__init__" "Ringed.__init__" i18 (He.ma K (cA K 18) "__init__") fd) (g : mg "Ringed" = some (.ref (cA K 18))) (T : XC K (cA K 18)) (N : NoF K (cA K 18) "things")
    (h1 : PySem.W.findIn K (.ref (cA K 18)) "__init__" = some (some (.ref (He.ma K (cA K 18) "__init__")))) (h2 : PySem.W.typeIn K (.ref (He.ma K (cA K 18) "__init__")) = some (.type "function")) :
    XI P w K mg base 1 "Ringed" "things" (cA K 18) (He.ma K (cA K 18) "__init__") := by
  refine ⟨g, T, h1, h2, fd, ?_, fun s u v => ?_, fun s u v => ?_⟩
  · refine F.ok sc18 (fun vs H Q E h => ?_) (fun cdv A outer s H vs Q E hr h => ?_)
    · obtain ⟨a, y, rfl, _⟩ := h
      rfl
    · obtain ⟨a, y, rfl, ha, k⟩ := h
      exact ⟨_, pss_one (ps_fst (pv 0) (pv 1)), _, rfl, _, rfl, a, cA K 18, rfl, T, N, ha, k⟩
  · obtain ⟨oc, od, kV, doc, pm, an, cdv, ct, osl, rfl, lk, hcd⟩ := F.ex
    exact .of_eq rfl
  · obtain ⟨oc, od, kV, doc, pm, an, cdv, ct, osl, rfl, lk, hcd⟩ := F.ex
    exact .of_eq rfl
abbrev i19 : Stmt := inClass (top 20) 0
theorem sc19 : FnScope ["self", "word"] ["self", "word"] (defScope i19) := ⟨rfl, rfl, rfl, by decide +kernel, rfl, by decide +kernel, by decide +kernel⟩
theorem xi19 (F : Fun K "__init__" "Lost.__init__" i19 (He.ma K (cA K 19) "__init__") fd) (g : mg "Lost" = some (.ref (cA K 19))) (T : XC K (cA K 19)) (N : NoF K (cA K 19) "word")
    (h1 : PySem.W.findIn K (.ref (cA K 19)) "__init__" = some (some (.ref (He.ma K (cA K 19) "__init__")))) (h2 : PySem.W.typeIn K (.ref (He.ma K (cA K 19) "__init__")) = some (.type "function")) :
    XI P w K mg base 1 "Lost" "word" (cA K 19) (He.ma K (cA K 19) "__init__") := by
  refine ⟨g, T, h1, h2, fd, ?_, fun s u v => ?_, fun s u v => ?_⟩
  · refine F.ok sc19 (fun vs H Q E h => ?_) (fun cdv A outer s H vs Q E hr h => ?_)
    · obtain ⟨a, y, rfl, _⟩ := h
      rfl
    · obtain ⟨a, y, rfl, ha, k⟩ := h
      exact ⟨_, pss_one (ps_fst (pv 0) (pv 1)), _, rfl, _, rfl, a, cA K 19, rfl, T, N, ha, k⟩
  · obtain ⟨oc, od, kV, doc, pm, an, cdv, ct, osl, rfl, lk, hcd⟩ := F.ex
    exact .of_eq rfl
  · obtain ⟨oc, od, kV, doc, pm, an, cdv, ct, osl, rfl, lk, hcd⟩ := F.ex
    exact .of_eq rfl
abbrev i20 : Stmt := inClass (top 21) 0
theorem sc20 : FnScope ["self", "number"] ["self", "number"] (defScope i20) := ⟨rfl, rfl, rfl, by decide +kernel, rfl, by decide +kernel, by decide +kernel⟩
theorem xi20 (F : Fun K "__init__" "TooMany.__init__" i20 (He.ma K (cA K 20) "__init__") fd) (g : mg "TooMany" = some (.ref (cA K 20))) (T : XC K (cA K 20)) (N : NoF K (cA K 20) "number")
    (h1 : PySem.W.findIn K (.ref (cA K 20)) "__init__" = some (some (.ref (He.ma K (cA K 20) "__init__")))) (h2 : PySem.W.typeIn K (.ref (He.ma K (cA K 20) "__init__")) = some (.type "function")) :
    XI P w K mg base 1 "TooMany" "number" (cA K 20) (He.ma K (cA K 20) "__init__") := by
  refine ⟨g, T, h1, h2, fd, ?_, fun s u v => ?_, fun s u v => ?_⟩
  · refine F.ok sc20 (fun vs H Q E h => ?_) (fun cdv A outer s H vs Q E hr h => ?_)
    · obtain ⟨a, y, rfl, _⟩ := h
      rfl
    · obtain ⟨a, y, rfl, ha, k⟩ := h
      exact ⟨_, pss_one (ps_fst (pv 0) (pv 1)), _, rfl, _, rfl, a, cA K 20, rfl, T, N, ha, k⟩
  · obtain ⟨oc, od, kV, doc, pm, an, cdv, ct, osl, rfl, lk, hcd⟩ := F.ex
    exact .of_eq rfl
  · obtain ⟨oc, od, kV, doc, pm, an, cdv, ct, osl, rfl, lk, hcd⟩ := F.ex
    exact .of_eq rfl
abbrev i21 : Stmt := inClass (top 22) 0
theorem sc21 : FnScope ["self", "word"] ["self", "word"] (defScope i21) := ⟨rfl, rfl, rfl, by decide +kernel, rfl, by decide +kernel, by decide +kernel⟩
theorem xi21 (F : Fun K "__init__" "Leaned.__init__" i21 (He.ma K (cA K 21) "__init__") fd) (g : mg "Leaned" = some (.ref (cA K 21))) (T : XC K (cA K 21)) (N : NoF K (cA K 21) "word")
    (h1 : PySem.W.findIn K (.ref (cA K 21)) "__init__" = some (some (.ref (He.ma K (cA K 21) "__init__")))) (h2 : PySem.W.typeIn K (.ref (He.ma K (cA K 21) "__init__")) = some (.type "function")) :
    XI P w K mg base 1 "Leaned" "word" (cA K 21) (He.ma K (cA K 21) "__init__") := by
  refine ⟨g, T, h1, h2, fd, ?_, fun s u v => ?_, fun s u v => ?_⟩
  · refine F.ok sc21 (fun vs H Q E h => ?_) (fun cdv A outer s H vs Q E hr h => ?_)
    · obtain ⟨a, y, rfl, _⟩ := h
      rfl
    · obtain ⟨a, y, rfl, ha, k⟩ := h
      exact ⟨_, pss_one (ps_fst (pv 0) (pv 1)), _, rfl, _, rfl, a, cA K 21, rfl, T, N, ha, k⟩
  · obtain ⟨oc, od, kV, doc, pm, an, cdv, ct, osl, rfl, lk, hcd⟩ := F.ex
    exact .of_eq rfl
  · obtain ⟨oc, od, kV, doc, pm, an, cdv, ct, osl, rfl, lk, hcd⟩ := F.ex
    exact .of_eq rfl
end
end K39

set_option Elab.async false
set_option linter.all false
set_option maxRecDepth 100000
set_option maxHeartbeats 0
namespace K39
open PySem PySem.Spec PyProof.Rows L2 EX
/-! ### the head: facts by names, one run of the top -/
def d0 : He.DefD := ⟨("BadArgument", some "__init__"), "__init__", "BadArgument.__init__", defArgs i0, defBody i0, defScope i0, [], []⟩
def d1 : He.DefD := ⟨("BadKind", some "__init__"), "__init__", "BadKind.__init__", defArgs i1, defBody i1, defScope i1, [], []⟩
def d2 : He.DefD := ⟨("BadMeasure", some "__init__"), "__init__", "BadMeasure.__init__", defArgs i2, defBody i2, defScope i2, [], []⟩
def d3 : He.DefD := ⟨("BadThing", some "__init__"), "__init__", "BadThing.__init__", defArgs i3, defBody i3, defScope i3, [], []⟩
def d4 : He.DefD := ⟨("BadWord", some "__init__"), "__init__", "BadWord.__init__", defArgs i4, defBody i4, defScope i4, [], []⟩
def d5 : He.DefD := ⟨("BadMarks", some "__init__"), "__init__", "BadMarks.__init__", defArgs i5, defBody i5, defScope i5, [], []⟩
def d6 : He.DefD := ⟨("BadBase", some "__init__"), "__init__", "BadBase.__init__", defArgs i6, defBody i6, defScope i6, [], []⟩
def d7 : He.DefD := ⟨("BadPacker", some "__init__"), "__init__", "BadPacker.__init__", defArgs i7, defBody i7, defScope i7, [], []⟩
def d8 : He.DefD := ⟨("BadDeed", some "__init__"), "__init__", "BadDeed.__init__", defArgs i8, defBody i8, defScope i8, [], []⟩
def d9 : He.DefD := ⟨("BadNumber", some "__init__"), "__init__", "BadNumber.__init__", defArgs i9, defBody i9, defScope i9, [], []⟩
def d10 : He.DefD := ⟨("BadWalk", some "__init__"), "__init__", "BadWalk.__init__", defArgs i10, defBody i10, defScope i10, [], []⟩
def d11 : He.DefD := ⟨("BadPaper", some "__init__"), "__init__", "BadPaper.__init__", defArgs i11, defBody i11, defScope i11, [], []⟩
def d12 : He.DefD := ⟨("BadChange", some "__init__"), "__init__", "BadChange.__init__", defArgs i12, defBody i12, defScope i12, [], []⟩
def d13 : He.DefD := ⟨("BadWish", some "__init__"), "__init__", "BadWish.__init__", defArgs i13, defBody i13, defScope i13, [], []⟩
def d14 : He.DefD := ⟨("BadEntry", some "__init__"), "__init__", "BadEntry.__init__", defArgs i14, defBody i14, defScope i14, [], []⟩
def d15 : He.DefD := ⟨("BadRule", some "__init__"), "__init__", "BadRule.__init__", defArgs i15, defBody i15, defScope i15, [], []⟩
def d16 : He.DefD := ⟨("BadText", some "__init__"), "__init__", "BadText.__init__", defArgs i16, defBody i16, defScope i16, [], []⟩
def d17 : He.DefD := ⟨("BadCommand", some "__init__"), "__init__", "BadCommand.__init__", defArgs i17, defBody i17, defScope i17, [], []⟩
def d18 : He.DefD := ⟨("Ringed", some "__init__"), "__init__", "Ringed.__init__", defArgs i18, defBody i18, defScope i18, [], []⟩
def d19 : He.DefD := ⟨("Lost", some "__init__"), "__init__", "Lost.__init__", defArgs i19, defBody i19, defScope i19, [], []⟩
def d20 : He.DefD := ⟨("TooMany", some "__init__"), "__init__", "TooMany.__init__", defArgs i20, defBody i20, defScope i20, [], []⟩
def d21 : He.DefD := ⟨("Leaned", some "__init__"), "__init__", "Leaned.__init__", defArgs i21, defBody i21, defScope i21, [], []⟩
def d22 : He.DefD := ⟨("_law_numbers", none), "_law_numbers", "_law_numbers", defArgs sNum, defBody sNum, defScope sNum, [], []⟩
def d23 : He.DefD := ⟨("_law_pool", none), "_law_pool", "_law_pool", defArgs sPool, defBody sPool, defScope sPool, [], []⟩
def d24 : He.DefD := ⟨("_law_draw", none), "_law_draw", "_law_draw", defArgs sDraw, defBody sDraw, defScope sDraw, [], []⟩
def d25 : He.DefD := ⟨("_law_pick", none), "_law_pick", "_law_pick", defArgs sPick, defBody sPick, defScope sPick, [], []⟩
def d26 : He.DefD := ⟨("_law_opened", none), "_law_opened", "_law_opened", defArgs sOpen, defBody sOpen, defScope sOpen, [], []⟩
def d27 : He.DefD := ⟨("_law_objects", none), "_law_objects", "_law_objects", defArgs sObj, defBody sObj, defScope sObj, [], []⟩
def d28 : He.DefD := ⟨("_law_classes", none), "_law_classes", "_law_classes", defArgs sCls, defBody sCls, defScope sCls, [], []⟩
def d29 : He.DefD := ⟨("_law_fields", none), "_law_fields", "_law_fields", defArgs sFld, defBody sFld, defScope sFld, [], []⟩
def d30 : He.DefD := ⟨("_law_placed", none), "_law_placed", "_law_placed", defArgs sPlc, defBody sPlc, defScope sPlc, [], []⟩
def d31 : He.DefD := ⟨("law", none), "law", "law", defArgs sLaw, defBody sLaw, defScope sLaw, [], []⟩
def fn : List He.DefD := ([d0, d1, d2, d3, d4, d5, d6, d7, d8, d9, d10, d11, d12, d13, d14, d15, d16, d17, d18, d19] : List He.DefD) ++ ([d20, d21, d22, d23, d24, d25, d26, d27, d28, d29, d30, d31] : List He.DefD)
def fa : List He.Fa := ([.glo "BadArgument", .glo "BadKind", .glo "BadMeasure", .glo "BadThing", .glo "BadWord", .glo "BadMarks", .glo "BadBase", .glo "BadPacker", .glo "BadDeed", .glo "BadNumber", .glo "BadWalk", .glo "BadPaper", .glo "BadChange", .glo "BadWish", .glo "BadEntry", .glo "BadRule", .glo "BadText", .glo "BadCommand", .glo "Ringed", .glo "Lost"] : List He.Fa) ++ ([.glo "TooMany", .glo "Leaned", .glo "NothingLeft", .glo "PackError", .glo "_law_numbers", .glo "_law_pool", .glo "_law_draw", .glo "_law_pick", .glo "_law_opened", .glo "_law_objects", .glo "_law_classes", .glo "_law_fields", .glo "_law_placed", .glo "law", .free "max", .free "min", .free "int", .free "range", .free "len", .free "isinstance", .free "enumerate"] : List He.Fa)
def fs : List (Nat × Str) := [(0, "value"), (1, "value"), (2, "value"), (3, "value"), (4, "value"), (5, "value"), (6, "value"), (7, "value"), (8, "value"), (9, "value"), (10, "value"), (11, "value"), (12, "value"), (13, "value"), (14, "value"), (15, "part"), (16, "at"), (17, "line"), (18, "things"), (19, "word"), (20, "number"), (21, "word")]
/-- what is asked of the classes -/
def clB (K : PySem.W.Frag) : Bool :=
  (fs.all fun p => noB K (cA K p.1) p.2 && (He.eqO (PySem.W.findIn K (.ref (cA K p.1)) "__init__") (some (some (.ref (He.ma K (cA K p.1) "__init__")))) && decide (PySem.W.typeIn K (.ref (He.ma K (cA K p.1) "__init__")) = some (.type "function")))) &&
  (((List.range 23).all fun i => xcB K (cA K i) && decide (PySem.W.kitOne K (.ref (cA K i)) (.ref (He.ga K "PackError")) = some true)) &&
  (((List.range 23).all fun i => (List.range 23).all fun j => decide (PySem.W.kitOne K (.ref (cA K i)) (.ref (cA K j)) = some (decide (i = j)))) &&
  (PySem.W.excIn K (cA K 22) eT "Exception.__new__" && kclB K)))
abbrev R : PySem.W.OpenRow := PySem.W.OpenLaw.row PySem.Challenge.rw_packedbases_k39_errors
/-- the part of the heap that is looked at -/
def part (g : Addr → Option Obj) : PySem.W.Frag := He.frG g (He.asD g 5)
def obG (g : Addr → Option Obj) : Bool × He.AlD := let K := part g; (clB K, He.obsD fa fn K)
def hk : PySem.W.Hook where
  α := Bool × He.AlD
  obs := fun s => obG s.heap.get?
  val := fun _ => (true, He.valD fn)
  says := fun _ h => ∃ K : PySem.W.Frag, K.In h ∧ clB K = true ∧ He.SaysD fa fn K
  of := fun _ _ e => ⟨_, He.frG_in, congrArg Prod.fst e, congrArg Prod.snd e⟩
  keeps := fun _ _ _ ⟨K, hK, c⟩ k => ⟨K, PySem.W.Frag.In.keeps hK k, c⟩
def ob (s : PySem.W.SharedT) : Bool × He.AlD := obG (HandSHeadRun.getT s)
theorem ob_eq (s : PySem.W.SharedT) : ob s = hk.obs s.abs := by
  have e : HandSHeadRun.getT s = s.abs.heap.get? := funext (HandSHeadRun.getT_eq s)
  show obG (HandSHeadRun.getT s) = obG s.abs.heap.get?
  rw [e]
def loose : List Str := (["PackError", "BadArgument", "BadRule", "BadKind", "BadMeasure", "BadThing", "BadWord", "BadMarks", "BadBase", "BadPacker", "BadDeed", "BadNumber", "BadWalk", "BadPaper"] : List Str) ++ (["BadText", "BadChange", "BadWish", "BadCommand", "Ringed", "Lost", "TooMany", "Leaned", "BadEntry", "NothingLeft", "_law_numbers", "_law_pool", "_law_draw", "_law_pick", "_law_opened", "_law_objects", "_law_classes", "_law_fields", "_law_placed"] : List Str)
theorem run (w : World) : HandSHeadRun.RunEq R (PySem.W.view R.prog [35]) hk ob 8000 loose w := by
  intro os
  kernel_rfl
end K39

set_option Elab.async false
set_option linter.all false
set_option maxRecDepth 100000
set_option maxHeartbeats 0
namespace K39
open PySem PySem.Spec PyProof.Rows L2 EX
theorem facts {P : Program} {w : World} {K : PySem.W.Frag} {h : Heap} {mg : Str → Option Value} {f : Addr} (X : K.In h) (G : h.Ns mainGlobals mg) (hfa : mg ("law" : Str) = some (.ref f)) (cl : clB K = true) (c : He.SaysD fa fn K) :
    ∃ fd : FuncData, (∀ (s : Shared) (v : Value), BindsTo s fd ⟨[v], []⟩ [("script", v)]) ∧ ∀ base : Heap, K.In base → base.Ns mainGlobals mg → FnOk P w K mg base CX0 4 f fd ["script"] (spLaw K) := by
  obtain ⟨c1, cl⟩ := He.ba cl
  obtain ⟨c2, cl⟩ := He.ba cl
  obtain ⟨c3, cl⟩ := He.ba cl
  obtain ⟨c4, c5⟩ := He.ba cl
  have xc : ∀ i, i < 23 → XC K (cA K i) ∧ PySem.W.kitOne K (.ref (cA K i)) (.ref (He.ga K "PackError")) = some true := fun i hi => by
    obtain ⟨z1, z2⟩ := He.ba (List.all_eq_true.mp c2 i (List.mem_range.mpr hi))
    exact ⟨xcB_ok z1, of_decide_eq_true z2⟩
  have kt : ∀ i j, i < 23 → j < 23 → PySem.W.kitOne K (.ref (cA K i)) (.ref (cA K j)) = some (decide (i = j)) := fun i j hi hj =>
    of_decide_eq_true (List.all_eq_true.mp (List.all_eq_true.mp c3 i (List.mem_range.mpr hi)) j (List.mem_range.mpr hj))
  have nf : ∀ p ∈ fs, NoF K (cA K p.1) p.2 ∧ PySem.W.findIn K (.ref (cA K p.1)) "__init__" = some (some (.ref (He.ma K (cA K p.1) "__init__"))) ∧ PySem.W.typeIn K (.ref (He.ma K (cA K p.1) "__init__")) = some (.type "function") := fun p hp => by
    obtain ⟨z1, z2⟩ := He.ba (List.all_eq_true.mp c1 p hp)
    obtain ⟨z3, z4⟩ := He.ba z2
    exact ⟨noB_ok z1, He.eqO_ok z3, of_decide_eq_true z4⟩
  obtain ⟨fd0, F0⟩ := c.def_ 0 (d := d0) rfl
  obtain ⟨fd1, F1⟩ := c.def_ 1 (d := d1) rfl
  obtain ⟨fd2, F2⟩ := c.def_ 2 (d := d2) rfl
  obtain ⟨fd3, F3⟩ := c.def_ 3 (d := d3) rfl
  obtain ⟨fd4, F4⟩ := c.def_ 4 (d := d4) rfl
  obtain ⟨fd5, F5⟩ := c.def_ 5 (d := d5) rfl
  obtain ⟨fd6, F6⟩ := c.def_ 6 (d := d6) rfl
  obtain ⟨fd7, F7⟩ := c.def_ 7 (d := d7) rfl
  obtain ⟨fd8, F8⟩ := c.def_ 8 (d := d8) rfl
  obtain ⟨fd9, F9⟩ := c.def_ 9 (d := d9) rfl
  obtain ⟨fd10, F10⟩ := c.def_ 10 (d := d10) rfl
  obtain ⟨fd11, F11⟩ := c.def_ 11 (d := d11) rfl
  obtain ⟨fd12, F12⟩ := c.def_ 12 (d := d12) rfl
  obtain ⟨fd13, F13⟩ := c.def_ 13 (d := d13) rfl
  obtain ⟨fd14, F14⟩ := c.def_ 14 (d := d14) rfl
  obtain ⟨fd15, F15⟩ := c.def_ 15 (d := d15) rfl
  obtain ⟨fd16, F16⟩ := c.def_ 16 (d := d16) rfl
  obtain ⟨fd17, F17⟩ := c.def_ 17 (d := d17) rfl
  obtain ⟨fd18, F18⟩ := c.def_ 18 (d := d18) rfl
  obtain ⟨fd19, F19⟩ := c.def_ 19 (d := d19) rfl
  obtain ⟨fd20, F20⟩ := c.def_ 20 (d := d20) rfl
  obtain ⟨fd21, F21⟩ := c.def_ 21 (d := d21) rfl
  obtain ⟨fe0, G0⟩ := c.def_ 22 (d := d22) rfl
  obtain ⟨fe1, G1⟩ := c.def_ 23 (d := d23) rfl
  obtain ⟨fe2, G2⟩ := c.def_ 24 (d := d24) rfl
  obtain ⟨fe3, G3⟩ := c.def_ 25 (d := d25) rfl
  obtain ⟨fe4, G4⟩ := c.def_ 26 (d := d26) rfl
  obtain ⟨fe5, G5⟩ := c.def_ 27 (d := d27) rfl
  obtain ⟨fe6, G6⟩ := c.def_ 28 (d := d28) rfl
  obtain ⟨fe7, G7⟩ := c.def_ 29 (d := d29) rfl
  obtain ⟨fe8, G8⟩ := c.def_ 30 (d := d30) rfl
  obtain ⟨fe9, G9⟩ := c.def_ 31 (d := d31) rfl
  have g0 : mg "_law_numbers" = some (.ref (He.ga K "_law_numbers")) := He.glo_ok X G (c.fact 24 (f := .glo "_law_numbers") rfl)
  have g1 : mg "_law_pool" = some (.ref (He.ga K "_law_pool")) := He.glo_ok X G (c.fact 25 (f := .glo "_law_pool") rfl)
  have g2 : mg "_law_draw" = some (.ref (He.ga K "_law_draw")) := He.glo_ok X G (c.fact 26 (f := .glo "_law_draw") rfl)
  have g3 : mg "_law_pick" = some (.ref (He.ga K "_law_pick")) := He.glo_ok X G (c.fact 27 (f := .glo "_law_pick") rfl)
  have g4 : mg "_law_opened" = some (.ref (He.ga K "_law_opened")) := He.glo_ok X G (c.fact 28 (f := .glo "_law_opened") rfl)
  have g5 : mg "_law_objects" = some (.ref (He.ga K "_law_objects")) := He.glo_ok X G (c.fact 29 (f := .glo "_law_objects") rfl)
  have g6 : mg "_law_classes" = some (.ref (He.ga K "_law_classes")) := He.glo_ok X G (c.fact 30 (f := .glo "_law_classes") rfl)
  have g7 : mg "_law_fields" = some (.ref (He.ga K "_law_fields")) := He.glo_ok X G (c.fact 31 (f := .glo "_law_fields") rfl)
  have g8 : mg "_law_placed" = some (.ref (He.ga K "_law_placed")) := He.glo_ok X G (c.fact 32 (f := .glo "_law_placed") rfl)
  have g9 : mg "law" = some (.ref (He.ga K "law")) := He.glo_ok X G (c.fact 33 (f := .glo "law") rfl)
  have W0 := fun_of (st := sNum) G0
  have W1 := fun_of (st := sPool) G1
  have W2 := fun_of (st := sDraw) G2
  have W3 := fun_of (st := sPick) G3
  have W4 := fun_of (st := sOpen) G4
  have W5 := fun_of (st := sObj) G5
  have W6 := fun_of (st := sCls) G6
  have W7 := fun_of (st := sFld) G7
  have W8 := fun_of (st := sPlc) G8
  have W9 := fun_of (st := sLaw) G9
  have e := hfa.symm.trans g9
  cases e
  have dn : Dn mg := ⟨He.free_ok X G (c.fact 34 (f := .free "max") rfl), He.free_ok X G (c.fact 35 (f := .free "min") rfl), He.free_ok X G (c.fact 36 (f := .free "int") rfl), He.free_ok X G (c.fact 37 (f := .free "range") rfl), He.free_ok X G (c.fact 38 (f := .free "len") rfl)⟩
  have b0 := W0.binds (ps := ["cell", "salt", "sizes"]) fun _ _ _ _ _ _ us hl => match us, hl with | [_, _, _], _ => rfl
  have b1 := W1.binds (ps := ["cell", "salt", "many"]) fun _ _ _ _ _ _ us hl => match us, hl with | [_, _, _], _ => rfl
  have b2 := W2.binds (ps := ["pool", "many"]) fun _ _ _ _ _ _ us hl => match us, hl with | [_, _], _ => rfl
  have b3 := W3.binds (ps := ["pool", "some"]) fun _ _ _ _ _ _ us hl => match us, hl with | [_, _], _ => rfl
  have b4 := W4.binds (ps := ["script", "k", "many"]) fun _ _ _ _ _ _ us hl => match us, hl with | [_, _, _], _ => rfl
  have b5 := W5.binds (ps := ["thing"]) fun _ _ _ _ _ _ us hl => match us, hl with | [_], _ => rfl
  have b6 := W6.binds (ps := ["one"]) fun _ _ _ _ _ _ us hl => match us, hl with | [_], _ => rfl
  have b7 := W7.binds (ps := ["thing"]) fun _ _ _ _ _ _ us hl => match us, hl with | [_], _ => rfl
  have b8 := W8.binds (ps := ["thing"]) fun _ _ _ _ _ _ us hl => match us, hl with | [_], _ => rfl
  refine ⟨fe9, fun s v => ?_, fun base _ _ => ?_⟩
  · obtain ⟨oc, od, kV, doc, pm, an, cdv, ct, osl, rfl, lk, hcd⟩ := W9.ex
    exact .of_eq rfl
  · have cs : Cs P w K mg base := {
      c0 := xi0 (fun_of (st := i0) F0) (He.glo_ok X G (c.fact 0 (f := .glo "BadArgument") rfl)) (xc 0 (by decide)).1 (nf (0, "value") (by decide +kernel)).1 (nf (0, "value") (by decide +kernel)).2.1 (nf (0, "value") (by decide +kernel)).2.2
      n0 := (nf (0, "value") (by decide +kernel)).1
      c1 := xi1 (fun_of (st := i1) F1) (He.glo_ok X G (c.fact 1 (f := .glo "BadKind") rfl)) (xc 1 (by decide)).1 (nf (1, "value") (by decide +kernel)).1 (nf (1, "value") (by decide +kernel)).2.1 (nf (1, "value") (by decide +kernel)).2.2
      n1 := (nf (1, "value") (by decide +kernel)).1
      c2 := xi2 (fun_of (st := i2) F2) (He.glo_ok X G (c.fact 2 (f := .glo "BadMeasure") rfl)) (xc 2 (by decide)).1 (nf (2, "value") (by decide +kernel)).1 (nf (2, "value") (by decide +kernel)).2.1 (nf (2, "value") (by decide +kernel)).2.2
      n2 := (nf (2, "value") (by decide +kernel)).1
      c3 := xi3 (fun_of (st := i3) F3) (He.glo_ok X G (c.fact 3 (f := .glo "BadThing") rfl)) (xc 3 (by decide)).1 (nf (3, "value") (by decide +kernel)).1 (nf (3, "value") (by decide +kernel)).2.1 (nf (3, "value") (by decide +kernel)).2.2
      n3 := (nf (3, "value") (by decide +kernel)).1
      c4 := xi4 (fun_of (st := i4) F4) (He.glo_ok X G (c.fact 4 (f := .glo "BadWord") rfl)) (xc 4 (by decide)).1 (nf (4, "value") (by decide +kernel)).1 (nf (4, "value") (by decide +kernel)).2.1 (nf (4, "value") (by decide +kernel)).2.2
      n4 := (nf (4, "value") (by decide +kernel)).1
      c5 := xi5 (fun_of (st := i5) F5) (He.glo_ok X G (c.fact 5 (f := .glo "BadMarks") rfl)) (xc 5 (by decide)).1 (nf (5, "value") (by decide +kernel)).1 (nf (5, "value") (by decide +kernel)).2.1 (nf (5, "value") (by decide +kernel)).2.2
      n5 := (nf (5, "value") (by decide +kernel)).1
      c6 := xi6 (fun_of (st := i6) F6) (He.glo_ok X G (c.fact 6 (f := .glo "BadBase") rfl)) (xc 6 (by decide)).1 (nf (6, "value") (by decide +kernel)).1 (nf (6, "value") (by decide +kernel)).2.1 (nf (6, "value") (by decide +kernel)).2.2
      n6 := (nf (6, "value") (by decide +kernel)).1
      c7 := xi7 (fun_of (st := i7) F7) (He.glo_ok X G (c.fact 7 (f := .glo "BadPacker") rfl)) (xc 7 (by decide)).1 (nf (7, "value") (by decide +kernel)).1 (nf (7, "value") (by decide +kernel)).2.1 (nf (7, "value") (by decide +kernel)).2.2
      n7 := (nf (7, "value") (by decide +kernel)).1
      c8 := xi8 (fun_of (st := i8) F8) (He.glo_ok X G (c.fact 8 (f := .glo "BadDeed") rfl)) (xc 8 (by decide)).1 (nf (8, "value") (by decide +kernel)).1 (nf (8, "value") (by decide +kernel)).2.1 (nf (8, "value") (by decide +kernel)).2.2
      n8 := (nf (8, "value") (by decide +kernel)).1
      c9 := xi9 (fun_of (st := i9) F9) (He.glo_ok X G (c.fact 9 (f := .glo "BadNumber") rfl)) (xc 9 (by decide)).1 (nf (9, "value") (by decide +kernel)).1 (nf (9, "value") (by decide +kernel)).2.1 (nf (9, "value") (by decide +kernel)).2.2
      n9 := (nf (9, "value") (by decide +kernel)).1
      c10 := xi10 (fun_of (st := i10) F10) (He.glo_ok X G (c.fact 10 (f := .glo "BadWalk") rfl)) (xc 10 (by decide)).1 (nf (10, "value") (by decide +kernel)).1 (nf (10, "value") (by decide +kernel)).2.1 (nf (10, "value") (by decide +kernel)).2.2
      n10 := (nf (10, "value") (by decide +kernel)).1
      c11 := xi11 (fun_of (st := i11) F11) (He.glo_ok X G (c.fact 11 (f := .glo "BadPaper") rfl)) (xc 11 (by decide)).1 (nf (11, "value") (by decide +kernel)).1 (nf (11, "value") (by decide +kernel)).2.1 (nf (11, "value") (by decide +kernel)).2.2
      n11 := (nf (11, "value") (by decide +kernel)).1
      c12 := xi12 (fun_of (st := i12) F12) (He.glo_ok X G (c.fact 12 (f := .glo "BadChange") rfl)) (xc 12 (by decide)).1 (nf (12, "value") (by decide +kernel)).1 (nf (12, "value") (by decide +kernel)).2.1 (nf (12, "value") (by decide +kernel)).2.2
      n12 := (nf (12, "value") (by decide +kernel)).1
      c13 := xi13 (fun_of (st := i13) F13) (He.glo_ok X G (c.fact 13 (f := .glo "BadWish") rfl)) (xc 13 (by decide)).1 (nf (13, "value") (by decide +kernel)).1 (nf (13, "value") (by decide +kernel)).2.1 (nf (13, "value") (by decide +kernel)).2.2
      n13 := (nf (13, "value") (by decide +kernel)).1
      c14 := xi14 (fun_of (st := i14) F14) (He.glo_ok X G (c.fact 14 (f := .glo "BadEntry") rfl)) (xc 14 (by decide)).1 (nf (14, "value") (by decide +kernel)).1 (nf (14, "value") (by decide +kernel)).2.1 (nf (14, "value") (by decide +kernel)).2.2
      n14 := (nf (14, "value") (by decide +kernel)).1
      c15 := xi15 (fun_of (st := i15) F15) (He.glo_ok X G (c.fact 15 (f := .glo "BadRule") rfl)) (xc 15 (by decide)).1 (nf (15, "part") (by decide +kernel)).1 (nf (15, "part") (by decide +kernel)).2.1 (nf (15, "part") (by decide +kernel)).2.2
      n15 := (nf (15, "part") (by decide +kernel)).1
      c16 := xi16 (fun_of (st := i16) F16) (He.glo_ok X G (c.fact 16 (f := .glo "BadText") rfl)) (xc 16 (by decide)).1 (nf (16, "at") (by decide +kernel)).1 (nf (16, "at") (by decide +kernel)).2.1 (nf (16, "at") (by decide +kernel)).2.2
      n16 := (nf (16, "at") (by decide +kernel)).1
      c17 := xi17 (fun_of (st := i17) F17) (He.glo_ok X G (c.fact 17 (f := .glo "BadCommand") rfl)) (xc 17 (by decide)).1 (nf (17, "line") (by decide +kernel)).1 (nf (17, "line") (by decide +kernel)).2.1 (nf (17, "line") (by decide +kernel)).2.2
      n17 := (nf (17, "line") (by decide +kernel)).1
      c18 := xi18 (fun_of (st := i18) F18) (He.glo_ok X G (c.fact 18 (f := .glo "Ringed") rfl)) (xc 18 (by decide)).1 (nf (18, "things") (by decide +kernel)).1 (nf (18, "things") (by decide +kernel)).2.1 (nf (18, "things") (by decide +kernel)).2.2
      n18 := (nf (18, "things") (by decide +kernel)).1
      c19 := xi19 (fun_of (st := i19) F19) (He.glo_ok X G (c.fact 19 (f := .glo "Lost") rfl)) (xc 19 (by decide)).1 (nf (19, "word") (by decide +kernel)).1 (nf (19, "word") (by decide +kernel)).2.1 (nf (19, "word") (by decide +kernel)).2.2
      n19 := (nf (19, "word") (by decide +kernel)).1
      c20 := xi20 (fun_of (st := i20) F20) (He.glo_ok X G (c.fact 20 (f := .glo "TooMany") rfl)) (xc 20 (by decide)).1 (nf (20, "number") (by decide +kernel)).1 (nf (20, "number") (by decide +kernel)).2.1 (nf (20, "number") (by decide +kernel)).2.2
      n20 := (nf (20, "number") (by decide +kernel)).1
      c21 := xi21 (fun_of (st := i21) F21) (He.glo_ok X G (c.fact 21 (f := .glo "Leaned") rfl)) (xc 21 (by decide)).1 (nf (21, "word") (by decide +kernel)).1 (nf (21, "word") (by decide +kernel)).2.1 (nf (21, "word") (by decide +kernel)).2.2
      n21 := (nf (21, "word") (by decide +kernel)).1
      c22 := (xc 22 (by decide)).1
      g22 := He.glo_ok X G (c.fact 22 (f := .glo "NothingLeft") rfl)
      x22 := c4
      kcl := kclB_ok c5
      kit := kt
      xcs := fun i hi => (xc i hi).1
      kitP := fun i hi => (xc i hi).2
      gP := He.glo_ok X G (c.fact 23 (f := .glo "PackError") rfl)
      isi := He.free_ok X G (c.fact 39 (f := .free "isinstance") rfl)
      enm := He.free_ok X G (c.fact 40 (f := .free "enumerate") rfl) }
    exact ok_law W9 ⟨dn, cs, ⟨_, _, g4, W4.kp, b4, ok_open W4 W1 g1 b1 W0 g0 b0 dn⟩, ⟨_, _, g3, W3.kp, b3, ok_pick W3 W2 g2 b2 dn⟩, ⟨_, _, g7, W7.kp, b7, ok_fld W7 cs⟩, ⟨_, _, g8, W8.kp, b8, ok_plc W8 cs⟩,
      ⟨_, _, g5, W5.kp, b5, ok_obj W5 cs⟩, ⟨_, _, g6, W6.kp, b6, ok_cls W6 cs⟩⟩
end K39
open PySem PySem.W PySem.Calls PyProof.Rows
theorem PySem.Challenge.cw_packedbases_k39_errors_holds : PySem.Challenge.rw_packedbases_k39_errors.Holds := by
  w_on; o_law
  refine HandSHeadRun.head_any (r := OpenLaw.row PySem.Challenge.rw_packedbases_k39_errors) (q := view (OpenLaw.row PySem.Challenge.rw_packedbases_k39_errors).prog [35]) (H := K39.hk) (ob := K39.ob) (M := 8000) (loose := K39.loose)
    (d := HandSHeadRun.topDef (OpenLaw.row PySem.Challenge.rw_packedbases_k39_errors).prog 35) (kwd := []) K39.ob_eq
    (by kernel_rfl) (fun s => by kernel_rfl) K39.run (by kernel_rfl) (by kernel_rfl) (by kernel_rfl) (by rfl) (by first | assumption | decide +kernel) (by decide +kernel) ⟨rfl, rfl, rfl, rfl, rfl, by decide +kernel⟩ ?hw ?hc
  case hw => w_witness2
  case hc =>
    refine L2.walk_ofE (l := PySem.Challenge.rw_packedbases_k39_errors) (n := 63) (k := 4) (x := "script") (CX := L2.CX0) rfl (by decide) (by kernel_rfl) ⟨rfl, by decide, by decide⟩ ?F (fun _ _ _ _ z => z)
    intro w mg fa h Y G hmg0
    obtain ⟨K, KX, cl, c⟩ := Y
    have hmg : mg ("law" : PySem.Str) = some (.ref fa) := by
      have e : (HandSHeadRun.topDef (OpenLaw.row PySem.Challenge.rw_packedbases_k39_errors).prog 35).name = ("law" : PySem.Str) := by kernel_rfl
      rw [← e]
      exact hmg0
    obtain ⟨fd, hb, hF⟩ := K39.facts (P := (PySem.Challenge.rw_packedbases_k39_errors).prog) (w := w) KX G hmg cl c
    exact ⟨K, fd, K39.spLaw K, KX, hb, fun H a ns hl _ hS => ⟨a, ns, rfl, hS, hl, fun _ => rfl⟩, hF⟩
