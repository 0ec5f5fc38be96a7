import PyProof.Rows.All
import Wide.All
import OpenK.AllK
import Wide.FinOn
import KE.KExcInit
import KE.KIsAll
import HandS.ForMost
import HandS.ExcInit
import HandS.ExcValue
import HandS.ExcField
import HandS.ExcIs
import HandS.IsInst
import HandS.Defaults
import HandS.MakeKwOnly
import HandS.More
import HandS.HeadHook1
import HandS.HeadHook2
import HandS.DeepEq
import HandS.MakeKw
import HandS.Exc
import HandS.ExcOwn
import HandS.WordsExc
import HandS.HeadEnd
import HandS.Ends
import HandS.SortKw
import HandS.SortRule
import KE.KSortKey
import HandS.TupSets
import KE.KeyNested
import HandS.SetFor
import PyProof.Rows.SetFrom
import HandS.SetKeys
import PyProof.SetRoads
import HandS.RaiseMore
import PyProof.ReprRoads
import HandS.Deep
import HandS.ForSpec
import HandS.DictComp
import PyProof.StrLawsRepr
import HandS.TupAny
import PySem.Challenge.RW_packedbases_k02_no_rules
import HandS.MethStar
import HandS.Wide
import HandS.Head0
import HandS.Head1
import HandS.Head2
import HandS.HeadHook3
set_option Elab.async false
set_option linter.all false
set_option maxRecDepth 100000
set_option maxHeartbeats 4000000
/-! Own exceptions under Exception with one field, as values: made by position and by name, their field read, isinstance. -/
namespace EX
open PySem PySem.Spec PyProof.Rows L2
/-- the mro behind the own classes -/
abbrev eT : List Value := [.type "Exception", .type "BaseException", .type "object"]
def xcB (K : PySem.W.Frag) (C : Addr) : Bool :=
  PySem.W.excInitIn K C eT "Exception.__new__" && (PySem.W.excOver K C eT && (He.eqO (PySem.W.findIn K (.ref C) "__setattr__") (some (some (.builtin "object.__setattr__"))) &&
    (xfB K C && (He.eqO (PySem.W.findIn K (.ref C) "__class__") (some (some (.builtin "object.__class__"))) && (decide (PySem.W.mroIn K C (.type "object") = some true) && PySem.W.keepIn K (.ref C))))))
structure XC (K : PySem.W.Frag) (C : Addr) : Prop where
  inn : PySem.W.excInitIn K C eT "Exception.__new__" = true
  ovr : PySem.W.excOver K C eT = true
  sa : PySem.W.findIn K (.ref C) "__setattr__" = some (some (.builtin "object.__setattr__"))
  xf : XfC K C
  cl : PySem.W.findIn K (.ref C) "__class__" = some (some (.builtin "object.__class__"))
  mo : PySem.W.mroIn K C (.type "object") = some true
  kC : PySem.W.keepIn K (.ref C) = true
theorem xcB_ok {K : PySem.W.Frag} {C : Addr} (h : xcB K C = true) : XC K C := by
  obtain ⟨h1, h⟩ := He.ba h
  obtain ⟨h2, h⟩ := He.ba h
  obtain ⟨h3, h⟩ := He.ba h
  obtain ⟨h4, h⟩ := He.ba h
  obtain ⟨h5, h⟩ := He.ba h
  obtain ⟨h6, h7⟩ := He.ba h
  exact ⟨h1, h2, He.eqO_ok h3, xfB_ok h4, He.eqO_ok h5, of_decide_eq_true h6, h7⟩
/-- a name that the class does not bear -/
structure NoF (K : PySem.W.Frag) (C : Addr) (f : Str) : Prop where
  no : PySem.W.findIn K (.ref C) f = some none
  tk : PySem.W.takerIn K C f = some none
def noB (K : PySem.W.Frag) (C : Addr) (f : Str) : Bool := He.eqO (PySem.W.findIn K (.ref C) f) (some none) && decide (PySem.W.takerIn K C f = some none)
theorem noB_ok {K : PySem.W.Frag} {C : Addr} {f : Str} (h : noB K C f = true) : NoF K C f := by
  obtain ⟨h1, h2⟩ := He.ba h
  exact ⟨He.eqO_ok h1, of_decide_eq_true h2⟩
section
variable {X : Cx} {pins : List (Addr × Obj)} {σ : L2.St} {H : Hp} {s : Shared} {a C dx : Addr} {f : Str} {y : V} {u : Value} {fs : List (Str × V)} {E : Value → Shared → Prop} {A : Around}
/-- what is tracked behind the first store into an exception: its dict is new -/
theorem ost_inv {hp h' : Heap} {g : Array GenState} {d : Drawn} {t tk : Nat} {os : OsState} {t1 : Addr} (I : Inv X pins σ H ⟨hp, g, d, t, os⟩) (e : H a = some (exo a C none)) (ry : L2.RelV y u)
    (k : ∀ b o, b ≠ a → hp.get? b = some o → h'.get? b = some o) (dn : hp.objs.size ≤ dx) (dne : dx ≠ a)
    (hx : h'.get? a = some { cls := .ref C, dict := some dx, data := .fields #[.ref t1, .none, .none, .none, .bool false, .none] })
    (hn : h'.Ns1 dx (fun z => if z = f then some u else none)) :
    Inv X pins σ (upd (upd H dx (exd dx [(f, y)])) a (exo a C (some dx))) ⟨h', g, d, tk, os⟩ := by
  have fresh : H dx = none := I.hok.fresh dn
  have off : ∀ {b : Addr}, H b = none → b ≠ a := fun n z => by rw [z, e] at n; cases n
  have offd : ∀ {b : Addr} {o : Obj}, hp.get? b = some o → b ≠ dx := fun q z => by
    have w := Heap.lt_size q
    rw [z] at w
    exact absurd dn (Nat.not_le.mpr w)
  have keepS : ∀ {b : Addr} {o : HO}, o ≠ exo a C none → H b = some o → (upd (upd H dx (exd dx [(f, y)])) a (exo a C (some dx))) b = some o := fun {b o} ne q => by
    rw [upd_ne (fun z => ne (by rw [z, e] at q; exact (Option.some.inj q).symm)), upd_ne (ne_of_none q fresh)]
    exact q
  refine I.un (t' := tk) ⟨fun b o q n _ _ => k b o (off n) q, fun b o q n _ _ => ⟨o.slots, k b o (off n) q⟩, fun b o q n _ => ?_, fun b o q _ => ?_, fun b xs q => keepS (Ne.symm exo_tup) q, fun b o v q => keepS (Ne.symm exo_frz) q, fun b ps q => ⟨#[], ?_⟩⟩ fun b o q => ?_
  · rw [upd_ne (off n), upd_ne (offd q)]
    exact n
  · by_cases hb : b = a
    · exact ⟨_, by rw [hb]; exact hx⟩
    · exact ⟨o, k b o hb q⟩
  · rw [keepS (Ne.symm exo_tbl) q, Array.append_empty]
  · by_cases hb : b = a
    · subst hb
      rw [upd_same] at q
      cases q
      exact exo_ok hx
    · rw [upd_ne hb] at q
      by_cases hd : b = dx
      · subst hd
        rw [upd_same] at q
        cases q
        exact exd_ok hn (relO_put (fs := []) ry fun _ => True.intro)
      · rw [upd_ne hd] at q
        refine (I.hok b o q).stay (fun c v hc z => k c v ?_ z) (fun c hc => keepS (Ne.symm exo_own) hc) fun c xs hc => keepS (Ne.symm exo_tup) hc
        rcases hc with rfl | hc
        · exact hb
        · exact at_ne e hc exo_own
theorem ost0 {Q : Unit → Shared → Prop} (T : XC X.K C) (N : NoF X.K C f) (I : Inv X pins σ H s) (e : H a = some (exo a C none)) (ry : L2.RelV y u)
    (h : ∀ dx s', H dx = none → dx ≠ a → Inv X pins σ (upd (upd H dx (exd dx [(f, y)])) a (exo a C (some dx))) s' → Q () s') : wpAny (model X.prog X.w) A (setAttr (.ref a) f u) Q E s := by
  obtain ⟨t1, ho⟩ := exo_at I.hok e
  obtain ⟨hp, g, d, t, os⟩ := s
  obtain ⟨cd, hcd, hh⟩ := PySem.W.any_some T.xf.hdC
  have J : PySem.W.InstAt hp a { cls := .ref C, dict := none, data := .fields #[.ref t1, .none, .none, .none, .bool false, .none] } C none := ⟨ho, rfl, rfl, trivial⟩
  have as : a < hp.objs.size := Heap.lt_size ho
  refine PySem.W.set_plain I.kIn J T.sa ?_
  refine PySem.W.osa_openX (s := ⟨hp, g, d, t + 1, os⟩) PySem.F.store_Exception I.kIn J T.ovr N.tk (fun b => ?_)
  refine wpAny_bind (wpAny_pure (wpAny_bind (PySem.W.instanceDict_exc (s := ⟨hp, g, d, t + 1, os⟩) ho (PySem.W.looks_clsIn I.kIn hcd) hh ?_)))
  have hx1 : (hp.push (PySem.W.dictOf [] 0)).get? a = some { cls := .ref C, dict := none, data := .fields #[.ref t1, .none, .none, .none, .bool false, .none] } := Heap.get?_push_of_some _ ho
  refine PySem.HandSPX.store_in_new (hp := (hp.push (PySem.W.dictOf [] 0)).update a fun o => { o with dict := some hp.objs.size }) ⟨_, #[], _, (Heap.get?_update_ne _ _ _ _ (Nat.ne_of_gt as)).trans (Heap.get?_push_at rfl rfl), rfl, fun q hq => absurd hq (by simp), fun _ => rfl⟩ fun h' tk' hn sb => ?_
  refine h hp.objs.size _ (I.hok.fresh (Nat.le_refl _)) (Nat.ne_of_gt as) (ost_inv (t1 := t1) I e ry (fun b o hb q => ?_) (Nat.le_refl _) (Nat.ne_of_gt as) ?_ hn)
  · exact (sb.2 b (Nat.ne_of_lt (Heap.lt_size q))).trans ((Heap.get?_update_ne _ _ _ _ hb).trans (Heap.get?_push_of_some _ q))
  · exact (sb.2 a (Nat.ne_of_lt as)).trans (Heap.get?_update_self _ hx1 rfl)
/-- self.f = e, e a first field: the reading -/
def tFst (K : PySem.W.Frag) (f : Str) (to te : TE) : TS := fun D σ H => te σ H fun y H1 => to σ H1 fun x H2 => ∃ a C : Addr, x = .ref a ∧ XC K C ∧ NoF K C f ∧ H2 a = some (exo a C none) ∧
  ∀ dx, H2 dx = none → dx ≠ a → D.nx σ (upd (upd H2 dx (exd dx [(f, y)])) a (exo a C (some dx)))
theorem ps_fst {o e : Expr} {to te : TE} {p' pos : Pos} (ho : PE X o to) (he : PE X e te) (hs : swapsWith e (some (.Attribute o f p')) pos.line X.env = pure false := by rfl) : PS X (.Assign [.Attribute o f p'] e pos) (tFst X.K f to te) := by
  refine ⟨fun pins s σ H D I h => ?_⟩
  refine plainObj_wpAny_Assign_Attribute (thn (he.run pins s σ H _ I h) fun v s1 ⟨y, H1, I1, r1, q1⟩ => thn (ho.run pins s1 σ H1 _ I1 q1) fun u s2 ⟨x, H2, I2, r2, a, C, ex, T, N, ea, q⟩ => ?_) hs
  subst ex
  obtain rfl : u = Value.ref a := r2
  exact ost0 T N I2 ea r1 fun dx s' n ne J => ⟨σ, _, J, q dx n ne⟩
end
end EX

set_option Elab.async false
set_option linter.all false
set_option maxRecDepth 100000
set_option maxHeartbeats 4000000
namespace PySem
namespace EXL
open PySem.HandSPX (excO)
open PySem.W (Looks)
section
variable {M : Model} {A : Around} {E : Value → Shared → Prop} {h : Heap} {g : Array GenState} {d : Drawn} {t : Nat} {os : OsState}
variable {nm q : Str} {C N : Addr} {bs bm bmB : List Value} {hdct : Bool} {sn : List Str} {sub : List Value} {ab : Bool} {col : Option Bool} {dd : Option Addr} {k0 k1 k2 k3 k5 : Option Value} {B newId initId : String}
/-- type.__call__'s look at the maker, keywords or none -/
theorem look_new (F : ExcBaseFacts B newId initId bmB) (hT : ∀ Y : String, bm.contains (.type Y) = bmB.contains (.type Y)) {rest : List Value} {kw : List (Str × Value)} {Q : Unit → Shared → Prop}
    (hC : h.get? C = some (excClassObj nm q C N bs bm hdct sn sub ab col dd k0 k1 k2 k3 k5 newId)) (hq : Q () ⟨h, g, d, t, os⟩) : wpAny M A (checkBuiltinCall newId ⟨.ref C :: rest, kw⟩) Q E ⟨h, g, d, t, os⟩ := by
  have has : (Value.ref C :: bm).contains (.type B) = true := by rw [List.contains_cons, hT, F.hasB, Bool.or_true]
  have ns := F.noStar
  simp only [checkBuiltinCall, F.newKind, F.newSplit, F.newRow]
  repeat (first | refine wpAny_loadPart_at hC ?_ | (refine wpAny_isSubtype_exc hC ?_; rw [has]) | refine wpAny_staticBase_exc hC ?_ | refine wpAny_madeBy_exc hC ?_ | simp only [bne_self_eq_false, Bool.false_eq_true, if_false] | wp_step)
  exact hq
end
section
variable {prog : Program} {w : World} {A : Around} {E : Value → Shared → Prop} {R : Result → Shared → Prop} {h : Heap} {g : Array GenState} {d : Drawn} {t : Nat} {os : OsState}
variable {nm q : Str} {C N : Addr} {bs bm bmB : List Value} {hdct : Bool} {sn : List Str} {sub : List Value} {ab : Bool} {col : Option Bool} {dd : Option Addr} {k0 k1 k2 k3 k5 : Option Value} {B newId initId : String}
/-- the maker lays the arguments' tuple and the exception; keywords are passed over -/
theorem run_new (F : ExcBaseFacts B newId initId bmB) (hT : ∀ Y : String, bm.contains (.type Y) = bmB.contains (.type Y)) {rest : List Value} {kw : List (Str × Value)}
    (hC : h.get? C = some (excClassObj nm q C N bs bm hdct sn sub ab col dd k0 k1 k2 k3 k5 newId)) (hz : rest.length ≤ sizeLine)
    (hq : R (.ok (.ret (.ref (h.objs.size + 1)))) ⟨(h.push (PySem.W.kdv_tup rest)).push (excO C h.objs.size), g, d, t, os⟩) :
    codeAny (model prog w) A (.builtin newId ⟨.ref C :: rest, kw⟩) R ⟨h, g, d, t, os⟩ := by
  have ends := F.ends
  have c1 : (Value.ref C :: bm).contains (.type B) = true := by rw [List.contains_cons, hT, F.hasB, Bool.or_true]
  have c2 : (Value.ref C :: bm).contains (.type "AttributeError") = false := by rw [List.contains_cons, hT, F.noAttr]; rfl
  have c3 : (Value.ref C :: bm).contains (.type "NameError") = false := by rw [List.contains_cons, hT, F.noName]; rfl
  refine codeAny_builtinAt F.entry ?_
  unfold Builtin.«BaseException.__new__»
  refine wpAt_bind ?_
  show wpAt _ _ _ (stack >>= _) _ _ _
  refine wpAt_bind (wpAt_stack fun p below => wpAt_of_wpAny ?_)
  wp_walk
  refine wpAt_of_wpAny ?_
  rw [F.owner]
  repeat (first | with_reducible refine wpAny_madeHere_exc F.canon hC ?_ | with_reducible refine wpAny_loadPart_at hC ?_ | (with_reducible refine wpAny_isSubtype_exc hC ?_; first | rw [c1] | rw [c2] | rw [c3]) | wp_step)
  show R _ _
  rw [Heap.size_push]
  exact hq
/-- the class called: the exception is made, then its own __init__ runs -/
theorem run_type (F : ExcBaseFacts B newId initId bmB) (hT : ∀ Y : String, bm.contains (.type Y) = bmB.contains (.type Y)) {rest : List Value} {kw : List (Str × Value)} {fI : Addr} {Q : Fin → Shared → Prop}
    (hC : h.get? C = some (excClassObj nm q C N bs bm hdct sn sub ab col dd k0 k1 k2 k3 k5 newId)) (hi : Looks (model prog w) h (typeLookup (.ref C) "__init__") (some (.ref fI)))
    (hb : ∀ self, Looks (model prog w) h (bindSpecial (.ref fI) self) (.ref fI, [self])) (hz : rest.length ≤ sizeLine)
    (hq : codeAny (model prog w) A (.call (.ref fI) ⟨.ref (h.objs.size + 1) :: rest, kw⟩) (fun r s' => match r with | .ok (.ret v) => v = .none ∧ Q (.done (.ret (.ref (h.objs.size + 1)))) s' | .ok _ => False | .error e => E e s')
      ⟨(h.push (PySem.W.kdv_tup rest)).push (excO C h.objs.size), g, d, t, os⟩) :
    wpAny (model prog w) A (Builtin.«type.__call__» ⟨.ref C :: rest, kw⟩) Q E ⟨h, g, d, t, os⟩ := by
  repeat (first | with_reducible refine wpAny_loadPart_at hC ?_ | with_reducible refine wpAny_madeBy_exc hC ?_ | wp_step)
  refine codeAny_call_builtin_code (Code.quiet_builtin _ F.quiet) (look_new F hT hC (run_new F hT hC hz ?_))
  show wpAny _ _ _ _ _ _
  have k : ∀ b o, h.get? b = some o → ((h.push (PySem.W.kdv_tup rest)).push (excO C h.objs.size)).get? b = some o := fun b o e => Heap.get?_push_of_some _ (Heap.get?_push_of_some _ e)
  have hC1 := k _ _ hC
  have he : ((h.push (PySem.W.kdv_tup rest)).push (excO C h.objs.size)).get? (h.objs.size + 1) = some (excO C h.objs.size) := by heap_get
  have hcC : (Value.ref C :: bm).contains (.ref C) = true := by simp
  have i1 := hi.keeps k
  have b1 := (hb (.ref (h.objs.size + 1))).keeps k
  unfold isInstance
  repeat (first | with_reducible refine wpAny_loadPart_at he ?_ | (with_reducible refine wpAny_isSubtype_exc hC1 ?_; rw [hcC]) | wp_step)
  show wpAny _ _ (typeLookup (.ref C) _) _ _ _
  refine i1.at (wpAny_holding (wpAny_bind (b1.at (wpAny_bind (wpAny_call (codeAny_mono hq fun r s' z => ?_))))))
  rcases r with e | (v | _ | _ | _) <;> first | exact z | exact z.elim | skip
  obtain ⟨rfl, z⟩ := z
  first
    | exact wpAny_pure (wpAny_pure z)
    | (wp_walk; exact z)
theorem call_type {M : Model} {rest : List Value} {kw : List (Str × Value)} {Q : Unit → Shared → Prop} (hC : h.get? C = some (excClassObj nm q C N bs bm hdct sn sub ab col dd k0 k1 k2 k3 k5 newId))
    (hq : Q () ⟨h, g, d, t, os⟩) : wpAny M A (checkBuiltinCall "type.__call__" ⟨.ref C :: rest, kw⟩) Q E ⟨h, g, d, t, os⟩ := by
  have f3 := tc_sub
  have hT : (⟨h, g, d, t, os⟩ : Shared).TypeIs (.ref C) "type" := ⟨_, hC, rfl⟩
  simp only [checkBuiltinCall, tc_kind, tc_split]
  repeat (any_goals (first | assumption | with_reducible refine wpAny_loadPart_at hC ?_ | with_reducible refine wpAny_onRaise ?_ | with_reducible refine wpAny_map ?_ | wp_step))
theorem call_cls (F : ExcBaseFacts B newId initId bmB) (hT : ∀ Y : String, bm.contains (.type Y) = bmB.contains (.type Y)) {rest : List Value} {kw : List (Str × Value)} {fI : Addr}
    (hC : h.get? C = some (excClassObj nm q C N bs bm hdct sn sub ab col dd k0 k1 k2 k3 k5 newId)) (hi : Looks (model prog w) h (typeLookup (.ref C) "__init__") (some (.ref fI)))
    (hb : ∀ self, Looks (model prog w) h (bindSpecial (.ref fI) self) (.ref fI, [self])) (hz : rest.length ≤ sizeLine)
    (hq : codeAny (model prog w) (A.under (.builtin "type.__call__" ⟨.ref C :: rest, kw⟩)) (.call (.ref fI) ⟨.ref (h.objs.size + 1) :: rest, kw⟩) (PySem.W.InitBack (h.objs.size + 1) R)
      ⟨(h.push (PySem.W.kdv_tup rest)).push (excO C h.objs.size), g, d, t, os⟩) :
    codeAny (model prog w) A (.call (.ref C) ⟨rest, kw⟩) R ⟨h, g, d, t, os⟩ := by
  have f1 := tc_lookup
  have f2 := tc_bind (.ref C)
  have hTy : (⟨h, g, d, t, os⟩ : Shared).TypeIs (.ref C) "type" := ⟨_, hC, rfl⟩
  refine codeAny_of_tree ?_
  show wpAny _ _ (callAny (.ref C) _) _ _ _
  repeat (any_goals (first | assumption | with_reducible refine wpAny_loadPart_at hC ?_ | wp_step))
  refine ⟨rfl, codeAny_call_builtin_at (Code.quiet_builtin _ (by decide +kernel)) entry_typeCall (call_type hC (run_type F hT hC hi hb hz (codeAny_mono hq fun r s' z => ?_)))⟩
  rcases r with e | (v | _ | _ | _) <;> exact z
end
end EXL
end PySem

set_option Elab.async false
set_option linter.all false
set_option maxRecDepth 100000
set_option maxHeartbeats 4000000
namespace EX
open PySem PySem.Spec PyProof.Rows L2
/-- an exception object of the class at C stands at a, with the one field f = y (none: no field, no dict) -/
inductive XAt (H : Hp) (a C : Addr) : Option (Str × V) → Prop where
  | bare (h : H a = some (ExO (.ref C) a)) : XAt H a C none
  | fld {dx : Addr} {f : Str} {y : V} (h : H a = some (exo a C (some dx))) (hd : H dx = some (exd dx [(f, y)])) : XAt H a C (some (f, y))
theorem XAt.same {H H' : Hp} {a C : Addr} {o : Option (Str × V)} (x : XAt H a C o) (s : Same H H') : XAt H' a C o := by
  cases x with
  | bare h => exact .bare (s _ _ h)
  | fld h hd => exact .fld (s _ _ h) (s _ _ hd)
section
variable {X : Cx} {CX : CXT} {k : Nat} {f C : Addr} {fd : FuncData} {ps ks : List Str} {sp : Sp} {E : XK} {x fn : Str} {p pos : Pos} {e : Expr} {es : List Expr} {kws : List Keyword} {t tk : TA}
/-- the def __init__(self, f): self.f = f -/
def spIn (C : Addr) (fn : Str) : Sp := fun vs H Q _ => ∃ (a : Addr) (y : V), vs = [.ref a, y] ∧ H a = some (exo a C none) ∧ ∀ dx, H dx = none → dx ≠ a → Q .non (upd (upd H dx (exd dx [(fn, y)])) a (exo a C (some dx)))
/-- what is known of the class: its facts and its __init__ -/
structure XI (P : Program) (w : World) (K : PySem.W.Frag) (mg : Str → Option Value) (base : Heap) (k : Nat) (x fn : Str) (C f : Addr) : Prop where
  gl : mg x = some (.ref C)
  cls : XC K C
  ini : PySem.W.findIn K (.ref C) "__init__" = some (some (.ref f))
  typ : PySem.W.typeIn K (.ref f) = some (.type "function")
  run : ∃ fd, FnOk P w K mg base CX0 k f fd ["self", fn] (spIn C fn) ∧ (∀ (s : Shared) (u v : Value), BindsTo s fd ⟨[u, v], []⟩ [("self", u), (fn, v)]) ∧ (∀ (s : Shared) (u v : Value), BindsTo s fd ⟨[u], [(fn, v)]⟩ [("self", u), (fn, v)])
theorem run_mk {pins : List (Addr × Obj)} {σ : L2.St} {H : Hp} {s : Shared} {Q : VK} {us : List Value} {kw : List (Str × Value)} {y : V} {v : Value} (T : XI X.prog X.w X.K X.mg X.base k x fn C f) (hr : Room (k + 1) X.A) (I : Inv X pins σ H s) (ry : L2.RelV y v)
    (hk : (us = [v] ∧ kw = []) ∨ (us = [] ∧ kw = [(fn, v)])) (h : ∀ a dx, H a = none → H dx = none → dx ≠ a → Q (.ref a) (upd (upd H dx (exd dx [(fn, y)])) a (exo a C (some dx)))) :
    wpAny (model X.prog X.w) X.A (call (.ref C) us kw) (EP X pins σ Q) X.xe s := by
  obtain ⟨fd, F1, b1, b2⟩ := T.run
  obtain ⟨nm, N, qn, bs, bm, hdct, sn, sub, ab, col, dd, k0, k1, k2, k3, k5, hC, hT⟩ := PySem.W.excInit_of I.kIn T.cls.inn
  obtain ⟨hp, g, dr, tk, os⟩ := s
  have hsz : hp.objs.size ≤ hp.objs.size + 1 := Nat.le_succ _
  have hn : H (hp.objs.size + 1) = none := I.hok.fresh hsz
  have kk : ∀ b o, hp.get? b = some o → ((hp.push (PySem.W.kdv_tup us)).push (PySem.HandSPX.excO C hp.objs.size)).get? b = some o := fun b o e => Heap.get?_push_of_some _ (Heap.get?_push_of_some _ e)
  have hget : ((hp.push (PySem.W.kdv_tup us)).push (PySem.HandSPX.excO C hp.objs.size)).get? (hp.objs.size + 1) = some (PySem.HandSPX.excO C hp.objs.size) := by heap_get
  have I2 : Inv X pins σ (upd H (hp.objs.size + 1) (exo (hp.objs.size + 1) C none)) ⟨(hp.push (PySem.W.kdv_tup us)).push (PySem.HandSPX.excO C hp.objs.size), g, dr, tk, os⟩ :=
    I.laid (t' := tk) (a := hp.objs.size + 1) (o := exo (hp.objs.size + 1) C none) (h' := (hp.push (PySem.W.kdv_tup us)).push (PySem.HandSPX.excO C hp.objs.size)) kk hsz (exo_ok hget)
  have hz : us.length ≤ sizeLine := by
    rw [sizeLine_eq]
    rcases hk with ⟨rfl, _⟩ | ⟨rfl, _⟩
    · exact (by decide : 1 ≤ 16777216)
    · exact Nat.zero_le _
  have bd : ∀ s', BindsTo s' fd ⟨Value.ref (hp.objs.size + 1) :: us, kw⟩ ((["self", fn] : List Str).zip [Value.ref (hp.objs.size + 1), v]) := fun s' => by
    rcases hk with ⟨rfl, rfl⟩ | ⟨rfl, rfl⟩
    · exact b1 s' _ _
    · exact b2 s' _ _
  have key : ∀ (a dx : Addr), H a = none → upd (upd (upd H a (exo a C none)) dx (exd dx [(fn, y)])) a (exo a C (some dx)) = upd (upd H dx (exd dx [(fn, y)])) a (exo a C (some dx)) := fun a dx _ => by
    funext b
    by_cases hb : b = a
    · rw [hb, upd_same, upd_same]
    · rw [upd_ne hb, upd_ne hb]
      by_cases hd : b = dx
      · rw [hd, upd_same, upd_same]
      · rw [upd_ne hd, upd_ne hd, upd_ne hb]
  have hsp : spIn C fn [V.ref (hp.objs.size + 1), y] (upd H (hp.objs.size + 1) (exo (hp.objs.size + 1) C none)) (fun u H2 => u = .non ∧ Q (.ref (hp.objs.size + 1)) H2) E0 :=
    ⟨_, _, rfl, upd_same, fun dx n ne => ⟨rfl, by
      rw [key _ _ hn]
      exact h _ _ hn (by rw [upd_ne ne] at n; exact n) ne⟩⟩
  refine wpAny_call (PySem.EXL.call_cls PySem.F.excBase_Exception hT hC (PySem.W.looks_findIn I.kIn T.ini) (fun self => PySem.W.bind_fn I.kIn self T.typ) hz
    (codeAny_mono (F1.run _ X.stack _ _ ⟨Value.ref (hp.objs.size + 1) :: us, kw⟩ [Value.ref (hp.objs.size + 1), v] [V.ref (hp.objs.size + 1), y] _ E0 (hr.make C us kw) (I2.env0.make C us kw) (bd _) (.cons rfl (.cons ry .nil)) hsp) fun r s' hq' => ?_))
  cases r with
  | error er => exact hq'.elim
  | ok fl =>
    cases fl with
    | ret u =>
      obtain ⟨u', H', I3, rv, ev, q3⟩ := I2.after hq'
      subst ev
      exact ⟨rv, ⟨V.ref (hp.objs.size + 1), H', I3, rfl, q3⟩⟩
    | next => exact False.elim hq'
    | brk => exact False.elim hq'
    | cont => exact False.elim hq'

/-- C(e) and C(f=e), as a value -/
def tMkX (C : Addr) (fn : Str) (ta : TA) : TE := fun σ H Q => ta σ H fun vs H1 => ∃ y, vs = [y] ∧ ∀ a dx, H1 a = none → H1 dx = none → dx ≠ a → Q (.ref a) (upd (upd H1 dx (exd dx [(fn, y)])) a (exo a C (some dx)))
theorem pe_mkP (T : XI X.prog X.w X.K X.mg X.base k x fn C f) (hr : Room (k + 1) X.A) (hg : Gl X x) (ha : PA X [e] t) (hdb : (x == ("__debug__" : Str)) = false := by decide) (he : starEach [e] X.env = (false, eval e X.env) :: starEach [] X.env := by rfl)
    (hpl : (backTo pos (starEach [] X.env)).any (·.1) = false := by rfl) : PE X (.Call (.Name x p) [e] [] pos) (tMkX C fn t) := by
  refine ⟨fun pins s σ H Q I h => wpAny_Call_Name_kw (ld_glob I hg T.gl ?_ hdb)⟩
  refine PySem.W.callWith_K (h₀ := X.base) I.ok.mod.kin T.cls.kC (thn (ha.run pos pins s σ H _ I h) fun us s1 ⟨vs, H1, I1, r1, y, ev, q1⟩ => ⟨I1.kIn, ?_⟩) he hpl
  subst ev
  cases r1 with
  | cons ry rn =>
    cases rn
    exact run_mk T hr I1 ry (.inl ⟨rfl, rfl⟩) q1
theorem pe_mkK (T : XI X.prog X.w X.K X.mg X.base k x fn C f) (hr : Room (k + 1) X.A) (hg : Gl X x) (hkw : PK X kws tk) (hall : (backToKw pos (keywordEach kws X.env)).all (·.1.isSome) = true := by rfl)
    (hks : (backToKw pos (keywordEach kws X.env)).filterMap (·.1) = [fn] := by rfl) (hdb : (x == ("__debug__" : Str)) = false := by decide)
    (hpl : ((backTo pos (starEach [] X.env)).any (·.1) || (backToKw pos (keywordEach kws X.env)).any (·.1.isNone)) = false := by rfl) : PE X (.Call (.Name x p) [] kws pos) (tMkX C fn tk) := by
  refine ⟨fun pins s σ H Q I h => wpAny_Call_Name_kw (ld_glob I hg T.gl ?_ hdb)⟩
  refine PySem.W.callWith_KW0 (h₀ := X.base) I.ok.mod.kin T.cls.kC hall (thn (hkw.run pos pins s σ H _ I h) fun ws s2 ⟨zs, H2, I2, rz, y, ev, q2⟩ => ⟨I2.kIn, ?_⟩) hpl
  subst ev
  rw [hks]
  cases rz with
  | cons ry rn =>
    cases rn
    exact run_mk T hr I2 ry (.inr ⟨rfl, rfl⟩) q2
/-- C(), a class without __init__ of its own -/
theorem pe_mk0 {C : Addr} (q : PySem.W.excIn X.K C eT "Exception.__new__" = true) (gC : X.mg x = some (.ref C)) (kC : PySem.W.keepIn X.K (.ref C) = true) (hg : Gl X x) (hdb : (x == ("__debug__" : Str)) = false := by decide) :
    PE X (.Call (.Name x p) [] [] pos) (fun _ H Q => ∀ a, H a = none → Q (.ref a) (upd H a (ExO (.ref C) a))) := by
  refine ⟨fun pins s σ H Q I h => wpAny_Call_Name_kw (ld_glob I hg gC (PySem.W.callWith_K0 I.kIn kC ?_) hdb)⟩
  show wpAny _ _ (call (.ref C) []) _ _ _
  obtain ⟨bm, N, nm, qn, bs, hdct, sn, sub, ab, col, dd, k0, k1, k2, k3, k5, mN, hC, hN, hni, T⟩ := exc_obj I.kIn q
  refine wpAny_call_exc_subT PySem.F.excBase_Exception T hC hN hni (fun h' a hm => ?_) (Nat.zero_le _)
  have hn : H a = none := I.hok.gone hm.new
  obtain ⟨t, ht, _, _⟩ := hm.there
  exact ⟨.ref a, upd H a (ExO (.ref C) a), I.laidN hm.keeps hm.new hn (exO_ok ht ⟨rfl, rfl⟩ rfl rfl rfl (show 4 < 6 by decide)), rfl, h a hn⟩
/-- e.f of such an exception -/
def tXf (K : PySem.W.Frag) (fn : Str) (te : TE) : TE := fun σ H Q => te σ H fun v H1 => ∃ (a C : Addr) (y : V), v = .ref a ∧ XC K C ∧ NoF K C fn ∧ XAt H1 a C (some (fn, y)) ∧ Q y H1
theorem pe_xfld {te : TE} (he : PE X e te) (hb : attributeBase e fn X.env (eval e X.env) = eval e X.env := by rfl) : PE X (.Attribute e fn pos) (tXf X.K fn te) := by
  refine ⟨fun pins s σ H Q I h => attr_of hb (thn (he.run pins s σ H _ I h) fun u s1 hh => ?_)⟩
  obtain ⟨v, H1, I1, rv, a, C, y, ev, T, N, xa, q⟩ := hh
  subst ev
  obtain rfl : u = Value.ref a := rv
  cases xa with
  | @fld dx _ _ ha hd =>
    obtain ⟨t1, ho⟩ := exo_at I1.hok ha
    obtain ⟨mA, hns, hr⟩ := exd_at I1.hok hd
    obtain ⟨od, hod, hl⟩ := lookIn_ns hns
    obtain ⟨w, hw, rw⟩ := RelO.some_of (v := y) (o := mA fn) (by
      have r := hr fn
      rw [lookup_put, if_pos rfl] at r
      exact r)
    have J : PySem.W.InstAt s1.heap a { cls := .ref C, dict := some dx, data := .fields #[.ref t1, .none, .none, .none, .bool false, .none] } C (some od) := ⟨ho, rfl, rfl, hod⟩
    exact PySem.HandSPX.exc_get I1.kIn J T.xf.ga T.xf.gg T.xf.exC (PySem.W.findObj_own T.xf.hdC N.no rfl (by rw [hl, hw])) (handed_of rw) ⟨y, H1, I1.tok _, rw, q⟩
end
end EX

set_option Elab.async false
set_option linter.all false
set_option maxRecDepth 100000
set_option maxHeartbeats 4000000
namespace PySem.W
open PySem PySem.Spec PySem.Calls PyProof.Rows
section
variable {K : Frag} {x D : Addr} {ox : Obj} {od : Option Obj}
/-- e.__class__ of an own exception, its dict made or not -/
theorem exl_class {prog : Program} {w : World} {A : Around} {E : Value → Shared → Prop} {s : Shared} {Q : Option Value → Shared → Prop} (T : L2.XfC K D) (hf : findObj K D od "__class__" = some (.bind (.builtin "getset_descriptor.__get__") (.builtin "object.__class__")))
    (hm : mroIn K D (.type "object") = some true) (X : K.In s.heap) (I : InstAt s.heap x ox D od) (h : Q (some (.ref D)) { s with toks := s.toks + 1 }) : wpAny (model prog w) A (getAttr? (.ref x) "__class__") Q E s := by
  obtain ⟨hp, g, d, t, os⟩ := s
  have LT := I.type (M := model prog w)
  have LA := looks_findIn (M := model prog w) X T.ga
  have LG := looks_findIn (M := model prog w) X T.gg
  have LF := looks_find (M := model prog w) X I hf
  have isx : Looks (model prog w) hp (isInstance (.ref x) (.type "BaseException")) true := LT.andThen (looks_subIn X T.exC)
  have n2 : (Value.builtin "BaseException.__getattribute__" == Value.builtin "object.__getattribute__") = false := by decide +kernel
  have n0 : (false && onTheHeap (Value.builtin "BaseException.__getattribute__")) = false := rfl
  have n1 : (onTheHeap (Value.ref D) && Value.builtin "BaseException.__getattribute__" == Value.builtin "object.__getattribute__") = false := by rw [n2]; rfl
  unfold getAttr? getAttrBy? getAttrBy
  refine wpAny_bind (wpAny_mkText (wpAny_bind (wpAny_attempt (wpAny_holding (wpAny_bind (LT.at (wpAny_bind (LA.at ?_))))))))
  show wpAny _ _ (if (onTheHeap (Value.ref D) && Value.builtin "BaseException.__getattribute__" == Value.builtin "object.__getattribute__") = true then _ else _) _ _ _
  rw [n1, if_neg Bool.false_ne_true]
  unfold getAttrByItsOwn hookBefore
  refine wpAny_bind ?_
  rw [if_pos (show onTheHeap (Value.ref D) = true from rfl)]
  refine LG.at (wpAny_bind (wpAny_attempt (wpAny_holding ?_)))
  unfold callGetattribute
  rw [n0, if_neg Bool.false_ne_true]
  unfold boundAndCalled
  rw [PySem.F.excAttr_ValueError.ga.bind (.ref x)]
  refine wpAny_bind (wpAny_pure ?_)
  show wpAny _ _ (call (.builtin "BaseException.__getattribute__") [.ref x, .str "__class__" t]) _ _ _
  refine wpAny_call (codeAny_call_builtin PySem.F.excAttr_ValueError.ga.plain PySem.F.entry_bexc_ga (@check_slot (model prog w) _ _ ⟨hp, g, d, t + 1, os⟩ "BaseException.__getattribute__" "BaseException" "__getattribute__" (.ref x) [.str "__class__" t] [] _
    (by decide +kernel) (by decide +kernel) isx (PySem.F.args_bexc_ga (.ref x) (.str "__class__" t)) ?_))
  unfold Builtin.«object.__getattribute__»
  refine wpAny_bind (wpAny_of_eq (a := ((Value.ref x : Value), [Value.str "__class__" t])) (by first | rfl | (simp only [slotArgs]; rfl)) (wpAny_bind (wpAny_pure (wpAny_bind (LT.at (wpAny_bind (LF.at ?_)))))))
  show wpAny _ _ (holding [Value.builtin "object.__class__"] (call (.builtin "getset_descriptor.__get__") [.builtin "object.__class__", .ref x, .ref D]) >>= ret) _ _ _
  refine wpAny_bind (wpAny_holding (wpAny_call (class_get (s := ⟨hp, g, d, t + 1, os⟩) (ox := ox) (od := od) X I hm (wpAny_pure ?_))))
  show wpAny _ _ (handedOut (.ref D)) _ _ _
  rw [handedOut_of (v := .ref D) rfl]
  first
    | exact wpAny_pure (wpAny_pure h)
    | exact wpAny_pure h
    | exact wpAny_pure (wpAny_bind (wpAny_pure (wpAny_pure h)))
theorem exl_kit (T : L2.XfC K D) (ha : findIn K (.ref D) "__class__" = some (some (.builtin "object.__class__"))) (hn : specialIn K (.builtin "object.__class__") "__get__" = some (some (.builtin "getset_descriptor.__get__")))
    (htk : takesIn K (.builtin "object.__class__") = some true) (hm : mroIn K D (.type "object") = some true) : KitX K (.ref x) (.ref D) (fun h => InstAt h x ox D od) := by
  obtain ⟨cdD, hcD, _⟩ := any_some T.hdC
  have hf : findObj K D od "__class__" = some (.bind (.builtin "getset_descriptor.__get__") (.builtin "object.__class__")) := by
    cases od with
    | none => exact findObj_dataN (by rw [hcD]; rfl) ha hn htk
    | some o => exact findObj_data (by rw [hcD]; rfl) ha hn htk
  unfold clsIn at hcD
  split at hcD
  · rename_i c' d' cd' sl' ho
    refine ⟨fun _ _ _ I => I.type, fun _ _ X _ => fun {A' Q' E'} s' k q => ?_, fun h tp dd its n sl X htp => ?_, fun X I k => exl_class T hf hm X I k⟩
    · unfold isType loadHead
      exact wpAny_bind (wpAny_loadPart (k _ _ (X _ _ ho)) (wpAny_pure q))
    · refine Bool.eq_false_iff.mpr fun q => ?_
      have e : D = tp := Value.ref.inj (beq_iff_eq.mp q)
      subst e
      have z := (X _ _ ho).symm.trans htp
      cases z
  · cases hcD
end
end PySem.W

set_option Elab.async false
set_option linter.all false
set_option maxRecDepth 100000
set_option maxHeartbeats 4000000
namespace EX
open PySem PySem.Spec PyProof.Rows L2
/-- what the written part says of object.__class__ -/
structure KCl (K : PySem.W.Frag) : Prop where
  hn : PySem.W.specialIn K (.builtin "object.__class__") "__get__" = some (some (.builtin "getset_descriptor.__get__"))
  ht : PySem.W.takesIn K (.builtin "object.__class__") = some true
def kclB (K : PySem.W.Frag) : Bool := decide (PySem.W.specialIn K (.builtin "object.__class__") "__get__" = some (some (.builtin "getset_descriptor.__get__"))) && decide (PySem.W.takesIn K (.builtin "object.__class__") = some true)
theorem kclB_ok {K : PySem.W.Frag} (h : kclB K = true) : KCl K := by
  obtain ⟨h1, h2⟩ := He.ba h
  exact ⟨of_decide_eq_true h1, of_decide_eq_true h2⟩
section
variable {X : Cx}
def rIsX (K : PySem.W.Frag) : List V → Hp → VK → Prop := fun xs H Q => ∃ (a D : Addr) (o : Option (Str × V)) (c : V) (cv : Value) (b : Bool), xs = [.ref a, c] ∧ ClsV c cv ∧ XAt H a D o ∧ XC K D ∧ KCl K ∧ PySem.W.kitOne K (.ref D) cv = some b ∧ Q (.bl b) H
theorem call_isX : CallR X (.builtin "isinstance") (rIsX X.K) := by
  intro pins s σ H xs us Q I r h
  obtain ⟨a, D, o, c, cv, b, rfl, hc, xa, T, KC, e, q⟩ := h
  obtain ⟨u1, u2, rfl, r1, r2⟩ := vals2 r
  obtain rfl : u1 = Value.ref a := r1
  have e2 := hc.eq r2
  subst e2
  cases xa with
  | bare ha =>
    obtain ⟨oe, vs, ho, hz, hd, _⟩ := (I.hok a _ ha).1
    have J : PySem.W.InstAt s.heap a oe D none := ⟨ho, hz.1, by unfold PySem.W.notCls; rw [hd] <;> rfl, by rw [hz.2]; exact True.intro⟩
    exact PySem.W.kia_one (PySem.W.exl_kit T.xf T.cl KC.hn KC.ht T.mo) I.kIn J e (fun z => nomatch z) fun tk => ⟨.bl b, H, I.tok tk, rfl, q⟩
  | @fld dx f y ha hd =>
    obtain ⟨t1, ho⟩ := exo_at I.hok ha
    obtain ⟨mA, ⟨od, es, ep, hod, _⟩, _⟩ := exd_at I.hok hd
    have J : PySem.W.InstAt s.heap a { cls := .ref D, dict := some dx, data := .fields #[.ref t1, .none, .none, .none, .bool false, .none] } D (some od) := ⟨ho, rfl, rfl, hod⟩
    exact PySem.W.kia_one (PySem.W.exl_kit T.xf T.cl KC.hn KC.ht T.mo) I.kIn J e (fun z => nomatch z) fun tk => ⟨.bl b, H, I.tok tk, rfl, q⟩
/-- xs != ys, two lists of the same values: False -/
def rNeS (K : PySem.W.Frag) : R2 := fun x y H Q => ∃ (a b : Addr) (xs : List V), x = .ref a ∧ y = .ref b ∧ SqL K H a xs ∧ SqL K H b xs ∧ (∀ v ∈ xs, flatB v = true ∨ ∃ r, v = .ref r) ∧ Q (.bl false) H
theorem same_items {A : Around} {s : Shared} : ∀ {xs : List V} {us ws : List Value}, (∀ v ∈ xs, flatB v = true ∨ ∃ r, v = .ref r) → Vals xs us → Vals xs ws → ∀ j (h1 : j < us.length) (h2 : j < ws.length), SeqAt.EqAt A s us[j] ws[j] true := by
  intro xs
  induction xs with
  | nil =>
    intro us ws _ r1 r2 j h1
    cases r1
    exact absurd h1 (Nat.not_lt_zero j)
  | cons x xs ih =>
    intro us ws hx r1 r2 j h1 h2
    cases r1 with
    | cons a1 b1 =>
      cases r2 with
      | cons a2 b2 =>
        cases j with
        | zero =>
          rcases hx x List.mem_cons_self with f | ⟨r, rfl⟩
          · exact eqAt_same a1 a2 f
          · have e1 : _ = Value.ref r := a1
            have e2 : _ = Value.ref r := a2
            show SeqAt.EqAt A s _ _ true
            subst e1
            subst e2
            exact SeqAt.EqAt.same _
        | succ j => exact ih (fun v hv => hx v (List.mem_cons_of_mem _ hv)) b1 b2 j (Nat.lt_of_succ_lt_succ h1) (Nat.lt_of_succ_lt_succ h2)
theorem op_neS (hu : X.A.units < cLine) : OpR X (compareOp .NotEq) (rNeS X.K) := by
  intro pins s σ H x y v u Q I rx ry h
  obtain ⟨a, b, xs, rfl, rfl, ha, hb, hx, q⟩ := h
  obtain rfl : v = Value.ref a := rx
  obtain rfl : u = Value.ref b := ry
  obtain ⟨us, r1, p1, _⟩ := I.list ha
  obtain ⟨ws, r2, p2, _⟩ := I.list hb
  have hsz : us.toArray.size = ws.toArray.size := by rw [List.size_toArray, List.size_toArray, ← r1.length, ← r2.length]
  refine SeqAt.RcNeAt.lists (e := fun _ => true) p1.isList p2.isList hsz hu (fun j h1 h2 => ?_) X.prog X.w _ _ ?_
  · have k := same_items (A := X.A.in1) (s := s) hx r1 r2 j (by simpa using h1) (by simpa using h2)
    simpa using k
  · rw [show ((List.range us.toArray.size).all fun _ => true) = true from List.all_eq_true.mpr fun _ _ => rfl]
    exact ⟨.bl false, H, I, rfl, q⟩
end
end EX

set_option Elab.async false
set_option linter.all false
set_option maxRecDepth 100000
set_option maxHeartbeats 4000000
/-! raise C(e), C over Exception with its own __init__; isinstance(e, ..) of it in the suite. -/
namespace EX
open PySem PySem.Spec PyProof.Rows L2
section
variable {X : Cx} {CX : CXT} {k : Nat} {f C : Addr} {E : XK} {x fn : Str} {p pos : Pos} {e : Expr} {t : TA}
/-- raise C(e): what is in flight has a dict of the one field -/
def tMkR (C : Addr) (fn : Str) (ta : TA) : L2.St → Hp → XK → Prop := fun σ H Q => ta σ H fun vs H1 => ∃ y, vs = [y] ∧ ∀ d, H1 d = none → Q (.ref C) (some d) (upd H1 d (.xd [(fn, y)]))
theorem pmk_xi (T : XI X.prog X.w X.K X.mg X.base k x fn C f) (tyC : PySem.W.typeIn X.K (.ref C) = some (.type "type")) (hr : Room (k + 1) X.A) (hg : Gl X x) (ha : PA X [e] t) (hdb : (x == ("__debug__" : Str)) = false := by decide) (he : starEach [e] X.env = (false, eval e X.env) :: starEach [] X.env := by rfl)
    (hpl : (backTo pos (starEach [] X.env)).any (·.1) = false := by rfl) : PMk X (.Call (.Name x p) [e] [] pos) (tMkR C fn t) := by
  intro pins s σ H Q I h
  obtain ⟨fd, F1, b1, _⟩ := T.run
  refine wpAny_Call_Name_kw (ld_glob I hg T.gl ?_ hdb)
  refine PySem.W.callWith_K (h₀ := X.base) I.ok.mod.kin T.cls.kC (thn (ha.run pos pins s σ H _ I h) fun us s1 ⟨vs, H1, I1, r1, y, ev, q1⟩ => ⟨I1.kIn, ?_⟩) he hpl
  subst ev
  obtain ⟨v, rfl, ry⟩ := vals1 r1
  show wpAny _ _ (call (.ref C) [v]) _ _ _
  obtain ⟨nm, N, qn, bs, bm, hdct, sn, sub, ab, col, dd, k0, k1, k2, k3, k5, hC, hT⟩ := PySem.W.excInit_of I1.kIn T.cls.inn
  obtain ⟨hp, g, dr, tk, os⟩ := s1
  have hsz : hp.objs.size ≤ hp.objs.size + 1 := Nat.le_succ _
  have hn : H1 (hp.objs.size + 1) = none := I1.hok.fresh hsz
  have kk : ∀ b o, hp.get? b = some o → ((hp.push (PySem.W.kdv_tup [v])).push (PySem.HandSPX.excO C hp.objs.size)).get? b = some o := fun b o e => Heap.get?_push_of_some _ (Heap.get?_push_of_some _ e)
  have hget : ((hp.push (PySem.W.kdv_tup [v])).push (PySem.HandSPX.excO C hp.objs.size)).get? (hp.objs.size + 1) = some (PySem.HandSPX.excO C hp.objs.size) := by heap_get
  have I2 : Inv X pins σ (upd H1 (hp.objs.size + 1) (exo (hp.objs.size + 1) C none)) ⟨(hp.push (PySem.W.kdv_tup [v])).push (PySem.HandSPX.excO C hp.objs.size), g, dr, tk, os⟩ :=
    I1.laid (t' := tk) (a := hp.objs.size + 1) (o := exo (hp.objs.size + 1) C none) (h' := (hp.push (PySem.W.kdv_tup [v])).push (PySem.HandSPX.excO C hp.objs.size)) kk hsz (exo_ok hget)
  have hz : [v].length ≤ sizeLine := by
    rw [sizeLine_eq]
    exact (by decide : 1 ≤ 16777216)
  have hsp : spIn C fn [V.ref (hp.objs.size + 1), y] (upd H1 (hp.objs.size + 1) (exo (hp.objs.size + 1) C none))
      (fun u H2 => u = .non ∧ ∃ d : Addr, H2 (hp.objs.size + 1) = some (exo (hp.objs.size + 1) C (some d)) ∧ H2 d = some (exd d [(fn, y)]) ∧ H1 d = none ∧ Q (.ref C) (some d) (upd (del H2 (hp.objs.size + 1)) d (.xd [(fn, y)]))) E0 := by
    refine ⟨_, _, rfl, upd_same, fun dx n ne => ⟨rfl, dx, upd_same, ?_, ?_, ?_⟩⟩
    · rw [upd_ne ne, upd_same]
    · rw [upd_ne ne] at n
      exact n
    · rw [upd_ne ne] at n
      have e : upd (del (upd (upd (upd H1 (hp.objs.size + 1) (exo (hp.objs.size + 1) C none)) dx (exd dx [(fn, y)])) (hp.objs.size + 1) (exo (hp.objs.size + 1) C (some dx))) (hp.objs.size + 1)) dx (.xd [(fn, y)]) = upd H1 dx (.xd [(fn, y)]) := by
        funext b
        by_cases hb : b = dx
        · rw [hb, upd_same, upd_same]
        · rw [upd_ne hb, upd_ne hb]
          by_cases ha : b = hp.objs.size + 1
          · rw [ha, del_same, hn]
          · rw [del_ne ha, upd_ne ha, upd_ne hb, upd_ne ha]
      rw [e]
      exact q1 dx n
  refine wpAny_call (PySem.EXL.call_cls PySem.F.excBase_Exception hT hC (PySem.W.looks_findIn I1.kIn T.ini) (fun self => PySem.W.bind_fn I1.kIn self T.typ) hz
    (codeAny_mono (F1.run _ X.stack _ _ ⟨Value.ref (hp.objs.size + 1) :: [v], []⟩ [Value.ref (hp.objs.size + 1), v] [V.ref (hp.objs.size + 1), y] _ E0 (hr.make C [v] []) (I2.env0.make C [v] []) (b1 _ _ _) (.cons rfl (.cons ry .nil)) hsp) fun r s' hq' => ?_))
  cases r with
  | error er => exact hq'.elim
  | ok fl =>
    cases fl with
    | ret u =>
      obtain ⟨u', H2, os2, bare2, un2, hok2, rv, ev, d, ea, ed, hd1, q2⟩ := hq'
      subst ev
      obtain ⟨h2, g2, d2, t2, os'⟩ := s'
      exact ⟨rv, mk_end (raises_own T.cls.xf.exC tyC) I1 hsz kk un2 hok2 os2 bare2 ea ed hd1 q2⟩
    | next => exact False.elim hq'
    | brk => exact False.elim hq'
    | cont => exact False.elim hq'
/-- isinstance(e, c), e held by the suite, its fields in a dict -/
def rIsS (K : PySem.W.Frag) (a : Addr) (cls : Value) (d : Option Addr) : List V → Hp → VK → Prop := fun xs H Q => ∃ (D dx : Addr) (fs : List (Str × V)) (c : V) (cv : Value) (b : Bool), xs = [.ref a, c] ∧ cls = .ref D ∧ d = some dx ∧ H dx = some (.xd fs) ∧ ClsV c cv ∧ XC K D ∧ KCl K ∧ PySem.W.kitOne K (.ref D) cv = some b ∧ Q (.bl b) H
theorem call_isS {a : Addr} {oe : Obj} {cls : Value} {d : Option Addr} {pn : List (Addr × Obj)} (hz : Zc cls d oe) (hf : ∃ vs, oe.data = .fields vs) : CallR (X.suite a ((a, oe) :: pn)) (.builtin "isinstance") (rIsS X.K a cls d) := by
  intro pins s σ H xs us Q I r h
  obtain ⟨D, dx, fs, c, cv, b, rfl, rfl, rfl, hd, hc, T, KC, e, q⟩ := h
  obtain ⟨u1, u2, rfl, r1, r2⟩ := vals2 r
  obtain rfl : u1 = Value.ref a := r1
  have e2 := hc.eq r2
  subst e2
  obtain ⟨ha, _⟩ := I.pin (a, oe) (List.mem_append_left _ List.mem_cons_self)
  obtain ⟨vs, hv⟩ := hf
  have hx : ObjOk X.prog X.w H s.heap dx (.xd fs) := I.hok dx _ hd
  obtain ⟨mA, hns, _⟩ := hx
  obtain ⟨od, ho, _⟩ := lookIn_ns hns
  have J : PySem.W.InstAt s.heap a oe D (some od) := ⟨ha, hz.1, by unfold PySem.W.notCls; rw [hv] <;> rfl, by rw [hz.2]; exact ho⟩
  exact PySem.W.kia_one (PySem.W.exl_kit T.xf T.cl KC.hn KC.ht T.mo) I.kIn J e (fun z => nomatch z) fun tk => ⟨.bl b, H, I.tok tk, rfl, q⟩
end
end EX

set_option Elab.async false
set_option linter.all false
set_option maxRecDepth 100000
set_option maxHeartbeats 4000000
/-! Promises of defs that are called where no repr is under way: then str of a tuple is its exact text. The same rules of calls as without. -/
namespace G
open PySem PySem.Spec PyProof.Rows L2
/-- no repr is under way -/
abbrev Quiet (A : Around) : Prop := A.guards = some []
theorem quiet_make {A : Around} (h : Quiet A) (C : Addr) (us : List Value) (kw : List (Str × Value)) : Quiet (A.under (.builtin "type.__call__" ⟨.ref C :: us, kw⟩)) := by
  first
    | exact h
    | (simp [Quiet, Around.under, Code.guards, pushGuards, h])
    | (unfold Quiet Around.under; simp [h])
/-- a def's promise, kept where no repr is under way -/
structure FnG (P : Program) (w : World) (K : PySem.W.Frag) (mg : Str → Option Value) (base : Heap) (CX : CXT) (k : Nat) (f : Addr) (fd : FuncData) (ps : List Str) (sp : Sp) : Prop where
  len : ∀ vs H Q E, sp vs H Q E → vs.length = ps.length
  run : ∀ (A : Around) (outer : List Env) (s : Shared) (H : Hp) (args : Args) (us : List Value) (vs : List V) (Q : VK) (E : XK), Room k A → Quiet A → Env0 P w K mg base A outer s H → BindsTo s fd args (ps.zip us) → Vals vs us → sp vs H Q E →
    codeAny (model P w) A (.call (.ref f) args) (CR CX outer P w H s Q E) s
section
variable {P : Program} {w : World} {K : PySem.W.Frag} {mg : Str → Option Value} {base : Heap} {CX : CXT} {k : Nat} {f : Addr} {fd : FuncData} {ps : List Str} {sp : Sp}
theorem FnG.of (F : FnOk P w K mg base CX k f fd ps sp) : FnG P w K mg base CX k f fd ps sp := ⟨F.len, fun A outer s H args us vs Q E hr _ => F.run A outer s H args us vs Q E hr⟩
theorem FnG.mono {j : Nat} (F : FnG P w K mg base CX j f fd ps sp) (h : j ≤ k) : FnG P w K mg base CX k f fd ps sp := ⟨F.len, fun A outer s H args us vs Q E hr => F.run A outer s H args us vs Q E (hr.mono h)⟩
theorem FnG.imp {sp' : Sp} (F : FnG P w K mg base CX k f fd ps sp) (h : ∀ vs H Q E, sp' vs H Q E → sp vs H Q E) : FnG P w K mg base CX k f fd ps sp' :=
  ⟨fun vs H Q E q => F.len vs H Q E (h _ _ _ _ q), fun A outer s H args us vs Q E hr hg he hb hv hs => F.run A outer s H args us vs Q E hr hg he hb hv (h _ _ _ _ hs)⟩
end
/-! ### calls -/
section
variable {X : Cx} {CX : CXT} {k n : Nat} {f C : Addr} {fd : FuncData} {ps ks : List Str} {sp : Sp} {dvs : List V} {ds : List Value} {E : XK} {x m : Str} {p pos apos : Pos} {e o : Expr} {es : List Expr} {kws : List Keyword} {ta : TE} {t tk : TA} {g : List Value → List Value → List Value} {gV : List V → List V → List V}
theorem run {pins : List (Addr × Obj)} {σ : L2.St} {H : Hp} {s : Shared} {Q : VK} {us : List Value} {kw : List (Str × Value)} {vs : List V} {ws : List Value} (F : FnG X.prog X.w X.K X.mg X.base CX k f fd ps sp) (hr : Room k X.A) (hG : Quiet X.A) (hx : Passes CX X E)
    (I : Inv X pins σ H s) (hb : BindsTo s fd ⟨us, kw⟩ (ps.zip ws)) (r : Vals vs ws) (h : sp vs H Q E) : wpAny (model X.prog X.w) X.A (call (.ref f) us kw) (EP X pins σ Q) X.xe s := by
  refine wpAny_call (codeAny_mono (F.run X.A X.stack s H ⟨us, kw⟩ ws vs Q E hr hG I.env0 hb r h) fun r s' hq => ?_)
  match r, hq with
  | .error e, hq => exact hx pins σ H s e s' I hq
  | .ok (.ret u), hq => exact I.after hq
  | .ok .next, hq => exact hq.elim
  | .ok .brk, hq => exact hq.elim
  | .ok .cont, hq => exact hq.elim
theorem run_fn {pins : List (Addr × Obj)} {σ : L2.St} {H : Hp} {s : Shared} {Q : VK} {us : List Value} {vs : List V} (F : FnG X.prog X.w X.K X.mg X.base CX k f fd ps sp) (hr : Room k X.A) (hG : Quiet X.A) (hb : Binds X.K fd ps ds) (hd : Vals dvs ds) (hx : Passes CX X E)
    (I : Inv X pins σ H s) (r : Vals vs us) (h : sp (vs ++ dvs) H Q E) : wpAny (model X.prog X.w) X.A (call (.ref f) us) (EP X pins σ Q) X.xe s := by
  have r2 : Vals (vs ++ dvs) (us ++ ds) := r.append hd
  exact run F hr hG hx I (hb s us I.kIn (by rw [← r2.length]; exact F.len _ _ _ _ h)) r2 h
/-- f(e, ..) -/
theorem pe_call (F : FnG X.prog X.w X.K X.mg X.base CX k f fd ps sp) (hr : Room k X.A) (hG : Quiet X.A) (hg : Gl X x) (hm : X.mg x = some (.ref f)) (hk : PySem.W.keepIn X.K (.ref f) = true) (hb : Binds X.K fd ps ds) (hd : Vals dvs ds) (hx : Passes CX X E)
    (ha : PA X (e :: es) t) (hdb : (x == ("__debug__" : Str)) = false := by decide) (he : starEach (e :: es) X.env = (false, eval e X.env) :: starEach es X.env := by rfl) (hpl : (backTo pos (starEach es X.env)).any (·.1) = false := by rfl) :
    PE X (.Call (.Name x p) (e :: es) [] pos) (tCall sp dvs E t) :=
  ⟨fun pins s σ H Q I h => wpAny_Call_Name_kw (ld_glob I hg hm (PySem.W.callWith_K (h₀ := X.base) I.ok.mod.kin hk (thn (ha.run pos pins s σ H _ I h) fun us s1 ⟨vs, H1, I1, r, q⟩ => ⟨I1.kIn, run_fn F hr hG hb hd hx I1 r q⟩) he hpl) hdb)⟩
theorem pe_call0 (F : FnG X.prog X.w X.K X.mg X.base CX k f fd ps sp) (hr : Room k X.A) (hG : Quiet X.A) (hg : Gl X x) (hm : X.mg x = some (.ref f)) (hk : PySem.W.keepIn X.K (.ref f) = true) (hb : Binds X.K fd ps ds) (hd : Vals dvs ds) (hx : Passes CX X E)
    (hdb : (x == ("__debug__" : Str)) = false := by decide) : PE X (.Call (.Name x p) [] [] pos) (tCall sp dvs E tNil) :=
  ⟨fun pins s σ H Q I h => wpAny_Call_Name_kw (ld_glob I hg hm (PySem.W.callWith_K0 I.kIn hk (run_fn (us := []) F hr hG hb hd hx I .nil h)) hdb)⟩
/-- o.m(e, ..) -/
theorem pe_meth {pl : Sem Bool} (he : PE X o ta) (c : Cls X.K C) (hm : Meth X.K C m f) (F : FnG X.prog X.w X.K X.mg X.base CX k f fd ps sp) (hr : Room k X.A) (hG : Quiet X.A) (hb : Binds X.K fd ps ds) (hd : Vals dvs ds) (hx : Passes CX X E) (ha : PA X (e :: es) t)
    (hst : starEach (e :: es) X.env = (false, eval e X.env) :: starEach es X.env := by rfl) (hpl : (backTo pos (starEach es X.env)).any (·.1) = false := by rfl)
    (ht : eval (.Call (.Attribute o m apos) (e :: es) [] pos) X.env = (do
      let ov ← eval o X.env
      standAt apos.atName
      let (f, first) ← holding [ov] (getMethod ov m pl)
      callWith pos f first (backTo pos (starEach (e :: es) X.env)) (backToKw pos (keywordEach [] X.env))) := by rfl) :
    PE X (.Call (.Attribute o m apos) (e :: es) [] pos) (tMeth C m sp dvs E ta t) := by
  refine ⟨fun pins s σ H Q I h => PySem.W.methodCall_KW (pl := pl) (thn (he.run pins s σ H _ I h) fun u s1 ⟨x, H1, I1, rx, a, dx, fs, ex, ea, l, q⟩ => ?_) ht⟩
  subst ex
  obtain rfl : u = Value.ref a := rx
  refine getmeth_ok I1 ea c hm l (PySem.W.callWith_K (first := [.ref a]) (h₀ := X.base) I.ok.mod.kin hm.kp (thn (ha.run pos pins s1 σ H1 _ I1 q) fun us s2 ⟨vs, H2, I2, r, q2⟩ => ⟨I2.kIn, ?_⟩) hst hpl)
  exact run_fn (us := .ref a :: us) (vs := .ref a :: vs) F hr hG hb hd hx I2 (.cons rfl r) q2
theorem pe_meth0 {pl : Sem Bool} (he : PE X o ta) (c : Cls X.K C) (hm : Meth X.K C m f) (F : FnG X.prog X.w X.K X.mg X.base CX k f fd ps sp) (hr : Room k X.A) (hG : Quiet X.A) (hb : Binds X.K fd ps ds) (hd : Vals dvs ds) (hx : Passes CX X E)
    (ht : eval (.Call (.Attribute o m apos) [] [] pos) X.env = (do
      let ov ← eval o X.env
      standAt apos.atName
      let (f, first) ← holding [ov] (getMethod ov m pl)
      callWith pos f first (backTo pos (starEach [] X.env)) (backToKw pos (keywordEach [] X.env))) := by rfl) :
    PE X (.Call (.Attribute o m apos) [] [] pos) (tMeth C m sp dvs E ta tNil) := by
  refine ⟨fun pins s σ H Q I h => PySem.W.methodCall_KW (pl := pl) (thn (he.run pins s σ H _ I h) fun u s1 ⟨x, H1, I1, rx, a, dx, fs, ex, ea, l, q⟩ => ?_) ht⟩
  subst ex
  obtain rfl : u = Value.ref a := rx
  exact getmeth_ok I1 ea c hm l (PySem.W.callWith_K0 (first := [.ref a]) I1.kIn hm.kp (run_fn (us := [.ref a]) (vs := [.ref a]) F hr hG hb hd hx I1 (.cons rfl .nil) q))
/-- C(e, .., k = v, ..): n positional values, keywords ks; a new instance and its dict, then __init__ -/
theorem run_makeN {pins : List (Addr × Obj)} {σ : L2.St} {H : Hp} {s : Shared} {Q : VK} {us ws : List Value} {vs zs : List V} (M : Mk X.K C f) (F : FnG X.prog X.w X.K X.mg X.base CX k f fd ps sp) (hr : Room (k + 1) X.A) (hG : Quiet X.A) (hb : KBn X.K fd ps (n + 1) ks g gV)
    (hx : Passes CX X E) (I : Inv X pins σ H s) (r : Vals vs us) (rz : Vals zs ws) (l1 : vs.length = n) (l2 : zs.length = ks.length)
    (h : ∀ x dx, H x = none → H dx = none → dx ≠ x → sp (gV (.ref x :: vs) zs) (upd (upd H dx (.own x)) x (.ins C dx [])) (fun v H2 => v = .non ∧ Q (.ref x) H2) E) :
    wpAny (model X.prog X.w) X.A (call (.ref C) us (ks.zip ws)) (EP X pins σ Q) X.xe s := by
  have hq := h (s.heap.objs.size + 1) s.heap.objs.size (I.hok.fresh (Nat.le_succ _)) (I.hok.fresh (Nat.le_refl _)) (Nat.ne_of_lt (Nat.lt_succ_self _))
  have I2 := Inv.made (C := C) I
  have r1 : Vals (V.ref (s.heap.objs.size + 1) :: vs) (Value.ref (s.heap.objs.size + 1) :: us) := .cons rfl r
  have r2 := hb.rel r1 rz
  have e1 : (Value.ref (s.heap.objs.size + 1) :: us).length = n + 1 := r1.length.symm.trans (congrArg Nat.succ l1)
  have e2 : ws.length = ks.length := rz.length.symm.trans l2
  refine wpAny_call (make_map (f := f) I.kIn M.makes M.init (beq_iff_eq.mp M.fn) (codeAny_mono (F.run _ X.stack _ _ ⟨Value.ref (s.heap.objs.size + 1) :: us, ks.zip ws⟩ (g (Value.ref (s.heap.objs.size + 1) :: us) ws) _ _ E (hr.make C us (ks.zip ws)) (quiet_make hG C us (ks.zip ws))
    (I2.env0.make C us (ks.zip ws)) (hb.to _ (Value.ref (s.heap.objs.size + 1) :: us) ws I2.kIn e1 e2) r2 hq) fun r s' hq' => ?_))
  match r, hq' with
  | .error e, hq' => exact hx pins σ _ _ e s' I2 hq'
  | .ok (.ret u), hq' =>
    obtain ⟨v, H', I3, rv, ev, q3⟩ := I2.after hq'
    subst ev
    exact ⟨rv, ⟨V.ref (s.heap.objs.size + 1), H', I3, rfl, q3⟩⟩
  | .ok .next, hq' => exact hq'.elim
  | .ok .brk, hq' => exact hq'.elim
  | .ok .cont, hq' => exact hq'.elim
theorem pe_makeN (M : Mk X.K C f) (F : FnG X.prog X.w X.K X.mg X.base CX k f fd ps sp) (hr : Room (k + 1) X.A) (hG : Quiet X.A) (hg : Gl X x) (hm : X.mg x = some (.ref C)) (hb : KBn X.K fd ps (n + 1) ks g gV) (hx : Passes CX X E)
    (ha : PA X (e :: es) t) (hkw : PK X kws tk) (hall : (backToKw pos (keywordEach kws X.env)).all (·.1.isSome) = true := by rfl) (hks : (backToKw pos (keywordEach kws X.env)).filterMap (·.1) = ks := by rfl)
    (hdb : (x == ("__debug__" : Str)) = false := by decide) (he : starEach (e :: es) X.env = (false, eval e X.env) :: starEach es X.env := by rfl)
    (hpl : ((backTo pos (starEach (e :: es) X.env)).any (·.1) || (backToKw pos (keywordEach kws X.env)).any (·.1.isNone)) = false := by rfl) :
    PE X (.Call (.Name x p) (e :: es) kws pos) (tMakeN C n ks.length sp gV E t tk) := by
  refine ⟨fun pins s σ H Q I h => wpAny_Call_Name_kw (ld_glob I hg hm (PySem.W.callWith_KW (h₀ := X.base) I.ok.mod.kin M.kp hall (thn (ha.run pos pins s σ H _ I h) fun us s1 ⟨vs, H1, I1, r, q⟩ => ?_) hpl he) hdb)⟩
  refine thn (hkw.run pos pins s1 σ H1 _ I1 q) fun ws s2 ⟨zs, H2, I2, rz, l1, l2, q2⟩ => ⟨I2.kIn, ?_⟩
  rw [hks]
  exact run_makeN M F hr hG hb hx I2 r rz l1 l2 q2
end
/-! ### a body keeps a promise -/
section
variable {CX : CXT} {P : Program} {w : World} {K : PySem.W.Frag} {mg : Str → Option Value} {base : Heap} {k : Nat} {f : Addr} {N ps : List Str} {sp : Sp}
theorem fn_of {name qual : Str} {params : Arguments} {body : List Stmt} {scope : Scope} {dV kV doc pm cdv ct oc : Value} {an od : Option Addr} {osl : Array (Option Value)}
    (lk : K.lookup f = some ⟨oc, od, .func (PySem.W.fnOf name qual params body scope dV kV doc pm an cdv ct), osl⟩) (hcd : PySem.W.codeIn K cdv qual = true) (S : FnScope N ps scope) (len : ∀ vs H Q E, sp vs H Q E → vs.length = ps.length)
    (hbody : ∀ (A : Around) (outer : List Env) (s : Shared) (H : Hp) (vs : List V) (Q : VK) (E : XK), Room k (A.deeper (envOfC qual scope s.heap.objs.size f cdv)) → Quiet (A.deeper (envOfC qual scope s.heap.objs.size f cdv)) → sp vs H Q E →
      ∃ t, PSs (cxOf CX P w K mg base N qual scope f cdv A outer s H E) body t ∧ t { nx := fun _ H' => Q .non H', rt := Q } (start N vs) H) :
    FnG P w K mg base CX (k + 1) f (PySem.W.fnOf name qual params body scope dV kV doc pm an cdv ct) ps sp := by
  refine ⟨len, fun A outer s H args us vs Q E hr hG e0 hb r hsp => ?_⟩
  have KX : K.In s.heap := e0.mod.kin.keeps fun b o e => (e0.bs b o e).1
  have lim : s.heap.NoLimit := e0.mod.nolimit.keeps fun b o e => (e0.bs b o e).1
  have hkind : ∀ y ∈ ps.zip us, scope.names.lookup y.1 = some .local ∨ (scope.names.lookup y.1 = some .cell ∧ ((cellsFrom (s.heap.objs.size + 1) scope.names []).lookup y.1).isSome = true) := fun ⟨n, v⟩ hy =>
    (S.par n (List.of_mem_zip hy).1).imp id fun q => ⟨q, PySem.W.cellsFrom_some _ _ _ (.inl q)⟩
  refine codeAny_call_function hr.depth (KX _ _ lk) rfl S.co S.gen rfl (PySem.W.codeRec_of KX hcd) (hb _ _ _ _ (wpAny_newFunctionEnv_cells S.kind hkind fun env he s1 x => ?_))
  subst he
  refine ⟨lim.keeps x.toInCall.keep, codeAny_func ?_⟩
  obtain ⟨t, ht, hq⟩ := hbody A outer s H vs Q E (hr.deeper _) hG hsp
  have I : Inv (cxOf CX P w K mg base N qual scope f cdv A outer s H E) [] (start N vs) H s1 := inv_start S hr.hd e0 (len _ _ _ _ hsp) r x
  refine wpAny_mono (ht.run [] s1 (start N vs) H _ I hq) (fun fl s' hs => ?_) fun e s' hs => hs
  match fl, hs with
  | .ret u, ⟨v, σ', H', J, rv, q⟩ => exact ⟨v, H', J.os, J.bare, J.base, J.hok, rv, q⟩
  | .next, ⟨σ', H', J, q⟩ => exact ⟨.non, H', J.os, J.bare, J.base, J.hok, rfl, q⟩
  | .brk, ⟨_, _, _, q⟩ => exact q.elim
  | .cont, ⟨_, _, _, q⟩ => exact q.elim
/-- no exception leaves it -/
theorem ok {x qual : Str} {st : Stmt} {fd : FuncData} (F : Fun K x qual st f fd) (S : FnScope N ps (defScope st)) (len : ∀ vs H Q E, sp vs H Q E → vs.length = ps.length)
    (hbody : ∀ (cdv : Value) (A : Around) (outer : List Env) (s : Shared) (H : Hp) (vs : List V) (Q : VK) (E : XK), Room k (A.deeper (envOfC qual (defScope st) s.heap.objs.size f cdv)) → Quiet (A.deeper (envOfC qual (defScope st) s.heap.objs.size f cdv)) → sp vs H Q E →
      ∃ t, PSs (cxOf CX0 P w K mg base N qual (defScope st) f cdv A outer s H E).nox (defBody st) t ∧ t { nx := fun _ H' => Q .non H', rt := Q } (start N vs) H) : FnG P w K mg base CX0 (k + 1) f fd ps sp := by
  obtain ⟨oc, od, kV, doc, pm, an, cdv, ct, osl, rfl, lk, hcd⟩ := F.ex
  refine fn_of lk hcd S len fun A outer s H vs Q E hr hG hsp => ?_
  obtain ⟨t, h, q⟩ := hbody cdv A outer s H vs Q E hr hG hsp
  exact ⟨t, h.nox, q⟩
/-- with defaults; CX says how an exception may leave -/
theorem okD {x qual : Str} {params : Arguments} {body : List Stmt} {scope : Scope} {dvs : List V} {kws : List (Str × V)} {fd : FuncData} (F : FunD K x qual params body scope dvs kws f fd) (S : FnScope N ps scope) (len : ∀ vs H Q E, sp vs H Q E → vs.length = ps.length)
    (hbody : ∀ (cdv : Value) (A : Around) (outer : List Env) (s : Shared) (H : Hp) (vs : List V) (Q : VK) (E : XK), Room k (A.deeper (envOfC qual scope s.heap.objs.size f cdv)) → Quiet (A.deeper (envOfC qual scope s.heap.objs.size f cdv)) → sp vs H Q E →
      ∃ t, PSs (cxOf CX P w K mg base N qual scope f cdv A outer s H E) body t ∧ t { nx := fun _ H' => Q .non H', rt := Q } (start N vs) H) : FnG P w K mg base CX (k + 1) f fd ps sp := by
  obtain ⟨oc, od, dV, kV, doc, pm, an, cdv, ct, osl, rfl, lk, hcd, _, _⟩ := F.ex
  exact fn_of lk hcd S len fun A outer s H vs Q E hr hG hsp => hbody cdv A outer s H vs Q E hr hG hsp
end
end G

set_option Elab.async false
set_option linter.all false
set_option maxRecDepth 100000
set_option maxHeartbeats 4000000
/-! The law's call, by a promise that is kept where no repr is under way. -/
namespace G
open PySem PySem.Spec PyProof.Rows L2
theorem law_call {P : Program} {w : World} {K : PySem.W.Frag} {mg mb : Str → Option Value} {CX : CXT} {k : Nat} {fa a : Addr} {fd : FuncData} {x : Str} {sp : Sp} {s₁ : Shared} {vs : List Value} {ns : List Int}
    (KX : K.In s₁.heap) (hns : s₁.heap.Ns mainGlobals mg) (hb : s₁.heap.Ns builtinsNs mb) (hbb : ∀ x : Str, x ≠ "__name__" → mb x = bootBuiltins x) (hlim : s₁.heap.NoLimit) (hg : s₁.gens = #[])
    (ha : s₁.heap.get? a = some { cls := .type "list", data := .seq vs.toArray }) (hi : IntsAre vs ns) (hl : ns.length ≤ sizeLine) (hr : Room k callerA)
    (F : ∀ base : Heap, K.In base → base.Ns mainGlobals mg → FnG P w K mg base CX k fa fd [x] sp) (hbind : ∀ (s : Shared) (u : Value), BindsTo s fd ⟨[u], []⟩ [(x, u)])
    (hsp : ∀ H : Hp, Only H → SqL K H a (ns.map V.int) → sp [.ref a] H (fun v _ => v = .bl true) fun _ _ _ => False)
    (hCX : ∀ H e s', CX [] H s₁ (fun _ _ _ => False) e s' → False) :
    codeAny (model P w) callerA (.call (.ref fa) ⟨[.ref a], []⟩) (fun r s' => r = .ok (.ret (.bool true)) ∧ OldK s₁.heap s'.heap ∧ s'.os = s₁.os ∧ AllBare s'.gens) s₁ := by
  -- the same as by a promise for every surrounding: that promise, told for this one
  have go : ∀ (base : Heap) (H : Hp), K.In base → base.Ns mainGlobals mg → Env0 P w K mg base callerA [] s₁ H → sp [.ref a] H (fun v _ => v = .bl true) (fun _ _ _ => False) →
      codeAny (model P w) callerA (.call (.ref fa) ⟨[.ref a], []⟩) (CR CX [] P w H s₁ (fun v _ => v = .bl true) fun _ _ _ => False) s₁ := fun base H h1 h2 e0 h3 =>
    (F base h1 h2).run callerA [] s₁ H ⟨[.ref a], []⟩ [.ref a] [.ref a] _ _ hr rfl e0 (hbind s₁ (.ref a)) (.cons rfl .nil) h3
  have rv := vals_ints hi
  have core : ∀ H : Hp, Only H → SqL K H a (ns.map V.int) → HOk P w H s₁.heap → (∀ b, H b ≠ none → b = a) → (H a ≠ none → K.lookup a = none) →
      codeAny (model P w) callerA (.call (.ref fa) ⟨[.ref a], []⟩) (fun r s' => r = .ok (.ret (.bool true)) ∧ OldK s₁.heap s'.heap ∧ s'.os = s₁.os ∧ AllBare s'.gens) s₁ := by
    intro H hO hS hok hA hK
    have isA : ∀ {b : Addr}, H b ≠ none → b = a := fun {b} h => hA b h
    have noD : ∀ {b : Addr} {o : Obj} {es : Array DictEntry} {ep : Nat}, s₁.heap.get? b = some o → o.data = .dict es ep → H b = none := fun {b o es ep} e d => by
      by_cases q : H b = none
      · exact q
      · have eb := isA q
        rw [eb, ha] at e
        have eo := Option.some.inj e
        rw [← eo] at d
        exact Data.noConfusion d
    have nsK : ∀ {b : Addr} {m : Str → Option Value}, s₁.heap.Ns b m → (hidT s₁.heap H).Ns b m := fun {b m} ⟨o, es, ep, e, d, r⟩ => ⟨o, es, ep, hidT_get e (noD e d), d, r⟩
    have hKb : K.In (hidT s₁.heap H) := fun b o e => hidT_get (KX b o e) (by
      by_cases q : H b = none
      · exact q
      · have eb := isA q
        rw [eb] at q e
        rw [hK q] at e
        cases e)
    have hM : Mod K mg (hidT s₁.heap H) := ⟨hKb, nsK hns, ⟨mb, nsK hb, hbb⟩, let ⟨mc, h1, h2⟩ := hlim; ⟨mc, nsK h1, h2⟩⟩
    have e0 : Env0 P w K mg (hidT s₁.heap H) callerA [] s₁ H := ⟨rfl, hM, fun b o e => of_hidT e, Nat.le_of_eq (hidT_size _ _), trivial, fun b hb => absurd (show b ∈ ([] : List Addr) from hb) (by simp), hok, .of_eq hg⟩
    refine codeAny_mono (go _ H hKb (nsK hns) e0 (hsp H hO hS)) fun r s' h => ?_
    match r, h with
    | .error e, h => exact (hCX H e s' h).elim
    | .ok .next, h => exact h.elim
    | .ok .brk, h => exact h.elim
    | .ok .cont, h => exact h.elim
    | .ok (.ret u), ⟨v, H', os, bare, un, hok', r', q⟩ =>
      have q' : v = .bl true := q
      subst q'
      obtain rfl : u = Value.bool true := r'
      refine ⟨rfl, OldK.of_keep fun b o e => ?_, os, bare⟩
      rcases hO b with z | ⟨ob, xs, z⟩
      · exact un.keep b o e z (by intro y; exact absurd (show b ∈ ([] : List Addr) from y) (by simp)) (by simp)
      · obtain ⟨e1, _⟩ := hok b _ z
        obtain ⟨e2, _⟩ := hok' b _ (un.frzs b ob _ z)
        rw [e] at e1
        rw [Option.some.inj e1]
        exact e2
  by_cases hk : K.lookup a = none
  · refine core (fun b => if b = a then some (.frz { cls := .type "list", data := .seq vs.toArray } (.lst (ns.map V.int))) else none) (fun b => ?_) (.inl (.inr ⟨{ cls := .type "list", data := .seq vs.toArray }, if_pos rfl⟩)) (fun b u z => ?_) (fun b z => ?_) fun _ => hk
    · by_cases hb : b = a
      · exact .inr ⟨_, _, if_pos hb⟩
      · exact .inl (if_neg hb)
    · by_cases hb : b = a
      · have z' := (if_pos hb).symm.trans z
        cases z'
        subst hb
        exact ⟨ha, by rw [List.length_map]; exact hl, vs, _, rv, ha⟩
      · have z' := (if_neg hb).symm.trans z
        cases z'
    · by_cases hb : b = a
      · exact hb
      · exact absurd (if_neg hb) z
  · obtain ⟨o, hk⟩ := Option.ne_none_iff_exists'.mp hk
    have e := KX a o hk
    rw [ha] at e
    have eo := Option.some.inj e
    subst eo
    exact core (fun _ => none) (fun _ => .inl rfl) (.inr ⟨_, vs.toArray, _, hk, rfl, rfl, rfl, by rw [List.size_toArray, ← rv.length, List.length_map]; exact hl, by simpa using rv⟩) (fun b u z => nomatch z) (fun b z => absurd rfl z) fun z => absurd rfl z
theorem walk_of {l : PySem.W.OpenLaw} {n k : Nat} {q : Program} {loose : List Str} {XP : (Str → Option Value) → Heap → Prop} {YP : World → Heap → Prop} {d : DefRec} {CX : CXT} {x : Str}
    (hn : l.most = some n) (hn2 : n ≤ sizeLine) (hdf : d.params.defaults = []) (hr : Room k callerA)
    (F : ∀ (w : World) (mg : Str → Option Value) (fa : Addr) (h : Heap), YP w h → h.Ns mainGlobals mg → mg d.name = some (.ref fa) →
      ∃ (K : PySem.W.Frag) (fd : FuncData) (sp : Sp), K.In h ∧ (∀ (s : Shared) (u : Value), BindsTo s fd ⟨[u], []⟩ [(x, u)]) ∧
        (∀ (H : Hp) (a : Addr) (ns : List Int), ns.length ≤ n → Only H → SqL K H a (ns.map V.int) → sp [.ref a] H (fun v _ => v = .bl true) fun _ _ _ => False) ∧
        ∀ base : Heap, K.In base → base.Ns mainGlobals mg → FnG l.prog w K mg base CX k fa fd [x] sp)
    (hCX : ∀ (H : Hp) (s : Shared) (e : Value) (s' : Shared), CX [] H s (fun _ _ _ => False) e s' → False) :
    PySem.W.WalkO q loose XP YP l.row.toRowW d [] (fun f vs => PySem.call f vs) := by
  refine Att.attach_call hn hdf fun w s₀ s₁ mg mb fa o pm cd doc a vs ns G Y ho hd hcd hmg hobj hints hlen hg => ?_
  obtain ⟨K, fd, sp, KX, hb, hsp, hF⟩ := F w mg fa _ Y G.T.g hmg
  exact law_call KX G.T.g G.T.b G.T.builtins G.T.nolimit hg hobj hints (Nat.le_trans hlen hn2) hr hF hb (fun H hO hS => hsp H a ns hlen hO hS) fun H e s' => hCX H s₁ e s'
end G

set_option Elab.async false
set_option linter.all false
set_option maxRecDepth 100000
set_option maxHeartbeats 1000000
/-! In a try's body: an instance made by keywords, a method called by keywords; what is raised is told with the slots as they stand. -/
namespace G
open PySem PySem.Spec PyProof.Rows L2
section
variable {X : Cx} {CX : CXT} {k n : Nat} {f C : Addr} {fd : FuncData} {ps ks : List Str} {sp : Sp} {x m : Str} {p pos apos : Pos} {e o : Expr} {es : List Expr} {kws : List Keyword} {ta : TE} {t tk : TA} {g : List Value → List Value → List Value} {gV : List V → List V → List V}
theorem run_makeS {E : XK} {pins : List (Addr × Obj)} {σ : L2.St} {H : Hp} {s : Shared} {Q : VK} {us ws : List Value} {vs zs : List V} (M : Mk X.K C f) (F : FnG X.prog X.w X.K X.mg X.base CX k f fd ps sp) (hr : Room (k + 1) X.A) (hG : Quiet X.A) (hb : KBn X.K fd ps (n + 1) ks g gV)
    (hx : PassesAt CX X σ E) (I : Inv X pins σ H s) (r : Vals vs us) (rz : Vals zs ws) (l1 : vs.length = n) (l2 : zs.length = ks.length)
    (h : ∀ x dx, H x = none → H dx = none → dx ≠ x → sp (gV (.ref x :: vs) zs) (upd (upd H dx (.own x)) x (.ins C dx [])) (fun v H2 => v = .non ∧ Q (.ref x) H2) E) :
    wpAny (model X.prog X.w) X.A (call (.ref C) us (ks.zip ws)) (EP X pins σ Q) X.xe s := by
  have hq := h (s.heap.objs.size + 1) s.heap.objs.size (I.hok.fresh (Nat.le_succ _)) (I.hok.fresh (Nat.le_refl _)) (Nat.ne_of_lt (Nat.lt_succ_self _))
  have I2 := Inv.made (C := C) I
  have r1 : Vals (V.ref (s.heap.objs.size + 1) :: vs) (Value.ref (s.heap.objs.size + 1) :: us) := .cons rfl r
  have r2 := hb.rel r1 rz
  have e1 : (Value.ref (s.heap.objs.size + 1) :: us).length = n + 1 := r1.length.symm.trans (congrArg Nat.succ l1)
  have e2 : ws.length = ks.length := rz.length.symm.trans l2
  refine wpAny_call (make_map (f := f) I.kIn M.makes M.init (beq_iff_eq.mp M.fn) (codeAny_mono (F.run _ X.stack _ _ ⟨Value.ref (s.heap.objs.size + 1) :: us, ks.zip ws⟩ (g (Value.ref (s.heap.objs.size + 1) :: us) ws) _ _ E (hr.make C us (ks.zip ws)) (quiet_make hG C us (ks.zip ws))
    (I2.env0.make C us (ks.zip ws)) (hb.to _ (Value.ref (s.heap.objs.size + 1) :: us) ws I2.kIn e1 e2) r2 hq) fun r s' hq' => ?_))
  match r, hq' with
  | .error e, hq' => exact hx pins _ _ e s' I2 hq'
  | .ok (.ret u), hq' =>
    obtain ⟨v, H', I3, rv, ev, q3⟩ := I2.after hq'
    subst ev
    exact ⟨rv, ⟨V.ref (s.heap.objs.size + 1), H', I3, rfl, q3⟩⟩
  | .ok .next, hq' => exact hq'.elim
  | .ok .brk, hq' => exact hq'.elim
  | .ok .cont, hq' => exact hq'.elim
def tMakeNS (C : Addr) (n m : Nat) (sp : Sp) (gV : List V → List V → List V) (E : L2.St → XK) (t tk : TA) : TE := fun σ H Q => t σ H fun vs H1 => tk σ H1 fun zs H2 => vs.length = n ∧ zs.length = m ∧
  ∀ x dx, H2 x = none → H2 dx = none → dx ≠ x → sp (gV (.ref x :: vs) zs) (upd (upd H2 dx (.own x)) x (.ins C dx [])) (fun v H3 => v = .non ∧ Q (.ref x) H3) (E σ)
theorem pe_makeNS {E : L2.St → XK} (M : Mk X.K C f) (F : FnG X.prog X.w X.K X.mg X.base CX k f fd ps sp) (hr : Room (k + 1) X.A) (hG : Quiet X.A) (hg : Gl X x) (hm : X.mg x = some (.ref C)) (hb : KBn X.K fd ps (n + 1) ks g gV) (hx : ∀ σ, PassesAt CX X σ (E σ))
    (ha : PA X (e :: es) t) (hkw : PK X kws tk) (hall : (backToKw pos (keywordEach kws X.env)).all (·.1.isSome) = true := by rfl) (hks : (backToKw pos (keywordEach kws X.env)).filterMap (·.1) = ks := by rfl)
    (hdb : (x == ("__debug__" : Str)) = false := by decide) (he : starEach (e :: es) X.env = (false, eval e X.env) :: starEach es X.env := by rfl)
    (hpl : ((backTo pos (starEach (e :: es) X.env)).any (·.1) || (backToKw pos (keywordEach kws X.env)).any (·.1.isNone)) = false := by rfl) :
    PE X (.Call (.Name x p) (e :: es) kws pos) (tMakeNS C n ks.length sp gV E t tk) := by
  refine ⟨fun pins s σ H Q I h => wpAny_Call_Name_kw (ld_glob I hg hm (PySem.W.callWith_KW (h₀ := X.base) I.ok.mod.kin M.kp hall (thn (ha.run pos pins s σ H _ I h) fun us s1 ⟨vs, H1, I1, r, q⟩ => ?_) hpl he) hdb)⟩
  refine thn (hkw.run pos pins s1 σ H1 _ I1 q) fun ws s2 ⟨zs, H2, I2, rz, l1, l2, q2⟩ => ⟨I2.kIn, ?_⟩
  rw [hks]
  exact run_makeS M F hr hG hb (hx σ) I2 r rz l1 l2 q2
/-- o.m(k = v, ..), by keywords alone -/
def tMethKS (C : Addr) (m : Str) (n : Nat) (sp : Sp) (gV : List V → List V → List V) (E : L2.St → XK) (ta : TE) (tk : TA) : TE := fun σ H Q => ta σ H fun x H1 => ∃ a dx fs, x = V.ref a ∧ H1 a = some (.ins C dx fs) ∧ fs.lookup m = none ∧
  tk σ H1 fun zs H2 => zs.length = n ∧ sp (gV [V.ref a] zs) H2 Q (E σ)
theorem pe_methKS {E : L2.St → XK} {pl : Sem Bool} (he : PE X o ta) (c : Cls X.K C) (hm : Meth X.K C m f) (F : FnG X.prog X.w X.K X.mg X.base CX k f fd ps sp) (hr : Room k X.A) (hG : Quiet X.A) (hb : KBn X.K fd ps 1 ks g gV) (hx : ∀ σ, PassesAt CX X σ (E σ))
    (hkw : PK X kws tk) (hall : (backToKw pos (keywordEach kws X.env)).all (·.1.isSome) = true := by rfl) (hks : (backToKw pos (keywordEach kws X.env)).filterMap (·.1) = ks := by rfl)
    (hpl : ((backTo pos (starEach [] X.env)).any (·.1) || (backToKw pos (keywordEach kws X.env)).any (·.1.isNone)) = false := by rfl)
    (ht : eval (.Call (.Attribute o m apos) [] kws pos) X.env = (do
      let ov ← eval o X.env
      standAt apos.atName
      let (f, first) ← holding [ov] (getMethod ov m pl)
      callWith pos f first (backTo pos (starEach [] X.env)) (backToKw pos (keywordEach kws X.env))) := by rfl) :
    PE X (.Call (.Attribute o m apos) [] kws pos) (tMethKS C m ks.length sp gV E ta tk) := by
  refine ⟨fun pins s σ H Q I h => PySem.W.methodCall_KW (pl := pl) (thn (he.run pins s σ H _ I h) fun u s1 ⟨x, H1, I1, rx, a, dx, fs, ex, ea, l, q⟩ => ?_) ht⟩
  subst ex
  obtain rfl : u = Value.ref a := rx
  refine getmeth_ok I1 ea c hm l (PySem.W.callWith_KW0 (h₀ := X.base) (first := [.ref a]) I.ok.mod.kin hm.kp hall (thn (hkw.run pos pins s1 σ H1 _ I1 q) fun ws s2 ⟨zs, H2, I2, rz, l2, q2⟩ => ⟨I2.kIn, ?_⟩) hpl)
  rw [hks]
  have r2 := hb.rel (vs := [V.ref a]) (us := [Value.ref a]) (.cons rfl .nil) rz
  have e2 : ws.length = ks.length := rz.length.symm.trans l2
  refine wpAny_call (codeAny_mono (F.run X.A X.stack s2 H2 ⟨[.ref a], ks.zip ws⟩ (g [.ref a] ws) _ Q (E σ) hr hG I2.env0 (hb.to _ [.ref a] ws I2.kIn rfl e2) r2 q2) fun r s' hq => ?_)
  match r, hq with
  | .error e, hq => exact hx σ pins H2 s2 e s' I2 hq
  | .ok (.ret u), hq => exact I2.after hq
  | .ok .next, hq => exact hq.elim
  | .ok .brk, hq => exact hq.elim
  | .ok .cont, hq => exact hq.elim
/-- all by position, then all keyword-only ones by their names -/
theorem kbn_all {K : PySem.W.Frag} {fd : FuncData} {ps ks : List Str} {n : Nat} (h : ∀ (s : Shared) (us ws : List Value), us.length = n → ws.length = ks.length → BindsTo s fd ⟨us, ks.zip ws⟩ (ps.zip (us ++ ws))) : KBn K fd ps n ks (fun us ws => us ++ ws) (fun vs zs => vs ++ zs) :=
  ⟨fun s us ws _ h1 h2 => h s us ws h1 h2, fun r1 r2 => r1.append r2⟩
end
end G

set_option Elab.async false
set_option linter.all false
set_option maxRecDepth 100000
set_option maxHeartbeats 4000000
/-! sorted(xs, key=f), f giving a text of each item: the items by their texts, those of one text as they stood. -/
namespace SK
open PySem PySem.Spec PyProof.Rows L2
/-- the order of texts, by code points -/
def ltS (x y : Str) : Bool := decide (x.cps.toList < y.cps.toList)
theorem swoS : SrtO.Swo ltS := by
  refine ⟨fun x y h => ?_, fun x y z h1 h2 => ?_⟩
  · have h' := of_decide_eq_true h
    exact decide_eq_false fun h2 => List.lt_asymm h' h2
  · have a := of_decide_eq_false h1
    have b := of_decide_eq_false h2
    exact decide_eq_false (List.not_lt.mpr (List.le_trans (List.not_lt.mp a) (List.not_lt.mp b)))
/-- items by the texts of their keys -/
def ltK (key : V → Str) (x y : V) : Bool := ltS (key x) (key y)
theorem swoK (key : V → Str) : SrtO.Swo (ltK key) := ⟨fun x y h => swoS.asym _ _ h, fun x y z h1 h2 => swoS.tr _ _ _ h1 h2⟩
/-- the value without its token -/
def back : Value → V
  | .bool b => .bl b
  | .int i _ => .int i
  | .str x _ => .str x
  | .bytes b _ => .byt b
  | .float b _ => .flt b
  | .ref a => .ref a
  | .type n => .ty n
  | _ => .non
theorem back_of {x : V} {u : Value} (r : L2.RelV x u) : back u = x := by
  cases x with
  | non => cases (show u = Value.none from r); rfl
  | bl b => cases (show u = Value.bool b from r); rfl
  | int i => obtain ⟨t, rfl⟩ := (show ∃ t, u = Value.int i t from r); rfl
  | str y => obtain ⟨t, rfl⟩ := (show ∃ t, u = Value.str y t from r); rfl
  | byt b => obtain ⟨t, rfl⟩ := (show ∃ t, u = Value.bytes b t from r); rfl
  | flt b => obtain ⟨t, rfl⟩ := (show ∃ t, u = Value.float b t from r); rfl
  | ref a => cases (show u = Value.ref a from r); rfl
  | ty n => cases (show u = Value.type n from r); rfl
theorem back_all : ∀ {xs : List V} {us : List Value}, Vals xs us → us.map back = xs
  | _, _, .nil => rfl
  | _, _, .cons r t => by rw [List.map_cons, back_of r, back_all t]
theorem rel_back : ∀ {xs : List V} {us : List Value}, Vals xs us → ∀ u ∈ us, L2.RelV (back u) u
  | _, _, .nil, u, h => absurd h List.not_mem_nil
  | _, _, .cons r t, u, h => by
    rcases List.mem_cons.mp h with rfl | h
    · rw [back_of r]; exact r
    · exact rel_back t u h
theorem vals_back : ∀ {us : List Value}, (∀ u ∈ us, L2.RelV (back u) u) → Vals (us.map back) us
  | [], _ => .nil
  | u :: us, h => .cons (h u List.mem_cons_self) (vals_back fun v hv => h v (List.mem_cons_of_mem _ hv))
end SK
namespace SK
open PySem PySem.Spec PyProof.Rows L2
section
variable {X : Cx} {pins : List (Addr × Obj)} {σ : L2.St} {H : Hp} {s : Shared}
/-- an object of ours that was not tracked is tracked from here on -/
theorem track {a : Addr} {o : HO} (I : Inv X pins σ H s) (f : FpOk X pins H a) (hz : X.s_0.heap.objs.size ≤ a) (new : ObjOk X.prog X.w (upd H a o) s.heap a o) : Inv X pins σ (upd H a o) s := by
  obtain ⟨f0, f1, _, _, f4, f5⟩ := f
  have old : ∀ {b : Addr} {u : HO}, H b = some u → upd H a o b = some u := fun {b u} e => by rw [upd_ne (ne_of_none e f0)]; exact e
  have small : ∀ {b : Addr} {u : Obj}, X.s_0.heap.get? b = some u → b ≠ a := fun {b u} e z => by
    have w := Heap.lt_size e
    rw [z] at w
    exact absurd hz (Nat.not_le.mpr w)
  refine ⟨I.ok, I.os, I.bare, ⟨I.base.keep, I.base.slot, fun b u e n hx => ?_, I.base.there, fun b xs e => old (I.base.tups b xs e), fun b u v e => old (I.base.frzs b u v e), fun b ps e => ?_⟩, I.loc, I.cell, ?_, fun x c e => ?_, fun p hp => ?_, fun b u e => ?_, I.len⟩
  · rw [upd_ne (small e)]
    exact I.base.free b u e n hx
  · obtain ⟨m, q⟩ := I.base.tbls b ps e
    exact ⟨m, old q⟩
  · rw [upd_ne (Ne.symm f1)]
    exact I.free
  · rw [upd_ne (f4 x c e)]
    exact I.freeC x c e
  · obtain ⟨e, n, r⟩ := I.pin p hp
    exact ⟨e, by rw [upd_ne (f5 p hp)]; exact n, r⟩
  · by_cases hb : b = a
    · subst hb
      rw [upd_same] at e
      cases e
      exact new
    · rw [upd_ne hb] at e
      exact (I.hok b u e).stay (fun _ _ _ q => q) (fun _ q => old q) fun _ _ q => old q
/-- an untracked object of ours changes -/
theorem turn {a : Addr} {h' : Heap} {t' : Nat} (I : Inv X pins σ H s) (f : FpOk X pins H a) (k : ∀ b o, b ≠ a → s.heap.get? b = some o → h'.get? b = some o) : Inv X pins σ H { s with heap := h', toks := t' } :=
  I.turned k f.1 f.2.1 f.2.2.2.1 f.2.2.2.2.1 f.2.2.2.2.2
/-- what is told of a pin: it may be turned, once it is no pin any more -/
theorem fp_pin {pins' : List (Addr × Obj)} {p : Addr × Obj} (I : Inv X pins' σ H s) (hp : p ∈ pins') (hz : X.s_0.heap.objs.size ≤ p.1) (hne : ∀ q ∈ X.pn ++ pins, q.1 ≠ p.1) : FpOk X pins H p.1 := by
  obtain ⟨e, n, l, fs, d⟩ := I.pin p (List.mem_append_right _ hp)
  refine ⟨n, l, fs, .inr hz, fun x c ec z => ?_, hne⟩
  obtain ⟨v, o, ho, hd⟩ := I.cell x c ec
  rw [z, e] at ho
  exact d v (by rw [Option.some.inj ho]; exact hd)
end
abbrev lsO (its : Array Value) (e : Nat) : Obj := seqObj "list" its e
theorem not_cell {its : Array Value} {e : Nat} : ∀ v, (lsO its e).data ≠ .cell v := fun v z => Data.noConfusion z
section
variable {X : Cx} {pins : List (Addr × Obj)} {σ : L2.St} {H : Hp} {xs : List V} {vs : List Value} {key : V → Str} {a kS e1 : Addr}
/-- the two lists of the sort, the items' and the keys', beside what was pinned -/
abbrev two (a kS : Addr) (e1 : Nat) (kA : Array Value) (e : Nat) (pins : List (Addr × Obj)) : List (Addr × Obj) := (kS, lsO kA e) :: (a, lsO #[] e1) :: pins
structure Ap (X : Cx) (pins : List (Addr × Obj)) (a kS : Addr) : Prop where
  ne : kS ≠ a
  za : X.s_0.heap.objs.size ≤ a
  zk : X.s_0.heap.objs.size ≤ kS
  na : ∀ q ∈ X.pn ++ pins, q.1 ≠ a
  nk : ∀ q ∈ X.pn ++ pins, q.1 ≠ kS
theorem Ap.nk2 (p : Ap X pins a kS) {o : Obj} : ∀ q ∈ X.pn ++ ((a, o) :: pins), q.1 ≠ kS := fun q hq => by
  rcases List.mem_append.mp hq with h | h
  · exact p.nk q (List.mem_append_left _ h)
  · rcases List.mem_cons.mp h with rfl | h
    · exact p.ne.symm
    · exact p.nk q (List.mem_append_right _ h)
/-- the keys' list is stored into -/
theorem put_keys {s : Shared} {kA kB : Array Value} {e e' t' : Nat} {h' : Heap} (p : Ap X pins a kS) (I : Inv X (two a kS e1 kA e pins) σ H s) (k : ∀ b o, b ≠ kS → s.heap.get? b = some o → h'.get? b = some o) (hk : h'.get? kS = some (lsO kB e')) :
    Inv X (two a kS e1 kB e' pins) σ H { s with heap := h', toks := t' } := by
  have f := fp_pin (pins := (a, lsO #[] e1) :: pins) (p := (kS, lsO kA e)) I List.mem_cons_self p.zk p.nk2
  have J : Inv X ((a, lsO #[] e1) :: pins) σ H s := I.pins_of fun q hq => I.pin q (List.mem_append_right _ (List.mem_cons_of_mem _ hq))
  have J2 := turn (t' := t') J f k
  refine J2.pins_of fun q hq => ?_
  rcases List.mem_cons.mp hq with rfl | hq
  · exact ⟨hk, f.1, f.2.1, f.2.2.1, not_cell⟩
  · exact J2.pin q (List.mem_append_right _ hq)
/-- the end: the keys are let go, the items laid in their order; the list is tracked -/
theorem tail_run {s : Shared} {keys : Array Value} {e : Nat} {st : SortSt} {A : Around} {E : Value → Shared → Prop} {P : PySem.Fin → Shared → Prop} (p : Ap X pins a kS) (I : Inv X (two a kS e1 keys e pins) σ H s) (hv : Vals xs vs) (hz : vs.length ≤ 1000) (hks : keys.size = vs.length)
    (hs : SrtO.Srtd (fun p q : Keyed => ltK key (back p.2) (back q.2)) (arrOf st).toList) (hb : SrtO.Stb (fun p q : Keyed => ltK key (back p.2) (back q.2)) (arrOf st).toList (keys.zip vs.toArray).toList) (hfl : failedOf st = none)
    (h : ∀ ys s', SrtO.Srtd (ltK key) ys → SrtO.Stb (ltK key) ys xs → Inv X pins σ (upd H a (.lst ys)) s' → P (.done (.ret .none)) s') : wpAny (model X.prog X.w) A (ksk_tail a false e1 (.ref kS) st) P E s := by
  obtain ⟨hp, g, d, t, os⟩ := s
  have nk := (I.pin (kS, lsO keys e) (List.mem_append_right _ List.mem_cons_self)).1
  have na := (I.pin (a, lsO #[] e1) (List.mem_append_right _ (List.mem_cons_of_mem _ List.mem_cons_self))).1
  have fk := fp_pin (pins := (a, lsO #[] e1) :: pins) (p := (kS, lsO keys e)) I List.mem_cons_self p.zk p.nk2
  have fa := fp_pin (pins := pins) (p := (a, lsO #[] e1)) I (List.mem_cons_of_mem _ List.mem_cons_self) p.za p.na
  have sz : (arrOf st).size = vs.length := by
    have q := hb.perm.length_eq
    rw [Array.length_toList, Array.length_toList, Array.size_zip, hks] at q
    have e9 : vs.toArray.size = vs.length := List.size_toArray
    rw [e9, Nat.min_self] at q
    exact q
  have out_sz : ((arrOf st).map (·.2)).size = vs.length := by rw [Array.size_map]; exact sz
  have big : (1000 : Nat) ≤ sizeLine := by rw [sizeLine_eq]; decide
  have s1 := Heap.SameBut.update hp kS (Obj.mapSeq fun _ => (#[] : Array Value))
  have na1 : (hp.update kS (Obj.mapSeq fun _ => (#[] : Array Value))).get? a = some (lsO #[] e1) := (s1.2 a p.ne.symm).trans na
  have s2 := Heap.SameBut.update (hp.update kS (Obj.mapSeq fun _ => (#[] : Array Value))) a (Obj.mapSeq fun _ => (arrOf st).map (·.2))
  obtain ⟨c2, hc2⟩ : ∃ c2, ((hp.update kS (Obj.mapSeq fun _ => (#[] : Array Value))).update a (Obj.mapSeq fun _ => (arrOf st).map (·.2))).get? a = some (lsO ((arrOf st).map (·.2)) c2) := ⟨_, get?_update_seq na1 fun _ => (arrOf st).map (·.2)⟩
  have zipP : ∀ q ∈ (keys.zip vs.toArray).toList, q.2 ∈ vs := fun q hq => by
    rw [PyProof.Rows.ksk_zip] at hq
    exact (List.of_mem_zip (a := q.1) (b := q.2) hq).2
  have zipM : (keys.zip vs.toArray).toList.map (fun q : Keyed => back q.2) = xs := by
    rw [PyProof.Rows.ksk_zip, ← back_all hv]
    have e3 : (keys.toList.zip vs).map Prod.snd = vs := List.map_snd_zip (by rw [Array.length_toList]; exact Nat.le_of_eq hks.symm)
    have e4 : (keys.toList.zip vs).map (fun q : Keyed => back q.2) = ((keys.toList.zip vs).map Prod.snd).map back := by rw [List.map_map]; rfl
    rw [e4, e3]
  unfold ksk_tail
  try dsimp only
  refine wpAny_bind (listUpdate_at nk rfl ?_ (by rw [hks]; omega) (Nat.zero_le _))
  refine wpAny_bind (wpAny_letGo ?_)
  refine wpAny_bind (seqEpoch_at na1 rfl ?_)
  refine wpAny_bind (listUpdate_at na1 rfl ?_ (Nat.zero_le _) (by show ((arrOf st).map (·.2)).size ≤ _; rw [out_sz]; omega))
  rw [hfl]
  simp only [bne_self_eq_false, Bool.false_eq_true, if_false]
  refine wpAny_pure (h ((arrOf st).toList.map fun q => back q.2) _ (SrtO.srtd_map hs) ?_ ?_)
  · have q := SrtO.Stb.map (swoK key) (fun q : Keyed => back q.2) hb
    rw [zipM] at q
    exact q
  · have J : Inv X ((a, lsO #[] e1) :: pins) σ H ⟨hp, g, d, t, os⟩ := I.pins_of fun q hq => I.pin q (List.mem_append_right _ (List.mem_cons_of_mem _ hq))
    have J1 : Inv X ((a, lsO #[] e1) :: pins) σ H ⟨hp.update kS (Obj.mapSeq fun _ => (#[] : Array Value)), g, d, t, os⟩ := turn (t' := t) J fk fun b o hb q => (s1.2 b hb).trans q
    have J2 : Inv X pins σ H ⟨hp.update kS (Obj.mapSeq fun _ => (#[] : Array Value)), g, d, t, os⟩ := J1.pins_of fun q hq => J1.pin q (List.mem_append_right _ (List.mem_cons_of_mem _ hq))
    have J3 : Inv X pins σ H ⟨(hp.update kS (Obj.mapSeq fun _ => (#[] : Array Value))).update a (Obj.mapSeq fun _ => (arrOf st).map (·.2)), g, d, t, os⟩ := turn (t' := t) J2 fa fun b o hb q => (s2.2 b hb).trans q
    refine track J3 fa p.za ⟨?_, ((arrOf st).map (·.2)).toList, c2, ?_, ?_⟩
    · rw [List.length_map, Array.length_toList, sz]
      omega
    · have e5 : (arrOf st).toList.map (fun q : Keyed => back q.2) = ((arrOf st).map (·.2)).toList.map back := by rw [Array.toList_map, List.map_map]; rfl
      rw [e5]
      refine vals_back fun u hu => ?_
      rw [Array.toList_map] at hu
      obtain ⟨q, hq, rfl⟩ := List.mem_map.mp hu
      exact rel_back hv _ (zipP q (hb.perm.mem_iff.mp hq))
    · rw [Array.toArray_toList]
      exact hc2
end
end SK

set_option Elab.async false
set_option linter.all false
set_option maxRecDepth 100000
set_option maxHeartbeats 4000000
namespace SK
open PySem PySem.Spec PyProof.Rows L2
/-- the keys of items, by values -/
abbrev kV (key : V → Str) (xs : List V) : List V := xs.map fun x => .str (key x)
theorem strs_of : ∀ {ss : List Str} {us : List Value}, Vals (ss.map V.str) us → StrsAre us ss
  | [], _, .nil => .nil
  | x :: ss, _, .cons r t => by
    obtain ⟨k, rfl⟩ : ∃ t, _ = Value.str x t := r
    exact .cons x k (strs_of t)
theorem strs_key {key : V → Str} {xs : List V} {us : List Value} (h : Vals (kV key xs) us) : StrsAre us (xs.map key) := by
  refine strs_of ?_
  rw [List.map_map]
  exact h
/-- each key beside its item is the text of that item -/
theorem zip_keys {key : V → Str} : ∀ {xs : List V} {vs ks : List Value}, Vals xs vs → Vals (kV key xs) ks → ∀ p ∈ ks.zip vs, ∃ t, p.1 = Value.str (key (back p.2)) t
  | _, _, _, .nil, .nil, p, h => absurd h List.not_mem_nil
  | _, _, _, .cons r t, .cons r' t', p, h => by
    rcases List.mem_cons.mp h with rfl | h
    · obtain ⟨k, e⟩ := r'
      exact ⟨k, by rw [back_of r]; exact e⟩
    · exact zip_keys t t' p h
theorem at_ : ∀ {xs : List V} {vs : List Value} {i : Nat} {u : Value}, Vals xs vs → vs[i]? = some u → ∃ x, xs[i]? = some x ∧ L2.RelV x u
  | _, _, 0, _, .cons r t, h => by
    obtain rfl := Option.some.inj h
    exact ⟨_, rfl, r⟩
  | _, _, i + 1, _, .cons r t, h => at_ (i := i) t h
theorem kV_snoc {key : V → Str} {xs : List V} {us : List Value} {x : V} {t : Tok} (h : Vals (kV key xs) us) : Vals (kV key (xs ++ [x])) (us ++ [.str (key x) t]) := by
  show Vals ((xs ++ [x]).map _) _
  rw [List.map_append]
  exact h.append (.cons ⟨t, rfl⟩ .nil)
section
variable {X : Cx} {pins : List (Addr × Obj)} {σ : L2.St} {H : Hp} {xs : List V} {vs : List Value} {key : V → Str} {a kS e1 : Addr} {A : Around} {E : Value → Shared → Prop} {P : PySem.Fin → Shared → Prop}
theorem key_cmp {s : Shared} : SrtO.Cmp X.prog X.w A s oneType' (fun p : Keyed => ∃ t, p.1 = Value.str (key (back p.2)) t) (fun p q : Keyed => ltK key (back p.2) (back q.2)) := by
  intro p q hp hq
  obtain ⟨p1, p2⟩ := p
  obtain ⟨q1, q2⟩ := q
  obtain ⟨t, hp⟩ := hp
  obtain ⟨t', hq⟩ := hq
  have hp' : p1 = Value.str (key (back p2)) t := hp
  have hq' : q1 = Value.str (key (back q2)) t' := hq
  show wpAny _ _ (keyLt' oneType' p1 q1) _ _ _
  rw [hp', hq', keyLt'_oneType]
  exact oneLt_str ⟨rfl, rfl⟩
theorem end_run {s : Shared} {keys : Array Value} {e : Nat} (p : Ap X pins a kS) (I : Inv X (two a kS e1 keys e pins) σ H s) (hv : Vals xs vs) (hz : vs.length ≤ 1000) (hk : Vals (kV key xs) keys.toList)
    (h : ∀ ys s', SrtO.Srtd (ltK key) ys → SrtO.Stb (ltK key) ys xs → Inv X pins σ (upd H a (.lst ys)) s' → P (.done (.ret .none)) s') : wpAny (model X.prog X.w) A (ksk_end a false vs.toArray e1 (.ref kS) keys) P E s := by
  have hks : keys.size = vs.length := by
    have q := hk.length
    have q2 : (kV key xs).length = xs.length := List.length_map ..
    have q3 : keys.toList.length = keys.size := Array.length_toList
    have q4 := hv.length
    omega
  have e9 : vs.toArray.size = vs.length := List.size_toArray
  have hzs : (keys.zip vs.toArray).size = vs.length := by rw [Array.size_zip, hks, e9, Nat.min_self]
  have hall : ∀ p ∈ (keys.zip vs.toArray).toList, ∃ t, p.1 = Value.str (key (back p.2)) t := by
    rw [ksk_zip]
    exact zip_keys hv hk
  unfold ksk_end
  try dsimp only
  rw [if_neg (by decide)]
  by_cases h2 : vs.toArray.size < 2
  · rw [if_pos h2, if_pos h2]
    refine wpAny_bind (wpAny_pure ?_)
    rw [StateT.run_pure]
    refine wpAny_bind (wpAny_pure ?_)
    try dsimp only
    refine tail_run (key := key) p I hv hz hks ?_ (SrtO.Stb.refl _) rfl h
    show SrtO.Srtd _ (keys.zip vs.toArray).toList
    have hl : (keys.zip vs.toArray).toList.length < 2 := by rw [Array.length_toList, hzs, ← e9]; exact h2
    match (keys.zip vs.toArray).toList, hl with
    | [], _ => exact List.Pairwise.nil
    | [v], _ => exact List.pairwise_singleton _ _
  · rw [if_neg h2, if_neg h2]
    rw [e9] at h2
    have hkind : keyKind' keys = pure oneType' := by
      have hS := strs_key hk
      have hl : 2 ≤ keys.toList.length := by rw [Array.length_toList, hks]; omega
      have ek : keys = keys.toList.toArray := by rw [Array.toArray_toList]
      rw [ek]
      match keys.toList, hS, hl with
      | v1 :: v2 :: rest, hS, _ => exact keyKind_strs hS
      | [], _, h => exact absurd h (by decide)
      | [v], _, h => exact absurd h (by simp)
    rw [hkind]
    refine wpAny_bind (wpAny_pure ?_)
    refine wpAny_bind (wpAny_mono (SrtO.wpS_sortO (st0 := SortSt.mk' oneType' (keys.zip vs.toArray) #[] 7 none)
      (Q := fun _ st' => SrtO.Srtd (fun p q : Keyed => ltK key (back p.2) (back q.2)) (arrOf st').toList ∧ SrtO.Stb (fun p q : Keyed => ltK key (back p.2) (back q.2)) (arrOf st').toList (keys.zip vs.toArray).toList ∧ failedOf st' = none)
      (lt := fun p q : Keyed => ltK key (back p.2) (back q.2)) ⟨fun x y h => (swoK key).asym _ _ h, fun x y z h1 h2 => (swoK key).tr _ _ _ h1 h2⟩ key_cmp rfl hall rfl rfl fun st' a1 a2 a3 => ⟨a1, a2, a3⟩) ?_ fun _ _ e => e)
    rintro ⟨⟨⟩, st'⟩ s' ⟨rfl, h1, h3, hf⟩
    try dsimp only
    exact tail_run p I hv hz hks h1 h3 hf h
/-- a key is asked -/
def Turn (X : Cx) (A : Around) (σ : L2.St) (H : Hp) (key : V → Str) (xs : List V) (f : Value) : Prop :=
  ∀ (pins : List (Addr × Obj)) (s : Shared) (x : V) (v : Value), x ∈ xs → L2.RelV x v → Inv X pins σ H s → wpAny (model X.prog X.w) A (call f [v]) (fun r s' => (∃ t, r = Value.str (key x) t) ∧ Inv X pins σ H s') (fun _ _ => False) s
theorem rest_run {s : Shared} {f : Value} (p : Ap X pins a kS) (I : Inv X (two a kS e1 #[] 0 pins) σ H s) (hv : Vals xs vs) (hz : vs.length ≤ 1000) (ht : Turn X A σ H key xs f)
    (h : ∀ ys s', SrtO.Srtd (ltK key) ys → SrtO.Stb (ltK key) ys xs → Inv X pins σ (upd H a (.lst ys)) s' → P (.done (.ret .none)) s') : wpAny (model X.prog X.w) A (ksk_rest a f false vs.toArray e1 (.ref kS)) P E s := by
  have big : (1001 : Nat) ≤ sizeLine := by rw [sizeLine_eq]; decide
  unfold ksk_rest
  refine wpAny_bind (wpAny_rule ?_)
  first
    | rw [List.forIn_toArray]
    | (rw [← Array.forIn_toList]; simp only [List.toList_toArray])
    | rw [← Array.forIn_toList]
  refine wpAny_bind (ksk_fold (fun i s' => ∃ kA e, Inv X (two a kS e1 kA e pins) σ H s' ∧ Vals (kV key (xs.take i)) kA.toList) vs 0 s ⟨#[], 0, I, by simpa using (Paired.nil : Vals [] [])⟩ ?step ?done)
  case step =>
    rintro j u s' hx ⟨kA, e, I', hk⟩
    simp only [Nat.zero_add] at hk ⊢
    obtain ⟨x, hxj, rx⟩ := at_ hv hx
    have hlt : j < vs.length := (List.getElem?_eq_some_iff.mp hx).1
    have hz2 : kA.size ≤ vs.length := by
      have q := hk.length
      have q2 : (kV key (xs.take j)).length = (xs.take j).length := List.length_map ..
      have q3 : kA.toList.length = kA.size := Array.length_toList
      have q4 : (xs.take j).length ≤ j := by rw [List.length_take]; omega
      omega
    refine wpAny_bind (wpAny_attempt (wpAny_mono (ht _ _ x u (List.mem_of_getElem? hxj) rx I') (fun r s'' he => ?_) fun _ _ hF => hF.elim))
    obtain ⟨⟨t, rfl⟩, I2⟩ := he
    try dsimp only
    obtain ⟨hp, g, d, tk, os⟩ := s''
    have nk := (I2.pin (kS, lsO kA e) (List.mem_append_right _ List.mem_cons_self)).1
    have s1 := Heap.SameBut.update hp kS (Obj.mapSeq (·.push (.str (key x) t)))
    obtain ⟨c2, hc2⟩ : ∃ c2, (hp.update kS (Obj.mapSeq (·.push (.str (key x) t)))).get? kS = some (lsO (kA.push (.str (key x) t)) c2) := ⟨_, get?_update_seq nk (·.push (.str (key x) t))⟩
    have et : xs.take (j + 1) = xs.take j ++ [x] := by rw [List.take_add_one, hxj]; simp
    have ea : (kA.push (Value.str (key x) t)).toList = kA.toList ++ [Value.str (key x) t] := by simp
    refine wpAny_bind (listUpdate_at nk rfl ?_ (by omega) (Nat.le_trans (Nat.le_of_eq (Array.size_push ..)) (by omega)))
    refine wpAny_pure ⟨rfl, kA.push (.str (key x) t), c2, put_keys (t' := tk) p I2 (fun b o hb q => (s1.2 b hb).trans q) hc2, ?_⟩
    rw [et, ea]
    exact kV_snoc hk
  case done =>
    rintro s' ⟨kA, e, I', hk⟩
    have e3 : xs.take (0 + vs.length) = xs := List.take_of_length_le (by rw [hv.length]; omega)
    rw [e3] at hk
    have nk := (I'.pin (kS, lsO kA e) (List.mem_append_right _ List.mem_cons_self)).1
    try dsimp only
    refine wpAny_bind (listItems_at nk rfl ?_)
    exact end_run p I' hv hz hk h
end
end SK

set_option Elab.async false
set_option linter.all false
set_option maxRecDepth 100000
set_option maxHeartbeats 4000000
/-! A set of tuples of texts, numbers and such tuples: searched, put into, laid anew. -/
namespace NS
open PySem PySem.Spec PyProof.Rows L2
section
variable {P : Program} {w : World} {A : Around} {E : Value → Shared → Prop} {s : Shared}
theorem all_mem {h : Heap} {n : Nat} : ∀ (ks : List NestedKey) (vs : List Value), NestedAll h ks vs → NestedKey.depthAll ks ≤ n → ∀ v ∈ vs, ∃ k, NestedIs h k v ∧ k.depth ≤ n
  | [], _, .nil, _, v, hv => absurd hv List.not_mem_nil
  | k :: ks, _, .cons h1 h2, hd, v, hv => by
    have hd' : max (NestedKey.depth k) (NestedKey.depthAll ks) ≤ n := hd
    rcases List.mem_cons.mp hv with rfl | hv
    · exact ⟨k, h1, by omega⟩
    · exact all_mem ks _ h2 (by omega) v hv
/-- a loop that would stop early at an item that answers b, where none does -/
theorem loop_no {f : Value → (Option Bool × Unit) → Sem (ForInStep ((Option Bool × Unit)))} {Q : (Option Bool × Unit) → Shared → Prop} (vs : List Value)
    (step : ∀ v ∈ vs, ∀ (R : ForInStep ((Option Bool × Unit)) → Shared → Prop), R (.yield (none, ())) s → wpAny (model P w) A (f v (none, ())) R E s) (h : Q (none, ()) s) : wpAny (model P w) A (forIn vs ((none, ()) : (Option Bool × Unit)) f) Q E s := by
  induction vs with
  | nil =>
    rw [List.forIn_nil]
    exact wpAny_pure h
  | cons v vs ih =>
    rw [List.forIn_cons]
    exact wpAny_bind (step v List.mem_cons_self _ (ih fun u hu => step u (List.mem_cons_of_mem _ hu)))
theorem cls_no : ∀ (n : Nat) (k : NestedKey) (v : Value) (A : Around) (E : Value → Shared → Prop) (Q : Bool → Shared → Prop), NestedIs s.heap k v → k.depth ≤ n → Q false s → wpAny (model P w) A (ofAClassStatement n v) Q E s := by
  intro n
  induction n with
  | zero =>
    intro k v A E Q hk hd h
    cases hk with
    | none => exact wpAny_pure h
    | bool _ => exact wpAny_pure h
    | int i t => exact wpAny_pure h
    | text x t => exact wpAny_pure h
    | tup ho hc hs ha => exact absurd hd (Nat.not_succ_le_zero _)
  | succ n ih =>
    intro k v A E Q hk hd h
    cases hk with
    | none => exact wpAny_pure h
    | bool _ => exact wpAny_pure h
    | int i t => exact wpAny_pure h
    | text x t => exact wpAny_pure h
    | tup ho hc hs ha =>
      rename_i a o items m ks
      have hd' : NestedKey.depthAll ks ≤ n := Nat.le_of_succ_le_succ hd
      unfold ofAClassStatement
      refine wpAny_bind (wpAny_typeOf (T := "tuple") ⟨o, ho, hc⟩ ?_)
      dsimp only
      have e : (("tuple" : String) == "tuple") = true := by decide
      simp only [e, if_true, Bool.not_true, Bool.false_eq_true, if_false]
      try refine wpAny_bind (wpAny_pure ?_)
      try simp only [Bool.not_true, Bool.false_eq_true, if_false]
      show wpAny _ _ (seqItems? (.ref a) >>= _) _ _ s
      refine wpAny_bind (wpAny_seqItems ho hs ?_)
      dsimp only
      refine wpAny_bind ?_
      show wpAny _ _ (forIn items _ _) _ _ s
      rw [← Array.forIn_toList]
      refine loop_no items.toList (fun v hv R hR => ?_) ?_
      · obtain ⟨k', h1, h2⟩ := all_mem ks _ ha hd' v hv
        refine wpAny_bind (ih k' v _ _ _ h1 h2 ?_)
        simp only [Bool.false_eq_true, if_false]
        exact wpAny_pure hR
      · exact wpAny_pure h
theorem hash_told : ∀ (n : Nat) (k : NestedKey) (v : Value) (A : Around) (E : Value → Shared → Prop) (Q : Bool → Shared → Prop), NestedIs s.heap k v → (∀ b, Q b s) → wpAny (model P w) A (hashByValue n v) Q E s := by
  intro n
  induction n with
  | zero =>
    intro k v A E Q hk h
    cases hk with
    | none => exact wpAny_pure (h _)
    | bool _ => exact wpAny_pure (h _)
    | int i t => exact wpAny_pure (h _)
    | text x t => exact wpAny_pure (h _)
    | tup ho hc hs ha => exact wpAny_pure (h _)
  | succ n ih =>
    intro k v A E Q hk h
    cases hk with
    | none => exact wpAny_pure (h _)
    | bool _ => exact wpAny_pure (h _)
    | int i t => exact wpAny_pure (h _)
    | text x t => exact wpAny_pure (h _)
    | tup ho hc hs ha =>
      rename_i a o items m ks
      unfold hashByValue
      refine wpAny_bind (wpAny_specialOf ⟨o, ho, hc⟩ F.slot_tuple_hash.lookup ?_)
      show wpAny _ _ (seqItems? (.ref a) >>= _) _ _ s
      refine wpAny_bind (wpAny_seqItems ho hs ?_)
      refine wpAny_bind ?_
      show wpAny _ _ (forIn items _ _) _ _ s
      rw [← Array.forIn_toList]
      have key : ∀ (vs : List Value), (∀ v ∈ vs, ∃ k, NestedIs s.heap k v) → ∀ (R : (Option Bool × Unit) → Shared → Prop), (∀ o, R (o, ()) s) →
          wpAny (model P w) A (forIn vs ((none, ()) : (Option Bool × Unit)) fun x r => do
            let __do_lift ← hashByValue n x
            if (!__do_lift) = true then pure (ForInStep.done (some false, ())) else pure (ForInStep.yield (none, ()))) R E s := by
        intro vs
        induction vs with
        | nil =>
          intro _ R hR
          rw [List.forIn_nil]
          exact wpAny_pure (hR _)
        | cons v vs ih2 =>
          intro hv R hR
          rw [List.forIn_cons]
          obtain ⟨k', hk'⟩ := hv v List.mem_cons_self
          refine wpAny_bind (wpAny_bind (ih k' v _ _ _ hk' fun b => ?_))
          cases b with
          | false =>
            simp only [Bool.not_false, if_true]
            exact wpAny_pure (wpAny_pure (hR _))
          | true =>
            simp only [Bool.not_true, Bool.false_eq_true, if_false]
            exact wpAny_pure (ih2 (fun u hu => hv u (List.mem_cons_of_mem _ hu)) R hR)
      refine key items.toList (fun v hv => ?_) _ fun o => ?_
      · obtain ⟨k', h1, _⟩ := all_mem ks _ ha (Nat.le_refl _) v hv
        exact ⟨k', h1⟩
      · cases o with
        | none => exact wpAny_pure (h _)
        | some b => exact wpAny_pure (h _)
/-- a tuple at an address, not too deep -/
def At (h : Heap) (k : NestedKey) (a : Addr) : Prop := NestedIs h k (.ref a) ∧ k.depth ≤ 8
theorem seen_no {k : NestedKey} {b : Addr} {ys : List Value} {Q : Bool → Shared → Prop} (hk : At s.heap k b) (hy : ∀ y ∈ ys, ∃ k' c, y = Value.ref c ∧ At s.heap k' c) (h : Q false s) :
    wpAny (model P w) A (searchCouldBeSeen (.ref b) ys) Q E s := by
  unfold searchCouldBeSeen
  refine wpAny_bind ?_
  refine loop_no ys (fun v hv R hR => ?_) ?_
  · obtain ⟨k', c, rfl, hc⟩ := hy v hv
    dsimp only
    by_cases hv : (b == c || (carriedByValue (.ref b) && carriedByValue (.ref c))) = true
    · exact wp_if_pos hv (wpAny_pure hR)
    · refine wp_if_neg hv ?_
      refine wpAny_bind (quiet_key k _ 8 s hk.1 hk.2 _ _ _ ?_)
      simp only [Bool.not_true, Bool.false_eq_true, if_false]
      refine wpAny_bind (quiet_key k' _ 8 s hc.1 hc.2 _ _ _ ?_)
      simp only [Bool.not_true, Bool.false_eq_true, if_false]
      refine wpAny_bind (cls_no 8 k _ _ _ _ hk.1 hk.2 ?_)
      simp only [Bool.false_eq_true, if_false]
      refine wpAny_bind (cls_no 8 k' _ _ _ _ hc.1 hc.2 ?_)
      simp only [Bool.false_eq_true, if_false]
      exact wpAny_pure hR
  · exact wpAny_pure h
end
end NS

set_option Elab.async false
set_option linter.all false
set_option maxRecDepth 100000
set_option maxHeartbeats 4000000
namespace NS
open PySem PySem.Spec PyProof.Rows L2
/-- what the table holds for some items -/
def ent (w : World) (p : Addr × NestedKey) : Int × Value := (p.2.hash w, .ref p.1)
abbrev hs (w : World) (L : List (Addr × NestedKey)) : List Int := L.map fun p => p.2.hash w
structure Tab (w : World) (h : Heap) (a : Addr) (L : List (Addr × NestedKey)) (es : Array (Int × Value)) (ep : Nat) (t : SetTable) : Prop where
  ob : ∃ o, h.get? a = some o ∧ o.ExactSet ∧ o.data = .set es ep t
  rows : es.toList = L.map (ent w)
  ok : TabOk t (hs w L)
  nd : (L.map (·.2)).Nodup
  at_ : ∀ p ∈ L, At h p.2 p.1
  led : w.params.followText "set-order" = true ∨ t.led = true
  room : L.length * 5 < t.mask * 3
  few : L.length < 64
section
variable {P : Program} {w : World} {A : Around} {E : Value → Shared → Prop} {s : Shared} {a : Addr} {L : List (Addr × NestedKey)} {es : Array (Int × Value)} {ep : Nat} {t : SetTable} {k : NestedKey} {x : Addr}
theorem rows_size {L : List (Addr × NestedKey)} {es : Array (Int × Value)} (h : es.toList = L.map (ent w)) : es.size = L.length := by
  have q := congrArg List.length h
  rwa [Array.length_toList, List.length_map] at q
theorem rows_at {L : List (Addr × NestedKey)} {es : Array (Int × Value)} (h : es.toList = L.map (ent w)) {i : Nat} {p : Addr × NestedKey} (hp : L[i]? = some p) : es[i]? = some (ent w p) := by
  rw [← Array.getElem?_toList, h, List.getElem?_map, hp]
  rfl
theorem place_size (ok : TabOk t (hs w L)) : t.place.size = L.length := by
  have q := ok.sz
  rwa [List.length_map] at q
theorem fits_of {n : Nat} (hd : t.dummies = #[]) (h1 : t.place.size = n) (h2 : n ≤ t.mask) : t.fits n = true := by
  unfold SetTable.fits SetTable.fill
  rw [hd, Bool.and_eq_true, beq_iff_eq, decide_eq_true_eq]
  show t.place.size = n ∧ t.place.size + 0 ≤ t.mask
  omega
theorem Tab.fits (R : Tab w s.heap a L es ep t) : t.fits es.size = true := by
  have h1 := rows_size R.rows
  have h2 := R.room
  rw [h1]
  exact fits_of R.ok.dm (place_size R.ok) (by omega)
theorem Tab.state (R : Tab w s.heap a L es ep t) {Q : (Array (Int × Value) × Nat × SetTable) → Shared → Prop} (h : Q (es, ep, t) s) : wpAny (model P w) A (setState a) Q E s := by
  obtain ⟨o, ho, _, hd⟩ := R.ob
  exact wpAny_setState_of ho hd R.fits h
/-- the c-th step of the way of a hash -/
abbrev stepAt (t : SetTable) (h : Int) (c : Nat) : SetTable.Probe := nth t.mask (runAt t.mask (SetTable.bits h % (t.mask + 1)) (SetTable.bits h)) c
theorem no_dummy (m : Nat) : ∀ (n : Nat) (p : SetTable.Probe), p.dummy = none → (nth m p n).dummy = none
  | 0, _, h => h
  | n + 1, p, h => no_dummy m n (adv m p) (by unfold adv; split <;> exact h)
theorem step_add (t : SetTable) (h : Int) (c q : Nat) : nth t.mask (stepAt t h c) q = stepAt t h (c + q) := (nth_add t.mask c _ q).symm
/-- an item is searched for, from the c-th step on: K is the first empty place of its way -/
theorem search_step (R : Tab w s.heap a L es ep t) (hx : At s.heap k x) (hu : A.units + 8 < cLine) {K : Nat} (hKf : K < 10 * SetTable.turns t.mask) (hK : way t.mask (k.hash w) K ∉ t.place.toList) (hKb : ∀ c, c < K → way t.mask (k.hash w) c ∈ t.place.toList)
    {Q : SetFound → Shared → Prop} (hin : k ∈ L.map (·.2) → Q (.there none) s) (hout : k ∉ L.map (·.2) → Q (.free (way t.mask (k.hash w) K) false) s) : ∀ (f c : Nat) (stand : Option SetTable.Probe),
    stand.getD (t.probeStart (k.hash w)) = stepAt t (k.hash w) c → c ≤ K → K - c < f → (∀ (i : Nat) p, L[i]? = some p → p.2 = k → ∃ d, c ≤ d ∧ d < K ∧ t.place.toList[i]? = some (way t.mask (k.hash w) d)) →
    wpAny (model P w) A (setSearchFrom a (.ref x) (k.hash w) true f stand) Q E s := by
  intro f
  induction f with
  | zero => intro c stand _ _ hf; exact absurd hf (Nat.not_lt_zero _)
  | succ f ih =>
    intro c stand hst hc hf ahead
    have toJ : ∀ q, (nth t.mask (stepAt t (k.hash w) c) q).j = way t.mask (k.hash w) (c + q) := fun q => congrArg SetTable.Probe.j (step_add t _ c q)
    have hashed : ∀ (i : Nat) p, L[i]? = some p → (es[i]?.map (·.1)).getD 0 = p.2.hash w := fun i p hp => by rw [rows_at R.rows hp]; rfl
    have seen := go_spec t R.ok.ris R.ok.dm (fun i => (es[i]?.map (·.1)).getD 0) (k.hash w) (10 * SetTable.turns t.mask) (K - c) (stepAt t (k.hash w) c) (no_dummy _ _ _ rfl) (by omega)
      (fun q hq => by rw [toJ]; exact hKb _ (by omega)) (by rw [toJ, Nat.add_sub_cancel' hc]; exact hK)
    rw [setSearchFrom_succ]
    refine wpAny_bind (R.state ?_)
    dsimp only
    have sound : ¬ t.gaveWay = true := by
      unfold SetTable.gaveWay
      rw [mask_odd R.ok.mok]
      decide
    refine wp_if_neg sound ?_
    try refine wpAny_bind (wpAny_pure ?_)
    rw [hst]
    rcases seen with ⟨q, i, hq, hi, hh, none_before, met⟩ | ⟨none_before, met⟩
    · have met' : t.probe (fun i => (es[i]?.map (·.1)).getD 0) (k.hash w) (stepAt t (k.hash w) c) = some (.candidate (way t.mask (k.hash w) (c + q)) i (stepAt t (k.hash w) (c + (q + 1)))) := by
        rw [← toJ, ← step_add]
        exact met
      rw [met']
      dsimp only
      rw [toJ] at hi
      have hil : i < L.length := by
        have h1 : i < t.place.toList.length := (List.getElem?_eq_some_iff.mp hi).1
        rw [Array.length_toList, place_size R.ok] at h1
        exact h1
      obtain ⟨p, hp⟩ : ∃ p, L[i]? = some p := ⟨_, List.getElem?_eq_getElem hil⟩
      have hm : p ∈ L := List.mem_of_getElem? hp
      have slot : t.slot (way t.mask (k.hash w) (c + q)) = .live i := slot_live R.ok.ris hi
      have asked : wpAny (model P w) A (searchRest a (.ref x) (k.hash w) true f es t (way t.mask (k.hash w) (c + q)) i (stepAt t (k.hash w) (c + (q + 1)))) Q E s := by
        unfold searchRest
        rw [rows_at R.rows hp]
        dsimp only [ent]
        have hpx := R.at_ p hm
        have du : A.units + min p.2.depth k.depth < cLine := by
          have := hx.2
          omega
        refine wpAny_bind (wpAny_holding (eqAt_key p.2 k A s _ _ hpx.1 hx.1 du _ _ _ _ ?_))
        refine wpAny_bind (R.state ?_)
        dsimp only
        by_cases same : p.2 = k
        · refine wp_if_pos (by rw [same, NestedKey.beq_self]; rfl) ?_
          exact wpAny_pure (hin (List.mem_map.mpr ⟨p, hm, same⟩))
        · have nb : NestedKey.beq p.2 k = false := by
            cases z : NestedKey.beq p.2 k with
            | false => rfl
            | true => exact absurd (NestedKey.eq_of_beq _ _ z) same
          refine wp_if_neg (by rw [nb]; decide) ?_
          try refine wpAny_bind (wpAny_pure ?_)
          rw [sameMem]
          dsimp only
          simp only [if_true, slot, rows_at R.rows hp, ent]
          refine wpAny_bind (wpAny_isSame_ref_self (wpAny_bind (wpAny_pure ?_)))
          simp only [if_true]
          refine wp_if_neg (by rw [nb]; decide) ?_
          refine ih (c + (q + 1)) _ rfl (by omega) (by omega) fun i0 p0 h0 e0 => ?_
          obtain ⟨d, a1, a2, a3⟩ := ahead i0 p0 h0 e0
          have hne : ¬ d < c + q := fun z => none_before (d - c) i0 (by omega) (by rw [toJ, Nat.add_sub_cancel' a1]; exact a3) ((hashed i0 p0 h0).trans (by rw [e0]))
          have hne2 : d ≠ c + q := fun z => by
            rw [z] at a3
            have s0 := slot_live R.ok.ris a3
            rw [slot] at s0
            injection s0 with s0
            rw [← s0, hp] at h0
            exact same (by rw [Option.some.inj h0]; exact e0)
          exact ⟨d, by omega, a2, a3⟩
      by_cases hl : t.led = true
      · refine wp_if_neg (by simp [hl]) ?_
        try refine wpAny_bind (wpAny_pure ?_)
        exact asked
      · refine wp_if_pos (by simp [hl]) ?_
        refine wpAny_bind (seen_no hx (fun y hy => ?_) ?_)
        · obtain ⟨e, he, ee⟩ := List.mem_map.mp hy
          have he2 : e ∈ es.toList := by
            have he1 : e ∈ es ∧ e.1 = k.hash w := by simpa using he
            simpa using he1.1
          rw [R.rows] at he2
          obtain ⟨p2, hp2, rfl⟩ := List.mem_map.mp he2
          exact ⟨p2.2, p2.1, ee.symm, R.at_ p2 hp2⟩
        · refine wp_if_neg (by decide) ?_
          try refine wpAny_bind (wpAny_pure ?_)
          exact asked
    · have met' : t.probe (fun i => (es[i]?.map (·.1)).getD 0) (k.hash w) (stepAt t (k.hash w) c) = some (.empty (way t.mask (k.hash w) K) none) := by
        rw [show way t.mask (k.hash w) K = (nth t.mask (stepAt t (k.hash w) c) (K - c)).j by rw [toJ, Nat.add_sub_cancel' hc]]
        exact met
      rw [met']
      dsimp only
      refine wpAny_pure (hout fun hm => ?_)
      obtain ⟨p0, h0, e0⟩ := List.mem_map.mp hm
      obtain ⟨i0, hi0⟩ := List.mem_iff_getElem?.mp h0
      obtain ⟨d, a1, a2, a3⟩ := ahead i0 p0 hi0 e0
      exact none_before (d - c) i0 (by omega) (by rw [toJ, Nat.add_sub_cancel' a1]; exact a3) ((hashed i0 p0 hi0).trans (by rw [e0]))
theorem search (R : Tab w s.heap a L es ep t) (hx : At s.heap k x) (hu : A.units + 8 < cLine) {Q : SetFound → Shared → Prop} (hin : k ∈ L.map (·.2) → Q (.there none) s)
    (hout : ∀ K, k ∉ L.map (·.2) → way t.mask (k.hash w) K ∉ t.place.toList → (∀ c, c < K → way t.mask (k.hash w) c ∈ t.place.toList) → Q (.free (way t.mask (k.hash w) K) false) s) :
    wpAny (model P w) A (setSearch a (.ref x) (k.hash w) true) Q E s := by
  have hroom := R.room
  obtain ⟨K, hKf, hK, hKb⟩ := R.ok.first (by rw [List.length_map]; omega) (k.hash w)
  have big : 10 * SetTable.turns t.mask ≤ 1420 := by
    unfold SetTable.turns
    rcases R.ok.mok with e | e | e <;> omega
  unfold setSearch
  refine search_step R hx hu hKf hK hKb hin (fun hn => hout K hn hK hKb) 100000 0 none rfl (Nat.zero_le _) (by omega) fun i p hp e => ?_
  have hi : (hs w L)[i]? = some (k.hash w) := by rw [List.getElem?_map, hp, ← e]; rfl
  have hil : i < t.place.toList.length := by
    rw [Array.length_toList, place_size R.ok]
    exact (List.getElem?_eq_some_iff.mp hp).1
  have hj := List.getElem?_eq_getElem hil
  obtain ⟨c, hc, e⟩ := R.ok.before hK hi hj
  exact ⟨c, Nat.zero_le _, hc, by rw [hj, e]⟩
end
end NS

set_option Elab.async false
set_option linter.all false
set_option maxRecDepth 100000
set_option maxHeartbeats 4000000
namespace NS
open PySem PySem.Spec PyProof.Rows L2
section
variable {P : Program} {w : World} {A : Around} {E : Value → Shared → Prop} {s : Shared} {a : Addr} {L : List (Addr × NestedKey)} {es : Array (Int × Value)} {ep : Nat} {t : SetTable} {k : NestedKey} {x : Addr}
theorem At.on {h h' : Heap} {k : NestedKey} {b : Addr} (q : At h k b) (hk : ∀ c o vs n, h.get? c = some o → o.data = .seq vs n → h'.get? c = some o) : At h' k b := ⟨NestedIs.at hk k _ q.1, q.2⟩
/-- a set that changes is none of the tuples -/
theorem At.beside {h h' : Heap} {k : NestedKey} {b : Addr} {o : Obj} (q : At h k b) (ho : h.get? a = some o) (hd : o.data = .set es ep t) (sb : Heap.SameBut a h h') : At h' k b :=
  q.on fun c u vs n e d => (sb.2 c fun z => by
    rw [z, ho] at e
    rw [← Option.some.inj e, hd] at d
    exact nomatch d).trans e
theorem At.kept {h h' : Heap} {k : NestedKey} {b : Addr} (q : At h k b) (hk : ∀ c o, h.get? c = some o → h'.get? c = some o) : At h' k b := q.on fun c o _ _ e _ => hk c o e
theorem range_all {α : Type} : ∀ L : List α, (List.range L.length).filterMap (fun i => L[i]?) = L
  | [] => rfl
  | y :: ys => by
    rw [List.length_cons, List.range_succ_eq_map, List.filterMap_cons_some (f := fun i => (y :: ys)[i]?) (a := 0) (b := y) rfl, List.filterMap_map]
    exact congrArg (List.cons y) (range_all ys)
/-- the rows of a table laid anew -/
theorem laid_rows (hr : es.toList = L.map (ent w)) {order : Array Nat} (hp : order.toList.Perm (List.range L.length)) :
    ∃ L2, (order.filterMap (es[·]?)).toList = L2.map (ent w) ∧ L2.Perm L ∧ hs w L2 = order.toList.map fun i => (es.map (·.1)).getD i 0 := by
  have each : ∀ i, es[i]? = (L[i]?).map (ent w) := fun i => by rw [← Array.getElem?_toList, hr, List.getElem?_map]
  refine ⟨order.toList.filterMap (fun i => L[i]?), ?_, ?_, ?_⟩
  · rw [Array.toList_filterMap, List.map_filterMap]
    exact congrArg (fun f => List.filterMap f order.toList) (funext each)
  · have q := hp.filterMap (fun i => L[i]?)
    rw [range_all] at q
    exact q
  · have go : ∀ l : List Nat, (∀ i ∈ l, i < L.length) → hs w (l.filterMap fun i => L[i]?) = l.map fun i => (es.map (·.1)).getD i 0 := by
      intro l
      induction l with
      | nil => intro _; rfl
      | cons i l ih =>
        intro hl
        obtain ⟨p, hpi⟩ : ∃ p, L[i]? = some p := ⟨_, List.getElem?_eq_getElem (hl i List.mem_cons_self)⟩
        have ih' := ih fun j hj => hl j (List.mem_cons_of_mem _ hj)
        rw [List.filterMap_cons_some (f := fun i => L[i]?) hpi, List.map_cons]
        show p.2.hash w :: hs w (List.filterMap (fun i => L[i]?) l) = _
        rw [ih']
        have e : (es.map (·.1))[i]? = some (p.2.hash w) := by rw [Array.getElem?_map, each, hpi]; rfl
        rw [Array.getD_eq_getD_getElem?, e]
        rfl
    exact go _ fun i hi => List.mem_range.mp (hp.mem_iff.mp hi)
/-- the table laid anew, larger -/
theorem relay {o : Obj} (ho : s.heap.get? a = some o) (hex : o.ExactSet) (hd : o.data = .set es ep t) (hr : es.toList = L.map (ent w)) (hsz : t.place.size = L.length) (hdm : t.dummies = #[]) (hfl : L.length ≤ t.mask) (nd : (L.map (·.2)).Nodup)
    (at_ : ∀ p ∈ L, At s.heap p.2 p.1) (ld : w.params.followText "set-order" = true ∨ t.led = true) (few : L.length < 64) {wanted M : Nat} (hw : SetTable.sizeAbove wanted - 1 = M) (hM : MaskOk M) (hw2 : SetTable.sizeAbove wanted ≤ 128) (hn : L.length * 5 < M * 3)
    {Q : Unit → Shared → Prop} (hQ : ∀ h' L' es' ep' t', Heap.SameBut a s.heap h' → Tab w h' a L' es' ep' t' → L'.Perm L → Q () { s with heap := h' }) : wpAny (model P w) A (setRelay a wanted) Q E s := by
  have hsl := rows_size hr
  obtain ⟨t', order, e, hp, T, em, el, _, _⟩ := relaid_ok t (hs := es.map (·.1)) (wanted := wanted) hw hM (by rw [Array.size_map, hsl]; omega)
  rw [Array.size_map, hsl] at hp
  obtain ⟨L2, r1, r2, r3⟩ := laid_rows hr hp
  rw [← r3] at T
  have hs2 : (order.filterMap (es[·]?)).size = es.size := by rw [rows_size r1, r2.length_eq, hsl]
  rw [setRelay_eq]
  refine wpAny_bind (wpAny_setState_of ho hd (by rw [hsl]; exact fits_of hdm hsz hfl) ?_)
  dsimp only
  refine wp_if_neg (by rw [sizeLine_eq]; omega) ?_
  try refine wpAny_bind (wpAny_pure ?_)
  rw [e]
  dsimp only
  refine wpAny_bind ?_
  refine wp_if_neg (by rw [hs2]; simp) ?_
  try refine wpAny_bind (wpAny_pure ?_)
  refine wpAny_pure ?_
  dsimp only
  refine wpAny_storeSet_of ho hd ?_ (by rw [hs2, hsl, sizeLine_eq]; omega)
  have sb : Heap.SameBut a s.heap (s.heap.update a (Obj.putSet (order.filterMap (es[·]?)) t')) := Heap.SameBut.update ..
  refine hQ _ L2 _ (ep + 1) t' sb ⟨⟨_, store_at ho hd, ⟨hex.1, hex.2.1, hex.2.2⟩, rfl⟩, r1, T, (r2.map (·.2)).nodup_iff.mpr nd, fun p hp => (at_ p (r2.mem_iff.mp hp)).beside ho hd sb, by rw [el]; exact ld, ?_, by rw [r2.length_eq]; exact few⟩ r2
  rw [r2.length_eq, em]
  exact hn
theorem put_in {α : Type} (L : List α) (p : Nat) (x : α) : (L.take p ++ x :: L.drop p).Perm (x :: L) := by
  have q : (L.take p ++ x :: L.drop p).Perm (x :: (L.take p ++ L.drop p)) := List.perm_middle
  rwa [List.take_append_drop] at q
/-- the table after the put: laid anew if it's too full -/
theorem put_end {o : Obj} (ho : s.heap.get? a = some o) (hex : o.ExactSet) (hd : o.data = .set es ep t) (hr : es.toList = L.map (ent w)) (ok : TabOk t (hs w L)) (nd : (L.map (·.2)).Nodup) (at_ : ∀ p ∈ L, At s.heap p.2 p.1)
    (ld : w.params.followText "set-order" = true ∨ t.led = true) (few : L.length < 64) (fill : t.fill = L.length) {m n : Nat} (hm : m + 1 = L.length) (hn : n = m) (room : m * 5 < t.mask * 3)
    {Q : Bool → Shared → Prop} (hQ : ∀ h' L' es' ep' t', Heap.SameBut a s.heap h' → Tab w h' a L' es' ep' t' → L'.Perm L → Q true { s with heap := h' }) :
    wpAny (model P w) A (do
      if !false && t.tooFull then setRelay a (SetTable.grown (n + 1))
      return true) Q E s := by
  subst hn
  have hsz := place_size ok
  by_cases hf : t.tooFull = true
  · have full : L.length * 5 ≥ t.mask * 3 := by
      have q := hf
      unfold SetTable.tooFull at q
      rwa [decide_eq_true_eq, fill] at q
    have two : (t.mask = 7 ∧ n = 4) ∨ (t.mask = 31 ∧ n = 18) := by
      rcases ok.mok with e | e | e <;> rw [e] at full room
      · exact .inl ⟨e, by omega⟩
      · exact .inr ⟨e, by omega⟩
      · omega
    have go : ∀ M, SetTable.sizeAbove (SetTable.grown (n + 1)) - 1 = M → MaskOk M → SetTable.sizeAbove (SetTable.grown (n + 1)) ≤ 128 → L.length * 5 < M * 3 →
        wpAny (model P w) A (setRelay a (SetTable.grown (n + 1))) (fun _ s' => wpAny (model P w) A (pure true) Q E s') E s := fun M h1 h2 h3 h4 =>
      relay ho hex hd hr hsz ok.dm (by rcases two with ⟨e, e2⟩ | ⟨e, e2⟩ <;> omega) nd at_ ld few h1 h2 h3 h4 fun h' L' es' ep' t' sb R pm => wpAny_pure (hQ h' L' es' ep' t' sb R pm)
    first
      | (refine wpAny_bind ?_; refine wp_if_pos (by simp [hf]) ?_)
      | (refine wp_if_pos (by simp [hf]) ?_; refine wpAny_bind ?_)
    rcases two with ⟨_, e⟩ | ⟨_, e⟩
    · exact go 31 (by rw [e, size_20]) (.inr (.inl rfl)) (by rw [e, size_20]; decide) (by omega)
    · exact go 127 (by rw [e, size_76]) (.inr (.inr rfl)) (by rw [e, size_76]; decide) (by omega)
  · first
      | refine wp_if_neg (by simp [hf]) ?_
      | (refine wpAny_bind ?_; refine wp_if_neg (by simp [hf]) ?_; refine wpAny_pure ?_)
    refine wpAny_pure (hQ s.heap L es ep t (Heap.SameBut.refl a s.heap) ⟨⟨o, ho, hex, hd⟩, hr, ok, nd, at_, ld, ?_, few⟩ (List.Perm.refl _))
    have q := hf
    unfold SetTable.tooFull at q
    rw [decide_eq_true_eq, fill] at q
    omega
/-- put into the set -/
theorem add (R : Tab w s.heap a L es ep t) (hx : At s.heap k x) (hu : A.units + 8 < cLine) (few : L.length + 1 < 64) {Q : Bool → Shared → Prop}
    (hQ : ∀ b h' L' es' ep' t', Heap.SameBut a s.heap h' → Tab w h' a L' es' ep' t' → (k ∈ L.map (·.2) → L' = L) → (k ∉ L.map (·.2) → L'.Perm ((x, k) :: L)) → Q b { s with heap := h' }) :
    wpAny (model P w) A (setAddHashed a (.ref x) (k.hash w)) Q E s := by
  obtain ⟨o, ho, hex, hd⟩ := id R.ob
  have hsl := rows_size R.rows
  unfold setAddHashed
  refine wpAny_holding ?_
  rw [show (100000 : Nat) = 99999 + 1 from rfl, setAddHashedIn_succ]
  refine wpAny_bind (R.state ?_)
  dsimp only
  refine wp_if_neg (by simp [byScan, Value.scannable]) ?_
  try refine wpAny_bind (wpAny_pure ?_)
  refine wpAny_bind (search R hx hu (fun hm => ?_) fun K hm hK hb => ?_)
  · dsimp only
    exact wpAny_pure (hQ false s.heap L es ep t (Heap.SameBut.refl a s.heap) R (fun _ => rfl) fun z => absurd hm z)
  dsimp only
  refine wpAny_bind (R.state ?_)
  dsimp only
  obtain ⟨q1, q2, q3, q4, q5, _, _, _, q9⟩ := R.ok.put hK hb
  generalize hpt : t.put (way t.mask (k.hash w) K) = pt at q1 q3 q4 q5 q9 ⊢
  obtain ⟨t1, p⟩ := pt
  dsimp only at q1 q3 q4 q5 q9 ⊢
  have q1' : p = SetTable.below t.place (way t.mask (k.hash w) K) := q1
  rw [← q1'] at q2 q3
  have hin : (SetTable.insertAt es p (k.hash w, Value.ref x)).toList = (L.take p ++ (x, k) :: L.drop p).map (ent w) := by
    rw [SetTable.toList_insertAt, R.rows, List.map_append, List.map_cons, List.map_take, List.map_drop]
    rfl
  have hhs : hs w (L.take p ++ (x, k) :: L.drop p) = (hs w L).take p ++ k.hash w :: (hs w L).drop p := by
    show List.map _ _ = _
    rw [List.map_append, List.map_cons, List.map_take, List.map_drop]
  rw [← hhs] at q3
  have pm := put_in L p (x, k)
  have hlen := pm.length_eq
  have nd1 : ((L.take p ++ (x, k) :: L.drop p).map (·.2)).Nodup := (pm.map (·.2)).nodup_iff.mpr (List.nodup_cons.mpr ⟨hm, R.nd⟩)
  have hes := rows_size hin
  generalize SetTable.insertAt es p (k.hash w, Value.ref x) = es1 at hin hes ⊢
  generalize L.take p ++ (x, k) :: L.drop p = L1 at pm hlen q3 nd1 hin hes
  rw [List.length_cons] at hlen
  -- whatever is told of its hash
  have rest : ∀ t2 : SetTable, t2.place = t1.place → t2.dummies = t1.dummies → t2.mask = t1.mask → t2.led = t1.led → wpAny (model P w) A (do
      storeSet a es1 t2
      if !false && t2.tooFull then setRelay a (SetTable.grown (es.size + 1))
      return true) Q E s := by
    intro t2 e1 e2 e3 e4
    refine wpAny_bind (wpAny_storeSet_of ho hd ?_ (by rw [hes, hlen, sizeLine_eq]; omega))
    have sb : Heap.SameBut a s.heap (s.heap.update a (Obj.putSet es1 t2)) := Heap.SameBut.update ..
    have ho1 := store_at (es' := es1) (t' := t2) ho hd
    have ok2 : TabOk t2 (hs w L1) := ⟨by rw [e1]; exact q3.ris, by rw [e2]; exact q3.dm, by rw [e1]; exact q3.sz, by rw [e3]; exact q3.mok, by rw [e1, e3]; exact q3.bd, by rw [e1, e3]; exact q3.reach⟩
    have fl : t2.fill = L1.length := by
      have z := place_size ok2
      unfold SetTable.fill
      rw [ok2.dm]
      show t2.place.size + 0 = _
      omega
    refine put_end (s := { s with heap := s.heap.update a (Obj.putSet es1 t2) }) (L := L1) (es := es1) (ep := ep + 1) (t := t2) ho1 ⟨hex.1, hex.2.1, hex.2.2⟩ rfl hin ok2 nd1 (fun p hp => ?_) (by rw [e4, q5]; exact R.led) (by omega) fl (m := L.length) hlen.symm hsl
      (by rw [e3, q4]; exact R.room) fun h' L' es' ep' t' sb2 R2 pm2 => hQ true h' L' es' ep' t' (sb.trans sb2) R2 (fun z => absurd z hm) fun _ => pm2.trans pm
    rcases List.mem_cons.mp (pm.mem_iff.mp hp) with rfl | hp
    · exact hx.beside ho hd sb
    · exact (R.at_ p hp).beside ho hd sb
  have both : ∀ b : Bool, wpAny (model P w) A (do
      storeSet a es1 (if b = true then t1 else { t1 with plain := false })
      if !false && (if b = true then t1 else { t1 with plain := false }).tooFull then setRelay a (SetTable.grown (es.size + 1))
      return true) Q E s := fun b => by
    cases b with
    | true => exact rest t1 rfl rfl rfl rfl
    | false => exact rest { t1 with plain := false } rfl rfl rfl rfl
  by_cases hp1 : t1.plain = true
  · first
      | (refine wpAny_bind ?_; refine wp_if_pos hp1 ?_; refine hash_told 8 k _ _ _ _ hx.1 fun b => ?_)
      | refine wp_if_pos hp1 (wpAny_bind (hash_told 8 k _ _ _ _ hx.1 fun b => ?_))
    exact both b
  · first
      | (refine wpAny_bind ?_; refine wp_if_neg hp1 ?_; refine wpAny_pure ?_)
      | refine wp_if_neg hp1 (wpAny_bind (wpAny_pure ?_))
    exact both true
end
end NS

set_option Elab.async false
set_option linter.all false
set_option maxRecDepth 100000
set_option maxHeartbeats 4000000
/-! set(xs), by what putting one item does. -/
namespace NS
open PySem PySem.Spec PyProof.Rows L2
/-- how many unlike ones are among the first i -/
structure Cnt {κ : Type} (xs : List κ) (i n : Nat) (mem : κ → Prop) : Prop where
  le : n ≤ i
  full : n = i ↔ (xs.take i).Nodup
  mem : ∀ k, mem k ↔ k ∈ xs.take i
theorem take_snoc {α : Type} {l : List α} {i : Nat} {x : α} (h : l[i]? = some x) : l.take (i + 1) = l.take i ++ [x] := by
  rw [List.take_succ, h]
  rfl
theorem Cnt.zero {κ : Type} (xs : List κ) {mem : κ → Prop} (h : ∀ k, ¬ mem k) : Cnt xs 0 0 mem := ⟨Nat.le_refl _, by simp, fun k => by simp [h k]⟩
theorem Cnt.old {κ : Type} {xs : List κ} {i n : Nat} {mem : κ → Prop} {k : κ} (c : Cnt xs i n mem) (h : xs[i]? = some k) (hm : mem k) : Cnt xs (i + 1) n mem := by
  have hk := (c.mem k).mp hm
  refine ⟨Nat.le_succ_of_le c.le, ⟨fun e => ?_, fun nd => ?_⟩, fun j => ?_⟩
  · have := c.le
    omega
  · rw [take_snoc h] at nd
    exact absurd rfl ((List.nodup_append.mp nd).2.2 k hk k (List.mem_singleton.mpr rfl))
  · rw [take_snoc h, c.mem j]
    refine ⟨fun q => List.mem_append_left _ q, fun q => ?_⟩
    rcases List.mem_append.mp q with q | q
    · exact q
    · rw [List.mem_singleton.mp q]; exact hk
theorem Cnt.new {κ : Type} {xs : List κ} {i n : Nat} {mem mem' : κ → Prop} {k : κ} (c : Cnt xs i n mem) (h : xs[i]? = some k) (hm : ¬ mem k) (hm' : ∀ j, mem' j ↔ (mem j ∨ j = k)) : Cnt xs (i + 1) (n + 1) mem' := by
  have hk : k ∉ xs.take i := fun q => hm ((c.mem k).mpr q)
  refine ⟨Nat.succ_le_succ c.le, ?_, fun j => ?_⟩
  · rw [take_snoc h]
    refine ⟨fun e => ?_, fun nd => ?_⟩
    · refine List.nodup_append.mpr ⟨c.full.mp (by omega), List.nodup_cons.mpr ⟨List.not_mem_nil, List.nodup_nil⟩, fun a ha b hb => ?_⟩
      rw [List.mem_singleton.mp hb]
      exact fun z => hk (z ▸ ha)
    · have := c.full.mpr (List.nodup_append.mp nd).1
      omega
  · rw [hm', take_snoc h, c.mem j, List.mem_append, List.mem_singleton]
section
variable {P : Program} {w : World} {A : Around} {E : Value → Shared → Prop} {s : Shared}
/-- one more is put: the i-th item, the set being so -/
def Puts (P : Program) (w : World) (A : Around) (S : Addr) (h0 : Heap) (vs : List Value) (Iv : Nat → Heap → Prop) : Prop :=
  ∀ (i : Nat) (v : Value) (s : Shared) (E : Value → Shared → Prop) (Q : Unit → Shared → Prop), vs[i]? = some v → Iv i s.heap → (∀ b o, h0.get? b = some o → s.heap.get? b = some o) →
    (∀ h' tk, s.toks ≤ tk → Heap.SameBut S s.heap h' → Iv (i + 1) h' → Q () { s with heap := h', toks := tk }) → wpAny (model P w) A (setAdd S v) (fun _ s' => Q () s') E s
theorem update_loop {I : Addr} {fp wr : List Addr} {G : Array GenState → Array GenState → Prop} {n : Nat} {Pv : Nat → Value → Prop} {St : Nat → Shared → Prop} {R : Result → Shared → Prop} {Iv : Nat → Heap → Prop} {vs : List Value}
    (W : WalksS P w A.in1 I fp wr G n Pv St) (S : Addr) (hSf : S ∉ fp) (hval : ∀ i v, Pv i v → vs[i]? = some v) (h0 : Heap) (hS0 : h0.get? S = none) (hw0 : ∀ b ∈ wr, h0.get? b = none)
    (put : Puts P w A.in1 S h0 vs Iv) (frame : ∀ i h h', Iv i h → (∀ o, h.get? S = some o → h'.get? S = some o) → (∀ b o, h0.get? b = some o → h'.get? b = some o) → Iv i h') :
    ∀ (k i : Nat) (s : Shared), n - i = k → i ≤ n → St i s → (∀ b o, h0.get? b = some o → s.heap.get? b = some o) → Iv i s.heap →
      (∀ s', Moved (S :: wr) G s s' → Iv n s'.heap → (∀ b o, h0.get? b = some o → s'.heap.get? b = some o) → R (.ok (.ret .none)) s') →
      codeAny (model P w) A (.builtin "set.update.loop" ⟨[.ref S, .ref I], []⟩) R s := by
  have hSw : S ∉ wr := fun h => hSf (W.sub _ h)
  have hsub : ∀ b ∈ wr, b ∈ S :: wr := fun b hb => List.mem_cons_of_mem _ hb
  have keepM : ∀ {s s' : Shared}, Moved wr G s s' → (∀ b o, h0.get? b = some o → s.heap.get? b = some o) → ∀ b o, h0.get? b = some o → s'.heap.get? b = some o := fun hm hkp b o e =>
    hm.heap b o (fun hb => by rw [hw0 b hb] at e; cases e) (hkp b o e)
  intro k
  induction k with
  | zero =>
    intro i s hk' hi hst hkp hI hR
    have hin : i = n := by omega
    subst hin
    refine codeAny_builtin F.entry_set_update_loop ?_
    rw [Around.under_plainId F.plain_set_update_loop _]
    show wpAny _ A.in1 (pyNext (.ref I) >>= _) _ _ s
    refine wpAny_bind (W.done s _ _ hst fun s' hm => ?_)
    show wpAny _ A.in1 (ret Value.none) _ _ s'
    have hkp' := keepM hm hkp
    exact wpAny_pure (hR s' (hm.mono hsub) (frame _ _ _ hI (fun o e => hm.heap S o hSw e) hkp') hkp')
  | succ k ih =>
    intro i s hk' hi hst hkp hI hR
    have hlt : i < n := by omega
    refine codeAny_builtin F.entry_set_update_loop ?_
    rw [Around.under_plainId F.plain_set_update_loop _]
    show wpAny _ A.in1 (pyNext (.ref I) >>= _) _ _ s
    refine wpAny_bind (W.item i s _ _ hlt hst fun v s' hP hst' hm => ?_)
    have hkp' := keepM hm hkp
    have hI' := frame _ _ _ hI (fun o e => hm.heap S o hSw e) hkp'
    show wpAny _ A.in1 (holding [v] (setAdd S v) >>= _) _ _ s'
    refine wpAny_bind (wpAny_holding ?_)
    refine put i v s' _ (fun _ s' => wpAny _ A.in1 _ _ _ s') (hval i v hP) hI' hkp' fun h' tk htk hsb hI2 => ?_
    have hkp2 : ∀ b o, h0.get? b = some o → h'.get? b = some o := fun b o e => (hsb.2 b (fun z => by rw [z, hS0] at e; cases e)).trans (hkp' b o e)
    refine wpAny_pure ⟨plainId_quiet F.plain_set_update_loop _, ih (i + 1) _ (by omega) hlt (W.frame _ s' _ _ hst' htk fun b hb o e => ?_) hkp2 hI2 fun s'' hm'' hI3 hkp3 => ?_⟩
    · rw [hsb.2 b (fun h : b = S => hSf (by rw [← h]; exact hb))]; exact e
    · refine hR s'' (Moved.trans W.gtrans ((hm.mono hsub).then_heap htk fun b o hb e => ?_) hm'') hI3 hkp3
      rw [hsb.2 b (fun h : b = S => hb (by rw [h]; exact List.mem_cons_self))]; exact e
/-- a set just made -/
abbrev newSet (w : World) : Obj := { cls := .type "set", dict := none, data := .set #[] 0 (.fresh 0 0 (!w.params.followText "set-order")) }
set_option maxRecDepth 100000 in
set_option maxHeartbeats 3200000 in
theorem call_set {l : Addr} {items : Array Value} {Iv : Nat → Heap → Prop} {Q : Value → Shared → Prop} (hh : A.handled = none) (hl : s.heap.IsList l items) (put : ∀ A' : Around, A'.units ≤ A.units + 3 → Puts P w A' s.heap.objs.size s.heap items.toList Iv)
    (frame : ∀ i h h', Iv i h → (∀ o, h.get? s.heap.objs.size = some o → h'.get? s.heap.objs.size = some o) → (∀ b o, s.heap.get? b = some o → h'.get? b = some o) → Iv i h')
    (start : ∀ h : Heap, h.get? s.heap.objs.size = some (newSet w) → Iv 0 h)
    (h : ∀ (h' : Heap) (tk : Nat), Iv items.size h' → (∀ b o, s.heap.get? b = some o → h'.get? b = some o) → Q (.ref s.heap.objs.size) { s with heap := h', toks := tk }) :
    wpAny (model P w) A (call (.type "set") [.ref l]) Q E s := by
  obtain ⟨c, tl, hmro⟩ := F.called_set.mro
  have hmade := F.called_set.made
  have hsub := F.called_set.sub
  refine wpAny_call (codeAny_of_tree ?_)
  show wpAny _ _ (callAny (.type "set") _) _ _ _
  refine wpAny_pure ⟨Code.quiet_builtin _ (by decide +kernel), codeAny_builtin F.entry_type_call ?_⟩
  rw [Around.under_plain (weight_type_call_type "set" [.ref l] []) rfl]
  have h1 := F.called_set.notType
  have h2 := F.called_set.canCreate
  have hct := F.typeCall_set_1 (.ref l)
  repeat (any_goals (first | assumption | wp_step))
  refine codeAny_mono (code_set_led1 (.ref l) (E := E) (Q₁ := fun obj s₁ => obj = .ref s.heap.objs.size ∧ s₁ = { s with heap := s.heap.push (newSet w) }) ⟨rfl, rfl⟩) fun r s₁ hr => ?_
  cases r with
  | error e => exact hr
  | ok fl =>
    cases fl with
    | ret obj =>
      obtain ⟨rfl, rfl⟩ := hr
      have hS : (s.heap.push (newSet w)).get? s.heap.objs.size = some (newSet w) := Heap.get?_push_size _ rfl
      have hT : Shared.TypeIs { s with heap := s.heap.push (newSet w) } (.ref s.heap.objs.size) "set" := ⟨_, hS, rfl⟩
      have hli := F.called_set.init.lookup
      have hbi := F.called_set.init.bind (.ref s.heap.objs.size)
      repeat (any_goals (first | assumption | wp_step))
      refine codeAny_mono (codeAny_call_builtin (R := wants (fun r s₂ => r = .none ∧ ∃ h' tk, s₂ = { s with heap := h', toks := tk } ∧ Iv items.size h' ∧ (∀ b o, s.heap.get? b = some o → h'.get? b = some o)) E)
        F.called_set.init.plain F.entry_set_init (check_set_init_1 hT ?_)) fun r₂ s₂ hr₂ => ?_
      · obtain ⟨ol, hol, hcl, nl, hdl⟩ := hl
        obtain ⟨ocls, odict, odata, oslots⟩ := ol
        simp only at hcl hdl
        subst hcl; subst hdl
        have hol' : (s.heap.push (newSet w)).get? l = some { cls := .type "list", dict := odict, data := .seq items nl, slots := oslots } := Heap.get?_push_of_some _ hol
        have hsls := F.sub_list_set
        have hslf := F.sub_list_frozenset
        have hne : (Value.type "list" == Value.type "dict") = false := by decide
        have hl1 : (s.heap.push (newSet w)).IsList l items := ⟨_, hol', rfl, nl, rfl⟩
        unfold Builtin.«set.__init__» noKeywords Builtin.Frozenset.updateFrom
        generalize hPI : pyIter = PI
        wp_walk
        subst hPI
        refine wpAny_pyIter_list hl1 ?_
        refine wpAny_bind (wpAny_runValue ?_)
        have hlS : l < s.heap.objs.size := Heap.lt_size hol
        have hh3 : A.in1.in1.in1.handled = none := by simp [hh]
        have hneI : l ≠ (s.heap.push (newSet w)).objs.size := by rw [Heap.size_push]; exact Nat.ne_of_lt (Nat.lt_succ_of_lt hlS)
        have hSf : s.heap.objs.size ∉ [(s.heap.push (newSet w)).objs.size, l] := by
          rw [Heap.size_push]; simp only [List.mem_cons, List.mem_singleton, List.not_mem_nil, or_false, not_or]
          exact ⟨Nat.ne_of_lt (Nat.lt_succ_self _), Nat.ne_of_gt hlS⟩
        have none_of : ∀ b, s.heap.objs.size ≤ b → s.heap.get? b = none := fun b hb => by
          cases q : s.heap.get? b with
          | none => rfl
          | some o => exact absurd (Nat.lt_of_lt_of_le (Heap.lt_size q) hb) (Nat.lt_irrefl _)
        refine update_loop (vs := items.toList) (Iv := Iv) ((Walks.list hh3 _ l hneI items).toS) s.heap.objs.size hSf (fun i v hv => by rw [Array.getElem?_toList]; exact hv) s.heap (none_of _ (Nat.le_refl _)) (fun b hb => none_of b (by
            rw [List.mem_singleton.mp hb, Heap.size_push]
            exact Nat.le_succ _)) (put _ ?hu) frame (items.size - 0) 0 _ (by omega) (Nat.zero_le _)
          ⟨⟨_, Heap.get?_push_size _ rfl, rfl, rfl⟩, (hl1.push _)⟩ (fun b o e => Heap.get?_push_of_some _ (Heap.get?_push_of_some _ e)) (start _ (Heap.get?_push_of_some _ hS)) ?hR
        case hu => exact Nat.le_refl _
        case hR =>
          intro s' hm hI hkp
          obtain ⟨h', g2, d', tk', os'⟩ := s'
          have eg : g2 = s.gens := hm.gens
          have ed : d' = s.drawn := hm.drawn
          have eo : os' = s.os := hm.os
          subst eg; subst ed; subst eo
          show wpAny _ _ _ _ _ _
          refine wpAny_pure ?_
          show wpAny _ _ (ret Value.none) _ _ _
          exact wpAny_pure ⟨rfl, h', tk', rfl, hI, hkp⟩
      · cases r₂ with
        | error e => exact hr₂
        | ok fl₂ =>
          cases fl₂ with
          | ret r =>
            obtain ⟨rfl, h', tk, rfl, hI, hk'⟩ := hr₂
            repeat (any_goals (first | assumption | wp_step))
            exact h _ _ hI hk'
          | _ => exact hr₂.elim
    | _ => exact hr.elim
end
end NS

set_option Elab.async false
set_option linter.all false
set_option maxRecDepth 100000
set_option maxHeartbeats 4000000
/-! len(set(xs)): texts, and tuples of texts and such. -/
namespace NS
open PySem PySem.Spec PyProof.Rows L2
section
variable {X : Cx} {pins : List (Addr × Obj)} {σ : L2.St} {H : Hp} {s : Shared}
mutual
theorem nested (I : Inv X pins σ H s) : ∀ (k : NestedKey) (v : V) (u : Value), Dp X.K H v k.data → L2.RelV v u → NestedIs s.heap k u
  | .none, _, _, h, r => by
    cases h
    cases r
    exact .none
  | .num i, _, _, h, r => by
    cases h
    obtain ⟨t, rfl⟩ := r
    exact .int i t
  | .text x, _, _, h, r => by
    cases h
    obtain ⟨t, rfl⟩ := r
    exact .text x t
  | .tup ks, _, _, h, r => by
    cases h with
    | tup hs ha =>
      cases r
      obtain ⟨its, rv, ⟨o, ho, hc, n, hd⟩, _⟩ := I.tuple hs
      exact .tup ho hc hd (nestedAll I ks _ its ha rv)
theorem nestedAll (I : Inv X pins σ H s) : ∀ (ks : List NestedKey) (vs : List V) (us : List Value), DpAll X.K H vs (NestedKey.datas ks) → Vals vs us → NestedAll s.heap ks us
  | [], _, _, h, r => by
    cases h
    cases r
    exact .nil
  | k :: ks, _, _, h, r => by
    cases h with
    | cons h1 h2 =>
      cases r with
      | cons r1 r2 => exact .cons (nested I k _ _ h1 r1) (nestedAll I ks _ _ h2 r2)
end
end
/-! ### tuples -/
section
variable {P : Program} {w : World} {s : Shared}
structure IvT (w : World) (S : Addr) (ks : List (Addr × NestedKey)) (i : Nat) (h : Heap) : Prop where
  ex : ∃ L es ep t, Tab w h S L es ep t ∧ (∀ p ∈ L, p ∈ ks) ∧ Cnt (ks.map (·.2)) i L.length (· ∈ L.map (·.2))
theorem newTab {h : Heap} {a : Addr} (ho : h.get? a = some (newSet w)) : Tab w h a [] #[] 0 (.fresh 0 0 (!w.params.followText "set-order")) where
  ob := ⟨_, ho, ⟨rfl, rfl, rfl⟩, rfl⟩
  rows := rfl
  ok := ⟨List.Pairwise.nil, rfl, rfl, .inl rfl, fun x hx => (by cases hx), fun i h j hi => (by simp at hi)⟩
  nd := List.nodup_nil
  at_ := fun p hp => (by cases hp)
  led := by
    show _ ∨ (!w.params.followText "set-order") = true
    cases w.params.followText "set-order"
    · exact .inr rfl
    · exact .inl rfl
  room := by
    show 0 * 5 < 7 * 3
    decide
  few := by
    show 0 < 64
    decide
theorem putsT {A : Around} {S : Addr} {h0 : Heap} {ks : List (Addr × NestedKey)} (hS : h0.get? S = none) (hu : A.units + 8 < cLine) (hf : ks.length < 64) (hk : ∀ p ∈ ks, At h0 p.2 p.1) : Puts P w A S h0 (ks.map fun p => Value.ref p.1) (IvT w S ks) := by
  intro i v s E Q hv ⟨L, es, ep, t, R, sub, c⟩ kp h
  rw [List.getElem?_map] at hv
  obtain ⟨p, hp, rfl⟩ := Option.map_eq_some_iff.mp hv
  have hx := (hk p (List.mem_of_getElem? hp)).kept kp
  have hi : (ks.map (·.2))[i]? = some p.2 := by rw [List.getElem?_map, hp]; rfl
  have hlt : i < ks.length := (List.getElem?_eq_some_iff.mp hp).1
  unfold setAdd
  refine wpAny_holding ?_
  refine wpAny_bind (pyHash_key p.2 _ A s _ hx.1 (by have := hx.2; omega) ?_)
  refine add (s := { s with toks := s.toks + p.2.draws }) R hx hu (by have := c.le; omega) fun b h' L' es' ep' t' sb R' c1 c2 => ?_
  refine h h' _ (Nat.le_add_right _ _) sb ?_
  rcases Classical.em (p.2 ∈ L.map (·.2)) with hm | hm
  · obtain rfl := c1 hm
    exact ⟨_, es', ep', t', R', sub, c.old hi hm⟩
  · have pm := c2 hm
    refine ⟨L', es', ep', t', R', fun q hq => ?_, ?_⟩
    · rcases List.mem_cons.mp (pm.mem_iff.mp hq) with rfl | hq
      · exact List.mem_of_getElem? hp
      · exact sub q hq
    · rw [pm.length_eq, List.length_cons]
      refine c.new hi hm fun j => ?_
      rw [(pm.map (·.2)).mem_iff, List.map_cons, List.mem_cons]
      exact or_comm
theorem frameT {S : Addr} {h0 : Heap} {ks : List (Addr × NestedKey)} (hk : ∀ p ∈ ks, At h0 p.2 p.1) (i : Nat) (h h' : Heap) (I : IvT w S ks i h) (hS : ∀ o, h.get? S = some o → h'.get? S = some o) (kp : ∀ b o, h0.get? b = some o → h'.get? b = some o) : IvT w S ks i h' := by
  obtain ⟨L, es, ep, t, R, sub, c⟩ := I
  obtain ⟨o, ho, r⟩ := R.ob
  exact ⟨L, es, ep, t, ⟨⟨o, hS o ho, r⟩, R.rows, R.ok, R.nd, fun p hp => (hk p (sub p hp)).kept kp, R.led, R.room, R.few⟩, sub, c⟩
/-! ### texts -/
structure IvS (P : Program) (w : World) (S : Addr) (xs : List Str) (i : Nat) (h : Heap) : Prop where
  ex : ∃ (m : Str → Bool) (n : Nat), h.SetOf (strKind P w) S m n ∧ Cnt xs i n (fun k => m k = true)
theorem strs_map : ∀ {us : List Value} {xs : List Str}, StrsAre us xs → ∀ (i : Nat) (v : Value), us[i]? = some v → ∃ x t, xs[i]? = some x ∧ v = Value.str x t
  | _, _, .cons y t h, 0, v, e => ⟨y, t, rfl, (Option.some.inj e).symm⟩
  | _, _, .cons y t h, i + 1, v, e => strs_map h i v e
theorem putsS {A : Around} {S : Addr} {h0 : Heap} {xs : List Str} {us : List Value} (hu : StrsAre us xs) (hf : xs.length < 64) : Puts P w A S h0 us (IvS P w S xs) := by
  intro i v s E Q hv ⟨m, n, R, c⟩ kp h
  obtain ⟨x, t, hx, rfl⟩ := strs_map hu i v hv
  have hlt : i < xs.length := (List.getElem?_eq_some_iff.mp hx).1
  unfold setAdd
  refine wpAny_holding ?_
  refine wpAny_bind ((strKind P w).pyHash (k := x) (strKind_is _ _ _ _) ?_)
  refine wpAny_setAddHashed_of (knd := strKind P w) (s := { s with toks := s.toks + 1 }) (strKind_is _ _ _ _) rfl R (by have := c.le; unfold scanBound; omega) fun h' sb R' => ?_
  refine h h' _ (Nat.le_succ _) sb ⟨_, _, R', ?_⟩
  by_cases hm : m x = true
  · rw [if_pos hm]
    have c' := c.old hx hm
    refine ⟨c'.le, c'.full, fun k => ?_⟩
    rw [← c'.mem k]
    show (m k || decide (k = x)) = true ↔ _
    rw [Bool.or_eq_true, decide_eq_true_eq]
    refine ⟨fun q => ?_, fun q => .inl q⟩
    rcases q with q | rfl
    · exact q
    · exact hm
  · rw [if_neg hm]
    refine c.new hx hm fun k => ?_
    show (m k || decide (k = x)) = true ↔ _
    rw [Bool.or_eq_true, decide_eq_true_eq]
theorem frameS {S : Addr} {h0 : Heap} {xs : List Str} (i : Nat) (h h' : Heap) (I : IvS P w S xs i h) (hS : ∀ o, h.get? S = some o → h'.get? S = some o) (kp : ∀ b o, h0.get? b = some o → h'.get? b = some o) : IvS P w S xs i h' := by
  obtain ⟨m, n, ⟨o, es, ep, t, ho, r⟩, c⟩ := I
  exact ⟨m, n, ⟨o, es, ep, t, hS o ho, r⟩, c⟩
theorem startS {S : Addr} {xs : List Str} {h : Heap} (ho : h.get? S = some (newSet w)) : IvS P w S xs 0 h :=
  ⟨fun _ => false, 0, ⟨_, #[], 0, _, ho, ⟨rfl, rfl, rfl⟩, rfl, (fun e he => by simp at he), (fun k => by simp), (by decide), (by rfl), rfl⟩, Cnt.zero xs fun k => by simp⟩
end
/-! ### the rule -/
section
variable {X : Cx} {a : Expr} {ta : TE} {p p2 q pos : Pos}
/-- a list of unlike texts, or of tuples: how many unlike ones -/
def tLenSetU (K : PySem.W.Frag) (ta : TE) : TE := fun σ H Q => ta σ H fun x H1 => ∃ l, x = V.ref l ∧
  ((∃ xs : List Str, SqL K H1 l (xs.map V.str) ∧ xs.length < 64 ∧ ∀ n : Nat, n ≤ xs.length → (n = xs.length ↔ xs.Nodup) → Q (.int n) H1) ∨
   (∃ ks : List (Addr × NestedKey), SqL K H1 l (ks.map fun p => V.ref p.1) ∧ (∀ p ∈ ks, Dp K H1 (.ref p.1) p.2.data ∧ p.2.depth ≤ 8) ∧ ks.length < 64 ∧ ∀ n : Nat, n ≤ ks.length → (n = ks.length ↔ (ks.map (·.2)).Nodup) → Q (.int n) H1))
theorem refs_eq : ∀ {ks : List (Addr × NestedKey)} {us : List Value}, Vals (ks.map fun p => V.ref p.1) us → us = ks.map fun p => Value.ref p.1
  | [], _, .nil => rfl
  | p :: ks, _, .cons r t => by
    cases r
    rw [refs_eq t]
    rfl
theorem pe_lenSetU (hc : X.calm = true) (hu : X.A.units + 64 < cLine) (hg : Gl X "len") (hm : X.mg "len" = none) (hg2 : Gl X "set") (hm2 : X.mg "set" = none) (ha : PE X a ta)
    (na : starEach [a] X.env = (false, eval a X.env) :: starEach [] X.env := by rfl) : PE X (.Call (.Name "len" p) [.Call (.Name "set" p2) [a] [] q] [] pos) (tLenSetU X.K ta) := by
  refine ⟨fun pins s σ H Q I h => ?_⟩
  refine Call_ (ld_blt I hg hm PySem.boot_len ?_)
  refine PyProof.Rows.callWith_builtin1 (PyProof.Rows.args_cons ?_ rfl) rfl rfl
  refine Call_ (ld_blt I hg2 hm2 PyProof.Rows.boot_set ?_)
  refine PyProof.Rows.callWith_type1 (PyProof.Rows.args_cons (thn (ha.run pins s σ H _ I h) fun v s1 ⟨x, H1, I1, r1, q1⟩ => PyProof.Rows.args_nil ?_) na) na rfl
  obtain ⟨l, rfl, q1⟩ := q1
  cases r1
  have hS0 : s1.heap.get? s1.heap.objs.size = none := by
    cases q : s1.heap.get? s1.heap.objs.size with
    | none => rfl
    | some o => exact absurd (Heap.lt_size q) (Nat.lt_irrefl _)
  rcases q1 with ⟨xs, hq, hf, q1⟩ | ⟨ks, hq, hk, hf, q1⟩
  · obtain ⟨its, r, pl, hz⟩ := I1.list hq
    have hl : its.toArray.size = xs.length := by
      have e := r.length
      rw [List.length_map] at e
      rw [List.size_toArray, ← e]
    have hs : StrsAre its xs := SK.strs_of r
    refine call_set (Iv := IvS X.prog X.w s1.heap.objs.size xs) (I1.ok.hd hc) pl.isList (fun A' _ => putsS hs hf) frameS (fun h ho => startS ho) fun h' tk hI hk => ?_
    rw [hl] at hI
    obtain ⟨m, n, ⟨o, es, ep, t, ho, hex, hd, _, _, _, hft, hn⟩, c⟩ := hI
    refine PyProof.Rows.args_nil ?_
    have I2 : Inv X pins σ H1 { s1 with heap := h', toks := tk } := I1.kept hk
    refine call_len_set ho hex hd hft (by have := c.le; rw [hn]; omega) ⟨.int n, H1, I2.tok _, ⟨_, by rw [hn]⟩, q1 n c.le ?_⟩
    have e := c.full
    rwa [List.take_length] at e
  · obtain ⟨its, r, pl, hz⟩ := I1.list hq
    have hi := refs_eq r
    have hl : its.toArray.size = ks.length := by rw [List.size_toArray, hi, List.length_map]
    have hat : ∀ p ∈ ks, At s1.heap p.2 p.1 := fun p hp => ⟨nested I1 p.2 _ _ (hk p hp).1 rfl, (hk p hp).2⟩
    refine call_set (Iv := IvT X.w s1.heap.objs.size ks) (I1.ok.hd hc) pl.isList (fun A' hA => ?_) (frameT hat) (fun h ho => ⟨[], #[], 0, _, newTab ho, fun p hp => absurd hp List.not_mem_nil, Cnt.zero _ fun k => List.not_mem_nil⟩) fun h' tk hI hkp => ?_
    · show Puts _ _ _ _ _ its _
      rw [hi]
      exact putsT hS0 (by omega) hf hat
    · rw [hl] at hI
      obtain ⟨L, es, ep, t, R, sub, c⟩ := hI
      obtain ⟨o, ho, hex, hd⟩ := R.ob
      have hn := rows_size R.rows
      refine PyProof.Rows.args_nil ?_
      have I2 : Inv X pins σ H1 { s1 with heap := h', toks := tk } := I1.kept hkp
      have hft : t.fits es.size = true := Tab.fits (s := { s1 with heap := h' }) R
      refine call_len_set ho hex hd hft (by have := c.le; rw [hn]; omega) ⟨.int L.length, H1, I2.tok _, ⟨_, by rw [hn]⟩, q1 _ c.le ?_⟩
      have e := c.full
      rwa [show (ks.map (·.2)).take ks.length = ks.map (·.2) from by rw [List.take_of_length_le (by rw [List.length_map]; exact Nat.le_refl _)]] at e
end
end NS

set_option Elab.async false
set_option linter.all false
set_option maxRecDepth 100000
set_option maxHeartbeats 4000000
namespace SK
open PySem PySem.Spec PyProof.Rows L2
section
variable {X : Cx} {pins : List (Addr × Obj)} {σ : L2.St} {H : Hp} {xs : List V} {key : V → Str} {l : Addr} {f : Value} {s : Shared} {Q : VK}
theorem tree_run {A : Around} {E : Value → Shared → Prop} {P : PySem.Fin → Shared → Prop} {its : List Value} (I : Inv X pins σ H s) (hv : Vals xs its) (hz : xs.length ≤ 1000) (ht : Turn X A σ H key xs f)
    (h : ∀ ys s', SrtO.Srtd (ltK key) ys → SrtO.Stb (ltK key) ys xs → Inv X pins σ (upd H s.heap.objs.size (.lst ys)) s' → P (.done (.ret .none)) s') :
    wpAny (model X.prog X.w) A (ksk_tree s.heap.objs.size f false) P E { s with heap := s.heap.push (seqObj "list" its.toArray 0) } := by
  have big : (1001 : Nat) ≤ sizeLine := by rw [sizeLine_eq]; decide
  have hzi : its.length ≤ 1000 := by rw [← hv.length]; exact hz
  have ho : (s.heap.push (seqObj "list" its.toArray 0)).get? s.heap.objs.size = some (seqObj "list" its.toArray 0) := Heap.get?_push_size _ rfl
  have e9 : its.toArray.size = its.length := List.size_toArray
  obtain ⟨e1, ho1⟩ : ∃ e1, ((s.heap.push (seqObj "list" its.toArray 0)).update s.heap.objs.size (Obj.mapSeq fun _ => (#[] : Array Value))).get? s.heap.objs.size = some (seqObj "list" #[] e1) := ⟨_, get?_update_seq ho fun _ => #[]⟩
  have hsz : ((s.heap.push (seqObj "list" its.toArray 0)).update s.heap.objs.size (Obj.mapSeq fun _ => (#[] : Array Value))).objs.size = s.heap.objs.size + 1 := by rw [Heap.size_update, size_push']
  have hkS : (((s.heap.push (seqObj "list" its.toArray 0)).update s.heap.objs.size (Obj.mapSeq fun _ => (#[] : Array Value))).push (seqObj "tuple" its.toArray 0)).objs.size = s.heap.objs.size + 2 := by rw [size_push', hsz]
  have keep : ∀ b o, s.heap.get? b = some o → ((((s.heap.push (seqObj "list" its.toArray 0)).update s.heap.objs.size (Obj.mapSeq fun _ => (#[] : Array Value))).push (seqObj "tuple" its.toArray 0)).push (seqObj "list" #[] 0)).get? b = some o := fun b o q =>
    Heap.get?_push_of_some _ (Heap.get?_push_of_some _ ((Heap.get?_update_ne _ _ _ _ (Nat.ne_of_lt (Heap.lt_size q))).trans (Heap.get?_push_of_some _ q)))
  have ha : ((((s.heap.push (seqObj "list" its.toArray 0)).update s.heap.objs.size (Obj.mapSeq fun _ => (#[] : Array Value))).push (seqObj "tuple" its.toArray 0)).push (seqObj "list" #[] 0)).get? s.heap.objs.size = some (seqObj "list" #[] e1) :=
    Heap.get?_push_of_some _ (Heap.get?_push_of_some _ ho1)
  have hk : ((((s.heap.push (seqObj "list" its.toArray 0)).update s.heap.objs.size (Obj.mapSeq fun _ => (#[] : Array Value))).push (seqObj "tuple" its.toArray 0)).push (seqObj "list" #[] 0)).get? (s.heap.objs.size + 2) = some (seqObj "list" #[] 0) := by
    rw [← hkS]; exact Heap.get?_push_size _ rfl
  unfold ksk_tree
  refine wpAny_bind (listItems_at ho rfl ?_)
  refine wpAny_bind (listUpdate_at ho rfl ?_ (by rw [e9]; omega) (Nat.zero_le _))
  refine wpAny_bind (seqEpoch_at ho1 rfl ?_)
  refine wpAny_bind (wpAny_newTuple ?_ (by show its.length ≤ _; omega))
  refine wpAny_bind (wpAny_newList ?_ (Nat.zero_le _))
  refine wpAny_holding ?_
  rw [hkS]
  have pl : ∀ {q : Addr × Obj}, q ∈ X.pn ++ pins → q.1 < s.heap.objs.size := fun {q} hq => Heap.lt_size (I.pin q hq).1
  have ap : Ap X pins s.heap.objs.size (s.heap.objs.size + 2) := ⟨Nat.ne_of_gt (Nat.lt_add_of_pos_right (by decide)), I.sz, Nat.le_trans I.sz (Nat.le_add_right _ _), fun q hq => Nat.ne_of_lt (pl hq), fun q hq => Nat.ne_of_lt (Nat.lt_of_lt_of_le (pl hq) (Nat.le_add_right _ _))⟩
  have I2 : Inv X pins σ H { s with heap := (((s.heap.push (seqObj "list" its.toArray 0)).update s.heap.objs.size (Obj.mapSeq fun _ => (#[] : Array Value))).push (seqObj "tuple" its.toArray 0)).push (seqObj "list" #[] 0) } := I.kept (t' := s.toks) keep
  have lt := I.lt
  refine rest_run (s := { s with heap := (((s.heap.push (seqObj "list" its.toArray 0)).update s.heap.objs.size (Obj.mapSeq fun _ => (#[] : Array Value))).push (seqObj "tuple" its.toArray 0)).push (seqObj "list" #[] 0) }) (xs := xs) ap (I2.pins_of fun q hq => ?_) hv hzi ht h
  rcases List.mem_cons.mp hq with rfl | hq
  · exact ⟨hk, I.hok.fresh (Nat.le_add_right _ 2), Nat.ne_of_gt (Nat.lt_of_lt_of_le lt (Nat.le_add_right _ 2)), I.nofs (Nat.le_add_right _ 2), not_cell⟩
  · rcases List.mem_cons.mp hq with rfl | hq
    · exact ⟨ha, I.hok.fresh (Nat.le_refl _), Nat.ne_of_gt lt, I.nofs (Nat.le_refl _), not_cell⟩
    · exact I2.pin q (List.mem_append_right _ hq)
theorem sorted_run (hcol : ∀ E, wpAny (model X.prog X.w) X.A.in1 (collect (.ref l)) (fun its s' => Vals xs its ∧ Inv X pins σ H s') E s) (hz : xs.length ≤ 1000)
    (ht : ∀ x, Builtin.«list.sort» ⟨[.ref x], [(Str.ofString "key", f)]⟩ = ksk_tree x f false) (hturn : Turn X X.A.in1.in1 σ H key xs f)
    (q : ∀ ys p, SrtO.Srtd (ltK key) ys → SrtO.Stb (ltK key) ys xs → H p = none → Q (.ref p) (upd H p (.lst ys))) :
    wpAny (model X.prog X.w) X.A (call (.builtin "sorted") [.ref l] [(Str.ofString "key", f)]) (EP X pins σ Q) X.xe s := by
  have big : (1001 : Nat) ≤ sizeLine := by rw [sizeLine_eq]; decide
  refine call_function_entry_kw kind_sorted plain_sorted entry_sorted (ksk_s1 _ _) ?_
  unfold Builtin.«sorted»
  refine wpAny_bind (m := checkCount "sorted" 1 1 _) (wpAny_pure ?_)
  refine wpAny_bind (wpAny_mono (hcol _) (fun its s1 hi => ?_) fun _ _ e => e)
  obtain ⟨hv, I⟩ := hi
  refine wpAny_bind (wpAny_newList ?_ (by rw [← hv.length]; omega))
  have hoL : (s1.heap.push (seqObj "list" its.toArray 0)).get? s1.heap.objs.size = some (seqObj "list" its.toArray 0) := Heap.get?_push_size _ rfl
  show wpAny _ _ _ _ _ { s1 with heap := s1.heap.push (seqObj "list" its.toArray 0) }
  refine wpAny_bind (wpAny_holding (wpAny_call_entry_kw slot_list_sort ⟨_, hoL, rfl⟩ entry_list_sort ?body (ksk_l1 _ _)))
  case body =>
    show wpAny (model X.prog X.w) X.A.in1.in1 (Builtin.«list.sort» ⟨[.ref s1.heap.objs.size], [(Str.ofString "key", f)]⟩) _ _ _
    rw [ht]
    refine tree_run I hv hz hturn fun ys s' h1 h2 I' => ⟨_, rfl, ?_⟩
    exact wpAny_pure ⟨_, rfl, .ref s1.heap.objs.size, _, I', rfl, q ys _ h1 h2 (I.hok.fresh (Nat.le_refl _))⟩
/-- the items of a list -/
theorem col_list {A : Around} (I : Inv X pins σ H s) (hs : SqL X.K H l xs) (hz : xs.length ≤ 1000) {E : Value → Shared → Prop} : wpAny (model X.prog X.w) A (collect (.ref l)) (fun its s' => Vals xs its ∧ Inv X pins σ H s') E s := by
  have big : (1001 : Nat) ≤ sizeLine := by rw [sizeLine_eq]; decide
  obtain ⟨its, rv, hl, _⟩ := I.list hs
  refine collect_list hl.isList ⟨rv, I.kept (t' := s.toks) fun b o q => ?_⟩ (by rw [← rv.length]; omega)
  exact (Heap.get?_update_ne _ _ _ _ (Nat.ne_of_lt (Heap.lt_size q))).trans (Heap.get?_push_of_some _ q)
/-- a dict's keys -/
theorem col_dict {A : Around} (hcalm : X.calm = true) (hh : A.handled = none) (I : Inv X pins σ H s) {kvs : List (Key × V)} (hd : Rd H l (.dK kvs)) (hx : xs = kvs.map fun kv => L2.kV kv.1) (hz : xs.length ≤ 1000) {E : Value → Shared → Prop} :
    wpAny (model X.prog X.w) A (collect (.ref l)) (fun its s' => Vals xs its ∧ Inv X pins σ H s') E s := by
  subst hx
  obtain ⟨z, lo, vs, rel, dd⟩ := dk_rd I.hok hd
  obtain ⟨ep, hat⟩ := dd.dictAt
  have hl : kvs.length = vs.length := rel.length
  have big : (1001 : Nat) ≤ sizeLine := by rw [sizeLine_eq]; decide
  refine PySem.W.kdu_collect (A := A) (PySem.W.kdl_dict (knd := mixKind X.prog X.w) (kvs := vs) (ep := ep) lo) hh hat (by rw [List.length_map] at hz; omega) fun h' tk acc hk hacc => ?_
  have hks : kvs.map (·.1) = vs.map (·.1) := rel.keys
  have e : kvs.map (fun kv => L2.kV kv.1) = vs.map fun p => L2.kV p.1 := by
    have := congrArg (List.map L2.kV) hks
    rw [List.map_map, List.map_map] at this
    exact this
  rw [e]
  refine ⟨keys_at (by rw [Array.length_toList, hacc.1]) fun j v e => ?_, I.kept hk⟩
  obtain ⟨k, x, e1, e2⟩ := hacc.2 j v (by rw [← Array.getElem?_toList]; exact e)
  exact ⟨k, x, e1, e2⟩
end
end SK

set_option Elab.async false
set_option linter.all false
set_option maxRecDepth 100000
set_option maxHeartbeats 4000000
/-! str(x) of texts and of tuples, where no repr is under way; sorted(xs, key=str). -/
namespace SK
open PySem PySem.Spec PyProof.Rows L2
/-- what str makes of a value -/
inductive Shows (K : PySem.W.Frag) (H : Hp) : V → Str → Prop
  | str (x : Str) : Shows K H (.str x) x
  | data {a : Addr} {d : PyData} : Dp K H (.ref a) d → d.showable = true → d.hasDict = false → d.depth ≤ 8 → d.shown.length ≤ sizeLine → Shows K H (.ref a) d.shown
section
variable {X : Cx} {A : Around} {pins : List (Addr × Obj)} {σ : L2.St} {H : Hp} {s : Shared}
theorem str_shows {x : V} {y : Str} {v : Value} (hg : A.guards = some []) (hu : A.units + 32 < cLine) (h : Shows X.K H x y) (r : L2.RelV x v) (I : Inv X pins σ H s) {E : Value → Shared → Prop} {Q : Value → Shared → Prop}
    (hQ : ∀ t s', Inv X pins σ H s' → Q (.str y t) s') : wpAny (model X.prog X.w) A (call (.type "str") [v]) Q E s := by
  cases h with
  | str =>
    obtain ⟨t, rfl⟩ := r
    exact PySem.P.str_of_str (hQ t s I)
  | data hd hs hn h8 hz =>
    cases r
    obtain ⟨as, rd⟩ := Dp.reads I _ _ _ hd rfl
    exact str_of_reads rd hs (PyData.noDict_hsm hn) hg (by omega) (fun b o e => e) (fun h' u tk hk => hQ u _ (I.kept hk)) hz
theorem turn_str {key : V → Str} {xs : List V} (hg : A.guards = some []) (hu : A.units + 32 < cLine) (h : ∀ x ∈ xs, Shows X.K H x (key x)) : Turn X A σ H key xs (.type "str") :=
  fun pins s x v hx r I => str_shows hg hu (h x hx) r I fun t s' I' => ⟨⟨t, rfl⟩, I'⟩
/-- str(x) -/
def rStrD (K : PySem.W.Frag) : List V → Hp → VK → Prop := fun vs H Q => ∃ x y, vs = [x] ∧ Shows K H x y ∧ Q (.str y) H
theorem cr_strD (hg : G.Quiet X.A) (hu : X.A.units + 64 < cLine) : CallR X (.type "str") (rStrD X.K) := by
  intro pins s σ H xs us Q I r h
  obtain ⟨x, y, rfl, hs, q⟩ := h
  obtain ⟨u, rfl, ru⟩ := vals1 r
  exact str_shows hg (by omega) hs ru I fun t s' I' => ⟨.str y, H, I', ⟨t, rfl⟩, q⟩
theorem tree_str (x : Addr) : Builtin.«list.sort» ⟨[.ref x], [(Str.ofString "key", .type "str")]⟩ = ksk_tree x (.type "str") false := rfl
/-- sorted(xs, key=str): a list, or a dict's keys -/
def rSortedStr (K : PySem.W.Frag) : List V → List V → Hp → VK → Prop := fun vs zs H Q => ∃ (l : Addr) (xs : List V) (key : V → Str), vs = [V.ref l] ∧ zs = [.ty "str"] ∧ (SqL K H l xs ∨ ∃ kvs : List (Key × V), Rd H l (.dK kvs) ∧ xs = kvs.map fun kv => L2.kV kv.1) ∧ xs.length ≤ 1000 ∧
  (∀ x ∈ xs, Shows K H x (key x)) ∧ ∀ ys p, SrtO.Srtd (ltK key) ys → SrtO.Stb (ltK key) ys xs → H p = none → Q (.ref p) (upd H p (.lst ys))
theorem cr_sortedStr (hc : X.calm = true) (hg : G.Quiet X.A) (hu : X.A.units + 64 < cLine) : CallRK X (.builtin "sorted") [Str.ofString "key"] (rSortedStr X.K) := by
  intro pins s σ H vs zs us ws Q I r rz h
  obtain ⟨l, xs, key, rfl, rfl, hl, hz, hk, q⟩ := h
  obtain rfl := Vals.ref1 r
  obtain ⟨w1, rfl, e1⟩ := vals1 rz
  obtain rfl : w1 = Value.type "str" := e1
  have ht : Turn X X.A.in1.in1 σ H key xs (.type "str") := turn_str (A := X.A.in1.in1) hg (by show X.A.units + 1 + 1 + 32 < cLine; omega) hk
  rcases hl with hl | ⟨kvs, hl, he⟩
  · exact sorted_run (fun E => col_list I hl hz) hz tree_str ht q
  · exact sorted_run (fun E => col_dict (A := X.A.in1) hc (by simp [I.ok.hd hc]) I hl he hz) hz tree_str ht q
end
/-! ### what is sorted so -/
theorem srtd_self {key : V → Str} : ∀ {ys : List V}, SrtO.Srtd (ltK key) ys → ys.Pairwise fun x y => ltS (key y) (key x) = false := fun h => h
end SK

set_option Elab.async false
set_option linter.all false
set_option maxRecDepth 100000
set_option maxHeartbeats 4000000
/-! all([test(x) for x in ..]) over lists, texts, dicts; what is known of data: its type, that it stays. -/
namespace RK
open PySem PySem.Spec PyProof.Rows L2
/-! ### steps -/
theorem same_put {H : Hp} {m : Addr} {u : HO} (h : H m = none) : Same H (upd H m u) := fun b o e => by
  rw [upd_ne (ne_of_none e h)]
  exact e
theorem same_new {H H' : Hp} {m : Addr} {u : HO} (s : Same H H') (h : H m = none) : Same H (upd H' m u) := fun b o e => by
  rw [upd_ne (ne_of_none e h)]
  exact s b o e
/-- a walk over things that stand: what is made is a list of answers -/
theorem all_walk {J : It} {xs : List V} {bs : List Bool} {g : TG} {te : TE} {vs : List Nat} {σ : L2.St} {H1 : Hp} {D : Addr} {Qd : Hp → Prop} (hlen : bs.length = xs.length) (hz : xs.length ≤ 1000) (hD : H1 D = none)
    (stop : ∀ H, Same H1 H → J.stop xs.length H) (go : ∀ i H, i < xs.length → Same H1 H → J.go i H) (yld : ∀ i x H H', Same H1 H → J.yld i H x H' → H' = H ∧ xs[i]? = some x)
    (step : ∀ (i : Nat) x b H Q, xs[i]? = some x → bs[i]? = some b → Same H1 H → (∀ H', Same H H' → Q (.bl b) H') → g x (wipe σ vs) H fun σ2 H2 => wipe σ2 vs = wipe σ vs ∧ te σ2 H2 Q)
    (hd : ∀ H, Same H1 H → H D = some (.lst (bs.map V.bl)) → Qd H) :
    ∃ W : Nat → Nat → Hp → Prop, (∃ m, W 0 m (upd H1 D (.lst []))) ∧ ∀ i m H, W i m H → (J.stop i H ∧ Qd H) ∨ (J.go i H ∧ ∃ Nx : Hp → Prop, (∀ H', Nx H' → ∃ m', m' < m ∧ W (i + 1) m' H') ∧ ∀ x H', J.yld i H x H' → g x (wipe σ vs) H' fun σ2 H2 =>
      wipe σ2 vs = wipe σ vs ∧ tYes σ2 H2 fun b H3 => if b = true then te σ2 H3 fun y H4 => ∃ acc, H4 D = some (.lst acc) ∧ acc.length < sizeLine ∧ Nx (upd H4 D (.lst (acc ++ [y]))) else Nx H3) := by
  have big : (1001 : Nat) ≤ sizeLine := by rw [sizeLine_eq]; decide
  refine ⟨fun i m H => m = xs.length - i ∧ i ≤ xs.length ∧ Same H1 H ∧ H D = some (.lst ((bs.take i).map V.bl)), ⟨xs.length, by simp, Nat.zero_le _, same_put hD, upd_same⟩, ?_⟩
  rintro i m H ⟨rfl, hi, sm, hd'⟩
  by_cases hlt : i < xs.length
  · refine .inr ⟨go i H hlt sm, fun H' => Same H1 H' ∧ H' D = some (.lst ((bs.take (i + 1)).map V.bl)), fun H' p => ⟨xs.length - (i + 1), by omega, rfl, hlt, p⟩, fun x H' y => ?_⟩
    obtain ⟨rfl, hx⟩ := yld i x H H' sm y
    obtain ⟨b, hb⟩ : ∃ b, bs[i]? = some b := ⟨_, List.getElem?_eq_getElem (by omega)⟩
    refine step i x b _ _ hx hb sm fun H2 s2 => ?_
    refine ⟨_, s2 _ _ hd', ?_, ?_, ?_⟩
    · rw [List.length_map, List.length_take]
      omega
    · exact same_new (sm.trans s2) hD
    · rw [upd_same, NS.take_snoc hb, List.map_append, List.map_singleton]
  · have e : i = xs.length := by omega
    subst e
    refine .inl ⟨stop H sm, hd H sm ?_⟩
    rw [← hlen, List.take_length] at hd'
    exact hd'
/-- over a list -/
theorem all_list {K : PySem.W.Frag} {a : Addr} {xs : List V} {bs : List Bool} {g : TG} {te : TE} {vs : List Nat} {σ : L2.St} {H1 : Hp} {D : Addr} {Qd : Hp → Prop} (hs : SqL K H1 a xs) (hlen : bs.length = xs.length) (hz : xs.length ≤ 1000) (hD : H1 D = none)
    (step : ∀ (i : Nat) x b H Q, xs[i]? = some x → bs[i]? = some b → Same H1 H → (∀ H', Same H H' → Q (.bl b) H') → g x (wipe σ vs) H fun σ2 H2 => wipe σ2 vs = wipe σ vs ∧ te σ2 H2 Q)
    (hd : ∀ H, Same H1 H → H D = some (.lst (bs.map V.bl)) → Qd H) :
    ∃ W : Nat → Nat → Hp → Prop, (∃ m, W 0 m (upd H1 D (.lst []))) ∧ ∀ i m H, W i m H → ((Itl K a).stop i H ∧ Qd H) ∨ ((Itl K a).go i H ∧ ∃ Nx : Hp → Prop, (∀ H', Nx H' → ∃ m', m' < m ∧ W (i + 1) m' H') ∧ ∀ x H', (Itl K a).yld i H x H' → g x (wipe σ vs) H' fun σ2 H2 =>
      wipe σ2 vs = wipe σ vs ∧ tYes σ2 H2 fun b H3 => if b = true then te σ2 H3 fun y H4 => ∃ acc, H4 D = some (.lst acc) ∧ acc.length < sizeLine ∧ Nx (upd H4 D (.lst (acc ++ [y]))) else Nx H3) :=
  all_walk hlen hz hD (fun H sm => ⟨xs, sm.seq hs, Nat.le_refl _⟩) (fun i H hlt sm => ⟨xs, xs[i], sm.seq hs, List.getElem?_eq_getElem hlt⟩) (fun i x H H' sm y => ⟨y.1, y.2 xs (sm.seq hs)⟩) step hd
/-- over a text -/
theorem all_str {x : Str} {bs : List Bool} {g : TG} {te : TE} {vs : List Nat} {σ : L2.St} {H1 : Hp} {D : Addr} {Qd : Hp → Prop} (hlen : bs.length = x.cps.size) (hz : x.cps.size ≤ 1000) (hD : H1 D = none)
    (step : ∀ (i : Nat) c b H Q, x.cps[i]? = some c → bs[i]? = some b → Same H1 H → (∀ H', Same H H' → Q (.bl b) H') → g (.str ⟨#[c]⟩) (wipe σ vs) H fun σ2 H2 => wipe σ2 vs = wipe σ vs ∧ te σ2 H2 Q)
    (hd : ∀ H, Same H1 H → H D = some (.lst (bs.map V.bl)) → Qd H) :
    ∃ W : Nat → Nat → Hp → Prop, (∃ m, W 0 m (upd H1 D (.lst []))) ∧ ∀ i m H, W i m H → ((Its x).stop i H ∧ Qd H) ∨ ((Its x).go i H ∧ ∃ Nx : Hp → Prop, (∀ H', Nx H' → ∃ m', m' < m ∧ W (i + 1) m' H') ∧ ∀ y H', (Its x).yld i H y H' → g y (wipe σ vs) H' fun σ2 H2 =>
      wipe σ2 vs = wipe σ vs ∧ tYes σ2 H2 fun b H3 => if b = true then te σ2 H3 fun y H4 => ∃ acc, H4 D = some (.lst acc) ∧ acc.length < sizeLine ∧ Nx (upd H4 D (.lst (acc ++ [y]))) else Nx H3) := by
  have hl : (x.cps.toList.map fun c => V.str ⟨#[c]⟩).length = x.cps.size := by rw [List.length_map, Array.length_toList]
  have at_ : ∀ (i : Nat) (c : Nat), x.cps[i]? = some c → (x.cps.toList.map fun c => V.str ⟨#[c]⟩)[i]? = some (.str ⟨#[c]⟩) := fun i c e => by
    rw [List.getElem?_map, Array.getElem?_toList, e]
    rfl
  refine all_walk (xs := x.cps.toList.map fun c => V.str ⟨#[c]⟩) (hlen.trans hl.symm) (by rw [hl]; exact hz) hD (fun H sm => by rw [hl]; exact Nat.le_refl x.cps.size) (fun i H hlt sm => by rw [hl] at hlt; exact hlt) (fun i y H H' sm q => ?_) (fun i y b H Q hy hb sm k => ?_) hd
  · obtain ⟨e, c, hc, rfl⟩ := q
    exact ⟨e, at_ i c hc⟩
  · rw [List.getElem?_map, Array.getElem?_toList] at hy
    obtain ⟨c, hc, rfl⟩ := Option.map_eq_some_iff.mp hy
    exact step i c b H Q hc hb sm k
/-- over a dict that is held -/
theorem all_keys {d : Addr} {o : Obj} {kvs : List (Key × V)} {bs : List Bool} {g : TG} {te : TE} {vs : List Nat} {σ : L2.St} {H1 : Hp} {D : Addr} {Qd : Hp → Prop} (hs : H1 d = some (.frz o (.dK kvs))) (hlen : bs.length = kvs.length) (hz : kvs.length ≤ 1000) (hD : H1 D = none)
    (step : ∀ (i : Nat) k v b H Q, kvs[i]? = some (k, v) → bs[i]? = some b → Same H1 H → (∀ H', Same H H' → Q (.bl b) H') → g (L2.kV k) (wipe σ vs) H fun σ2 H2 => wipe σ2 vs = wipe σ vs ∧ te σ2 H2 Q)
    (hd : ∀ H, Same H1 H → H D = some (.lst (bs.map V.bl)) → Qd H) :
    ∃ W : Nat → Nat → Hp → Prop, (∃ m, W 0 m (upd H1 D (.lst []))) ∧ ∀ i m H, W i m H → ((Itk d o kvs).stop i H ∧ Qd H) ∨ ((Itk d o kvs).go i H ∧ ∃ Nx : Hp → Prop, (∀ H', Nx H' → ∃ m', m' < m ∧ W (i + 1) m' H') ∧ ∀ y H', (Itk d o kvs).yld i H y H' → g y (wipe σ vs) H' fun σ2 H2 =>
      wipe σ2 vs = wipe σ vs ∧ tYes σ2 H2 fun b H3 => if b = true then te σ2 H3 fun y H4 => ∃ acc, H4 D = some (.lst acc) ∧ acc.length < sizeLine ∧ Nx (upd H4 D (.lst (acc ++ [y]))) else Nx H3) := by
  have hl : (kvs.map fun kv => L2.kV kv.1).length = kvs.length := List.length_map ..
  refine all_walk (xs := kvs.map fun kv => L2.kV kv.1) (hlen.trans hl.symm) (by rw [hl]; exact hz) hD (fun H sm => ⟨sm _ _ hs, by rw [hl]; exact Nat.le_refl _⟩) (fun i H hlt sm => ⟨sm _ _ hs, by rw [hl] at hlt; exact hlt⟩) (fun i y H H' sm q => ?_) (fun i y b H Q hy hb sm k => ?_) hd
  · obtain ⟨e, k, v, hk, rfl⟩ := q
    exact ⟨e, by rw [List.getElem?_map, hk]; rfl⟩
  · rw [List.getElem?_map] at hy
    obtain ⟨kv, hk, rfl⟩ := Option.map_eq_some_iff.mp hy
    exact step i kv.1 kv.2 b H Q hk hb sm k
/-! ### data -/
theorem same_rd {H H' : Hp} {a : Addr} {u : HO} (s : Same H H') (h : Rd H a u) : Rd H' a u := by
  rcases h with h | ⟨o, h⟩
  · exact .inl (s _ _ h)
  · exact .inr ⟨o, s _ _ h⟩
theorem same_seqT {K : PySem.W.Frag} {H H' : Hp} {a : Addr} {xs : List V} (s : Same H H') (h : SqT K H a xs) : SqT K H' a xs := by
  rcases h with h | h
  · exact .inl (same_rd s h)
  · exact .inr h
mutual
theorem dp_same {K : PySem.W.Frag} {H H' : Hp} (s : Same H H') : ∀ (d : PyData) (v : V), Dp K H v d → Dp K H' v d
  | .none, _, h => by cases h; exact .non
  | .bool b, _, h => by cases h; exact .bl b
  | .int i, _, h => by cases h; exact .int i
  | .str x, _, h => by cases h; exact .str x
  | .list ds, _, h => by
    cases h with
    | lst hs ha => exact .lst (s.seq hs) (dps_same s ds _ ha)
  | .tuple ds, _, h => by
    cases h with
    | tup hs ha => exact .tup (same_seqT s hs) (dps_same s ds _ ha)
  | .dict _, _, h => by cases h
theorem dps_same {K : PySem.W.Frag} {H H' : Hp} (s : Same H H') : ∀ (ds : List PyData) (vs : List V), DpAll K H vs ds → DpAll K H' vs ds
  | [], _, h => by cases h; exact .nil
  | d :: ds, _, h => by
    cases h with
    | cons h1 h2 => exact .cons (dp_same s d _ h1) (dps_same s ds _ h2)
end
end RK

set_option Elab.async false
set_option linter.all false
set_option maxRecDepth 100000
set_option maxHeartbeats 4000000
/-! What a rule's parts are asked for, over data. -/
namespace RK
open PySem PySem.Spec PyProof.Rows L2
/-! ### types -/
def tn : PyData → String
  | .none => "NoneType"
  | .bool _ => "bool"
  | .int _ => "int"
  | .str _ => "str"
  | .list _ => "list"
  | .tuple _ => "tuple"
  | .dict _ => "dict"
theorem dp_ty {K : PySem.W.Frag} {H : Hp} {v : V} {d : PyData} (h : Dp K H v d) : TyX K H v (.type (tn d)) := by
  cases h with
  | non => exact .base .non
  | bl b => exact .base (.bl b)
  | int i => exact .base (.int i)
  | str x => exact .base (.str x)
  | lst hs _ =>
    rcases hs with (h | ⟨o, h⟩) | ⟨o, its, n, h, hc, _⟩
    · exact .base (.lst h)
    · exact .base (.frz h)
    · exact .kList h hc
  | tup hs _ =>
    rcases hs with (h | ⟨o, h⟩) | ⟨o, its, n, h, hc, _⟩
    · exact .base (.tup h)
    · exact .fTuple h
    · exact .kTuple h hc
def strB : PyData → Bool
  | .str _ => true
  | _ => false
def intB : PyData → Bool
  | .int _ => true
  | .bool _ => true
  | _ => false
def boolB : PyData → Bool
  | .bool _ => true
  | _ => false
def listB : PyData → Bool
  | .list _ => true
  | _ => false
def tupB : PyData → Bool
  | .tuple _ => true
  | _ => false
def dictB : PyData → Bool
  | .dict _ => true
  | _ => false
theorem kit_str : ∀ d : PyData, kitB (tn d) "str" = some (strB d)
  | .none => (by decide +kernel : kitB "NoneType" "str" = some false)
  | .bool _ => (by decide +kernel : kitB "bool" "str" = some false)
  | .int _ => (by decide +kernel : kitB "int" "str" = some false)
  | .str _ => (by decide +kernel : kitB "str" "str" = some true)
  | .list _ => (by decide +kernel : kitB "list" "str" = some false)
  | .tuple _ => (by decide +kernel : kitB "tuple" "str" = some false)
  | .dict _ => (by decide +kernel : kitB "dict" "str" = some false)
theorem kit_int : ∀ d : PyData, kitB (tn d) "int" = some (intB d)
  | .none => (by decide +kernel : kitB "NoneType" "int" = some false)
  | .bool _ => (by decide +kernel : kitB "bool" "int" = some true)
  | .int _ => (by decide +kernel : kitB "int" "int" = some true)
  | .str _ => (by decide +kernel : kitB "str" "int" = some false)
  | .list _ => (by decide +kernel : kitB "list" "int" = some false)
  | .tuple _ => (by decide +kernel : kitB "tuple" "int" = some false)
  | .dict _ => (by decide +kernel : kitB "dict" "int" = some false)
theorem kit_bool : ∀ d : PyData, kitB (tn d) "bool" = some (boolB d)
  | .none => (by decide +kernel : kitB "NoneType" "bool" = some false)
  | .bool _ => (by decide +kernel : kitB "bool" "bool" = some true)
  | .int _ => (by decide +kernel : kitB "int" "bool" = some false)
  | .str _ => (by decide +kernel : kitB "str" "bool" = some false)
  | .list _ => (by decide +kernel : kitB "list" "bool" = some false)
  | .tuple _ => (by decide +kernel : kitB "tuple" "bool" = some false)
  | .dict _ => (by decide +kernel : kitB "dict" "bool" = some false)
theorem kit_list : ∀ d : PyData, kitB (tn d) "list" = some (listB d)
  | .none => (by decide +kernel : kitB "NoneType" "list" = some false)
  | .bool _ => (by decide +kernel : kitB "bool" "list" = some false)
  | .int _ => (by decide +kernel : kitB "int" "list" = some false)
  | .str _ => (by decide +kernel : kitB "str" "list" = some false)
  | .list _ => (by decide +kernel : kitB "list" "list" = some true)
  | .tuple _ => (by decide +kernel : kitB "tuple" "list" = some false)
  | .dict _ => (by decide +kernel : kitB "dict" "list" = some false)
theorem kit_tup : ∀ d : PyData, kitB (tn d) "tuple" = some (tupB d)
  | .none => (by decide +kernel : kitB "NoneType" "tuple" = some false)
  | .bool _ => (by decide +kernel : kitB "bool" "tuple" = some false)
  | .int _ => (by decide +kernel : kitB "int" "tuple" = some false)
  | .str _ => (by decide +kernel : kitB "str" "tuple" = some false)
  | .list _ => (by decide +kernel : kitB "list" "tuple" = some false)
  | .tuple _ => (by decide +kernel : kitB "tuple" "tuple" = some true)
  | .dict _ => (by decide +kernel : kitB "dict" "tuple" = some false)
theorem kit_dict : ∀ d : PyData, kitB (tn d) "dict" = some (dictB d)
  | .none => (by decide +kernel : kitB "NoneType" "dict" = some false)
  | .bool _ => (by decide +kernel : kitB "bool" "dict" = some false)
  | .int _ => (by decide +kernel : kitB "int" "dict" = some false)
  | .str _ => (by decide +kernel : kitB "str" "dict" = some false)
  | .list _ => (by decide +kernel : kitB "list" "dict" = some false)
  | .tuple _ => (by decide +kernel : kitB "tuple" "dict" = some false)
  | .dict _ => (by decide +kernel : kitB "dict" "dict" = some true)
/-! ### texts -/
def letters : Str := "abcdefghijklmnopqrstuvwxyz"
def signL : List Str := ["less", "upto", "same", "from", "more", "any"]
def wordS (y : Str) : Bool := decide (1 ≤ y.cps.size) && (decide (y.cps.size ≤ 8) && y.cps.toList.all fun c => decide (c ∈ letters.cps.toList))
def wordD : PyData → Bool
  | .str y => wordS y
  | _ => false
def oneD (names : List Str) : PyData → Bool
  | .str y => names.contains y
  | _ => false
def txt : PyData → Str
  | .str y => y
  | _ => ""
/-- a text that a sign may be asked to be -/
def askable : PyData → Bool
  | .str y => (signL ++ (["small"] : List Str)).contains y
  | _ => true
mutual
def nk : PyData → NestedKey
  | .str y => .text y
  | .int i => .num i
  | .tuple ds => .tup (nks ds)
  | .none => .none
  | .bool _ => .none
  | .list _ => .none
  | .dict _ => .none
def nks : List PyData → List NestedKey
  | [] => []
  | d :: ds => nk d :: nks ds
end
/-! ### the parts -/
def kindsD : PyData → Bool
  | .list ds => (decide (1 ≤ ds.length) && decide (ds.length ≤ 5)) && (ds.all wordD && decide (ds.map txt).Nodup)
  | _ => false
def names : PyData → List Str
  | .list ds => ds.map txt
  | _ => []
inductive MD where
  | dict (kvs : List (Key × V))
  | other (d : PyData)
def wordK : Key → Bool
  | .inr y => wordS y
  | .inl _ => false
def boolV : V → Bool
  | .bl _ => true
  | _ => false
def measD : MD → Bool
  | .dict kvs => (decide (1 ≤ kvs.length) && decide (kvs.length ≤ 3)) && (kvs.all (fun p => wordK p.1) && kvs.all fun p => boolV p.2)
  | .other _ => false
def manyD : MD → Nat
  | .dict kvs => kvs.length
  | .other _ => 0
def signsD (many : Nat) : PyData → Bool
  | .tuple ss => decide (ss.length = many) && ss.all (oneD signL)
  | _ => false
def wayD (kinds : List Str) (many : Nat) : PyData → Bool
  | .tuple [k, b, s] => (oneD kinds k && oneD kinds b) && signsD many s
  | _ => false
def waysD (kinds : List Str) (many : Nat) : PyData → Bool
  | .list ds => (decide (1 ≤ ds.length) && decide (ds.length ≤ 12)) && (ds.all (wayD kinds many) && decide (ds.map nk).Nodup)
  | _ => false
def limitD (least : Int) : PyData → Bool
  | .none => true
  | .int i => decide (least ≤ i) && decide (i ≤ 9)
  | _ => false
def wrongD (kinds : PyData) (meas : MD) (ways deep tall free : PyData) : Option Str :=
  if kindsD kinds = false then some "kinds" else if measD meas = false then some "measures" else if waysD (names kinds) (manyD meas) ways = false then some "ways" else
  if limitD 0 deep = false then some "deep" else if limitD 1 tall = false then some "tall" else if boolB free = false then some "free" else none
/-- what the parts may be: no longer than the law's -/
def Few (ds : List PyData) : Prop := ds.length ≤ 1000
def WayOk : PyData → Prop
  | .tuple ds => Few ds ∧ ∀ s ∈ ds, ∀ ss, s = .tuple ss → Few ss ∧ ∀ z ∈ ss, askable z = true
  | _ => True
def KindsOk : PyData → Prop
  | .list ds => Few ds ∧ ∀ d ∈ ds, ∀ y, d = .str y → y.cps.size ≤ 1000
  | .str y => y.cps.size ≤ 1000
  | _ => True
def WaysOk : PyData → Prop
  | .list ds => Few ds ∧ ∀ d ∈ ds, WayOk d
  | _ => True
inductive MAt (K : PySem.W.Frag) (H : Hp) (v : V) : MD → Prop
  | dict {a : Addr} {kvs : List (Key × V)} (e : v = .ref a) (h : H a = some (.dK kvs)) (hz : kvs.length ≤ 1000) (nd : (kvs.map (·.1)).Nodup) (fl : ∀ p ∈ kvs, flatV p.2 = true) (kz : ∀ p ∈ kvs, ∀ y, p.1 = .inr y → y.cps.size ≤ 1000) : MAt K H v (.dict kvs)
  | other {d : PyData} (h : Dp K H v d) (nd : dictB d = false) : MAt K H v (.other d)
theorem MAt.same {K : PySem.W.Frag} {H H' : Hp} {v : V} {m : MD} (h : MAt K H v m) (s : Same H H') : MAt K H' v m := by
  cases h with
  | dict e h hz nd fl kz => exact .dict e (s _ _ h) hz nd fl kz
  | other h nd => exact .other (dp_same s _ _ h) nd
/-! ### ways are keys -/
theorem one_str {l : List Str} {d : PyData} (h : oneD l d = true) : ∃ y, d = .str y ∧ y ∈ l := by
  cases d with
  | str y => exact ⟨y, rfl, by simpa [oneD] using h⟩
  | _ => cases h
theorem nks_strs : ∀ {ss : List PyData} {l : List Str}, ss.all (oneD l) = true → NestedKey.datas (nks ss) = ss ∧ NestedKey.depthAll (nks ss) = 0
  | [], _, _ => ⟨rfl, rfl⟩
  | d :: ss, l, h => by
    rw [List.all_cons, Bool.and_eq_true] at h
    obtain ⟨y, rfl, _⟩ := one_str h.1
    obtain ⟨e1, e2⟩ := nks_strs h.2
    refine ⟨?_, ?_⟩
    · show PyData.str y :: NestedKey.datas (nks ss) = _
      rw [e1]
    · show max 0 (NestedKey.depthAll (nks ss)) = 0
      rw [e2]
      rfl
/-- a way's shape -/
theorem way_shape {kinds : List Str} {many : Nat} {d : PyData} (h : wayD kinds many d = true) : ∃ (k b : Str) (ss : List PyData), d = .tuple [.str k, .str b, .tuple ss] ∧ k ∈ kinds ∧ b ∈ kinds ∧ ss.length = many ∧ ss.all (oneD signL) = true := by
  unfold wayD at h
  split at h
  · rename_i k b s
    rw [Bool.and_eq_true, Bool.and_eq_true] at h
    obtain ⟨⟨h1, h2⟩, h3⟩ := h
    obtain ⟨k', rfl, hk⟩ := one_str h1
    obtain ⟨b', rfl, hb⟩ := one_str h2
    cases s with
    | tuple ss =>
      have h3' : (decide (ss.length = many) && ss.all (oneD signL)) = true := h3
      rw [Bool.and_eq_true, decide_eq_true_eq] at h3'
      exact ⟨k', b', ss, rfl, hk, hb, h3'.1, h3'.2⟩
    | _ => cases h3
  · cases h
theorem way_key {kinds : List Str} {many : Nat} {d : PyData} (h : wayD kinds many d = true) : (nk d).data = d ∧ (nk d).depth = 2 := by
  obtain ⟨k, b, ss, rfl, _, _, _, hs⟩ := way_shape h
  obtain ⟨e1, e2⟩ := nks_strs hs
  refine ⟨?_, ?_⟩
  · show PyData.tuple [.str k, .str b, .tuple (NestedKey.datas (nks ss))] = _
    rw [e1]
  · show max 0 (max 0 (max (NestedKey.depthAll (nks ss) + 1) 0)) + 1 = 2
    rw [e2]
    rfl
end RK

set_option Elab.async false
set_option linter.all false
set_option maxRecDepth 100000
set_option maxHeartbeats 4000000
namespace RK
open PySem PySem.Spec PyProof.Rows L2
/-- over a tuple -/
theorem all_tup {K : PySem.W.Frag} {a : Addr} {xs : List V} {bs : List Bool} {g : TG} {te : TE} {vs : List Nat} {σ : L2.St} {H1 : Hp} {D : Addr} {Qd : Hp → Prop} (hs : SqT K H1 a xs) (hlen : bs.length = xs.length) (hz : xs.length ≤ 1000) (hD : H1 D = none)
    (step : ∀ (i : Nat) x b H Q, xs[i]? = some x → bs[i]? = some b → Same H1 H → (∀ H', Same H H' → Q (.bl b) H') → g x (wipe σ vs) H fun σ2 H2 => wipe σ2 vs = wipe σ vs ∧ te σ2 H2 Q)
    (hd : ∀ H, Same H1 H → H D = some (.lst (bs.map V.bl)) → Qd H) :
    ∃ W : Nat → Nat → Hp → Prop, (∃ m, W 0 m (upd H1 D (.lst []))) ∧ ∀ i m H, W i m H → ((Itt K a).stop i H ∧ Qd H) ∨ ((Itt K a).go i H ∧ ∃ Nx : Hp → Prop, (∀ H', Nx H' → ∃ m', m' < m ∧ W (i + 1) m' H') ∧ ∀ x H', (Itt K a).yld i H x H' → g x (wipe σ vs) H' fun σ2 H2 =>
      wipe σ2 vs = wipe σ vs ∧ tYes σ2 H2 fun b H3 => if b = true then te σ2 H3 fun y H4 => ∃ acc, H4 D = some (.lst acc) ∧ acc.length < sizeLine ∧ Nx (upd H4 D (.lst (acc ++ [y]))) else Nx H3) :=
  all_walk hlen hz hD (fun H sm => ⟨xs, same_seqT sm hs, Nat.le_refl _⟩) (fun i H hlt sm => ⟨xs, xs[i], same_seqT sm hs, List.getElem?_eq_getElem hlt⟩) (fun i x H H' sm y => ⟨y.1, y.2 xs (same_seqT sm hs)⟩) step hd
/-! ### lists of data -/
theorem dps_len {K : PySem.W.Frag} {H : Hp} : ∀ {xs : List V} {ds : List PyData}, DpAll K H xs ds → ds.length = xs.length
  | _, _, .nil => rfl
  | _, _, .cons _ t => congrArg Nat.succ (dps_len t)
theorem dps_at {K : PySem.W.Frag} {H : Hp} : ∀ {xs : List V} {ds : List PyData} {i : Nat} {x : V}, DpAll K H xs ds → xs[i]? = some x → ∃ d, ds[i]? = some d ∧ Dp K H x d
  | _, _, 0, x, .cons h t, e => ⟨_, rfl, by rw [← Option.some.inj e]; exact h⟩
  | _, _, i + 1, x, .cons h t, e => dps_at (i := i) t e
theorem dps_strs {K : PySem.W.Frag} {H : Hp} : ∀ {xs : List V} {ds : List PyData}, DpAll K H xs ds → ds.all strB = true → xs = (ds.map txt).map V.str
  | _, _, .nil, _ => rfl
  | _, _, .cons h t, e => by
    rw [List.all_cons, Bool.and_eq_true] at e
    cases h with
    | str x => rw [dps_strs t e.2]; rfl
    | _ => cases e.1
theorem inV_strs (y : Str) (l : List Str) : inV (.str y) (l.map V.str) = l.contains y := by
  show (l.map V.str).any _ = _
  induction l with
  | nil => rfl
  | cons z l ih =>
    rw [List.map_cons, List.any_cons, ih, List.contains_cons]
    congr 1
    show decide (z = y) = (y == z)
    by_cases e : z = y
    · subst e; simp
    · rw [decide_eq_false e, beq_eq_false_iff_ne.mpr fun q => e q.symm]
theorem inV_odd {x : V} (h : flatV x = true) (hn : ∀ y, x ≠ .str y) (l : List Str) : inV x (l.map V.str) = false := by
  show (l.map V.str).any _ = _
  induction l with
  | nil => rfl
  | cons z l ih =>
    rw [List.map_cons, List.any_cons, ih, Bool.or_false]
    cases x with
    | str y => exact absurd rfl (hn y)
    | _ => rfl
theorem flat_strs (l : List Str) : (l.map V.str).all flatV = true := by
  induction l with
  | nil => rfl
  | cons z l ih => rw [List.map_cons, List.all_cons, ih]; rfl
theorem valV_at {kvs : List (Key × V)} (nd : (kvs.map (·.1)).Nodup) : ∀ {i : Nat} {k : Key} {v : V}, kvs[i]? = some (k, v) → valV kvs k = some v := by
  induction kvs with
  | nil => intro i k v e; cases e
  | cons p r ih =>
    intro i k v e
    rw [List.map_cons, List.nodup_cons] at nd
    cases i with
    | zero =>
      have e' : p = (k, v) := Option.some.inj e
      subst e'
      exact valV_pos rfl
    | succ i =>
      have hm : k ∈ r.map (·.1) := List.mem_map.mpr ⟨(k, v), List.mem_of_getElem? e, rfl⟩
      rw [valV_neg fun z => nd.1 (by rw [z]; exact hm)]
      exact ih nd.2 e
theorem all_map {α : Type} (f : α → Bool) (l : List α) : (l.map f).all id = l.all f := by rw [List.all_map]; rfl
/-! ### bounds, as asked and as known -/
theorem no_le {n m : Nat} (h : (!decide ((n : Int) ≤ (m : Int))) = true) : ¬ n ≤ m := fun z => by
  rw [decide_eq_true (Int.ofNat_le.mpr z)] at h
  cases h
theorem of_yes_le {n m : Nat} (h : ¬ (!decide ((n : Int) ≤ (m : Int))) = true) : n ≤ m := by
  by_cases z : (n : Int) ≤ (m : Int)
  · exact Int.ofNat_le.mp z
  · exact absurd (by rw [decide_eq_false z]; rfl) h
theorem of_yes_one {n : Nat} (h : decide ((1 : Int) ≤ (n : Int)) = true) : 1 ≤ n := Int.ofNat_le.mp (of_decide_eq_true h)
theorem of_no_one {n : Nat} (h : ¬ decide ((1 : Int) ≤ (n : Int)) = true) : ¬ 1 ≤ n := fun z => h (decide_eq_true (Int.ofNat_le.mpr z))
theorem kinds_long {ds : List PyData} {xs : List V} (h : ¬ xs.length ≤ 5) (hl : ds.length = xs.length) : kindsD (.list ds) = false := by
  show ((decide (1 ≤ ds.length) && decide (ds.length ≤ 5)) && _) = false
  rw [decide_eq_false (p := ds.length ≤ 5) (by rw [hl]; exact h), Bool.and_false, Bool.false_and]
theorem kinds_short {ds : List PyData} {xs : List V} (h : ¬ 1 ≤ xs.length) (hl : ds.length = xs.length) : kindsD (.list ds) = false := by
  show ((decide (1 ≤ ds.length) && decide (ds.length ≤ 5)) && _) = false
  rw [decide_eq_false (by rw [hl]; exact h), Bool.false_and, Bool.false_and]
theorem kinds_odd {ds : List PyData} (h : ds.all wordD = false) : kindsD (.list ds) = false := by
  show (_ && (ds.all wordD && _)) = false
  rw [h, Bool.false_and, Bool.and_false]
theorem kinds_good {ds : List PyData} {xs : List V} {n : Nat} (hl : ds.length = xs.length) (h1 : 1 ≤ xs.length) (h2 : xs.length ≤ 5) (hw : ds.all wordD = true) (hn : n ≤ (ds.map txt).length) (hd : n = (ds.map txt).length ↔ (ds.map txt).Nodup) :
    kindsD (.list ds) = decide ((n : Int) = (xs.length : Int)) := by
  show ((decide (1 ≤ ds.length) && decide (ds.length ≤ 5)) && (ds.all wordD && decide _)) = _
  rw [decide_eq_true (by omega : 1 ≤ ds.length), decide_eq_true (by omega : ds.length ≤ 5), hw, Bool.true_and, Bool.true_and, Bool.true_and]
  have e : (ds.map txt).length = xs.length := by rw [List.length_map, hl]
  rw [e] at hd
  by_cases z : n = xs.length
  · rw [decide_eq_true (hd.mp z), z, decide_eq_true rfl]
  · rw [decide_eq_false fun q => z (hd.mpr q), decide_eq_false (p := (n : Int) = (xs.length : Int)) fun q => z (Int.ofNat.inj q)]
theorem meas_long {kvs : List (Key × V)} (h : ¬ kvs.length ≤ 3) : measD (.dict kvs) = false := by
  show ((decide (1 ≤ kvs.length) && decide (kvs.length ≤ 3)) && _) = false
  rw [decide_eq_false (p := kvs.length ≤ 3) h, Bool.and_false, Bool.false_and]
theorem meas_short {kvs : List (Key × V)} (h : ¬ 1 ≤ kvs.length) : measD (.dict kvs) = false := by
  show ((decide (1 ≤ kvs.length) && decide (kvs.length ≤ 3)) && _) = false
  rw [decide_eq_false (p := 1 ≤ kvs.length) h, Bool.false_and, Bool.false_and]
theorem meas_odd {kvs : List (Key × V)} (h : (kvs.all fun p => wordK p.1) = false) : measD (.dict kvs) = false := by
  show (_ && ((kvs.all fun p => wordK p.1) && _)) = false
  rw [h, Bool.false_and, Bool.and_false]
theorem meas_good {kvs : List (Key × V)} (h1 : 1 ≤ kvs.length) (h2 : kvs.length ≤ 3) (h : (kvs.all fun p => wordK p.1) = true) : measD (.dict kvs) = kvs.all fun p => boolV p.2 := by
  show ((decide (1 ≤ kvs.length) && decide (kvs.length ≤ 3)) && ((kvs.all fun p => wordK p.1) && _)) = _
  rw [h, decide_eq_true h1, decide_eq_true h2, Bool.true_and, Bool.true_and, Bool.true_and]
/-- what was held is let go as it was -/
theorem same_unlock {H H2 : Hp} {a : Addr} {o : Obj} {u : HO} (h : H a = some u) (s : Same (upd H a (.frz o u)) H2) : Same H (upd H2 a u) := fun b v e => by
  by_cases z : b = a
  · subst z
    rw [upd_same]
    rw [h] at e
    exact e
  · rw [upd_ne z]
    exact s b v (by rw [upd_ne z]; exact e)
theorem of_ne {n m : Nat} (h : (!decide ((n : Int) = (m : Int))) = true) : n ≠ m := fun z => by
  rw [decide_eq_true (p := (n : Int) = (m : Int)) (by rw [z])] at h
  cases h
theorem of_not_ne {n m : Nat} (h : ¬ (!decide ((n : Int) = (m : Int))) = true) : n = m := by
  by_cases z : (n : Int) = (m : Int)
  · exact Int.ofNat.inj z
  · exact absurd (by rw [decide_eq_false z]; rfl) h
theorem dps_three {K : PySem.W.Frag} {H : Hp} {xs : List V} {ds : List PyData} (h : xs.length = 3) (ha : DpAll K H xs ds) : ∃ x0 x1 x2 d0 d1 d2, xs = [x0, x1, x2] ∧ ds = [d0, d1, d2] ∧ Dp K H x0 d0 ∧ Dp K H x1 d1 ∧ Dp K H x2 d2 := by
  match xs, h with
  | [x0, x1, x2], _ =>
    cases ha with
    | cons h0 ha =>
      cases ha with
      | cons h1 ha =>
        cases ha with
        | cons h2 ha =>
          cases ha
          exact ⟨_, _, _, _, _, _, rfl, rfl, h0, h1, h2⟩
theorem way_len {l : List Str} {many : Nat} {ds : List PyData} {xs : List V} (h : xs.length ≠ 3) (hl : ds.length = xs.length) : wayD l many (.tuple ds) = false := by
  rw [← hl] at h
  match ds, h with
  | [], _ => rfl
  | [_], _ => rfl
  | [_, _], _ => rfl
  | [_, _, _], h => exact absurd rfl h
  | _ :: _ :: _ :: _ :: _, _ => rfl
theorem way_k {l : List Str} {many : Nat} {a b c : PyData} (h : oneD l a = false) : wayD l many (.tuple [a, b, c]) = false := by
  show ((oneD l a && oneD l b) && signsD many c) = false
  rw [h]
  rfl
theorem way_b {l : List Str} {many : Nat} {a b c : PyData} (h : oneD l b = false) : wayD l many (.tuple [a, b, c]) = false := by
  show ((oneD l a && oneD l b) && signsD many c) = false
  rw [h, Bool.and_false]
  rfl
theorem way_s {l : List Str} {many : Nat} {a b c : PyData} (h : signsD many c = false) : wayD l many (.tuple [a, b, c]) = false := by
  show ((oneD l a && oneD l b) && signsD many c) = false
  rw [h, Bool.and_false]
theorem way_m {l : List Str} {many : Nat} {a b : PyData} {ss : List PyData} {ys : List V} (h : ys.length ≠ many) (hl : ss.length = ys.length) : wayD l many (.tuple [a, b, .tuple ss]) = false := by
  refine way_s ?_
  show (decide (ss.length = many) && _) = false
  rw [decide_eq_false (by rw [hl]; exact h)]
  rfl
theorem way_end {l : List Str} {many : Nat} {a b : PyData} {ss : List PyData} (h1 : oneD l a = true) (h2 : oneD l b = true) (hl : ss.length = many) : wayD l many (.tuple [a, b, .tuple ss]) = ss.all (oneD signL) := by
  show ((oneD l a && oneD l b) && (decide (ss.length = many) && ss.all (oneD signL))) = _
  rw [h1, h2, decide_eq_true hl]
  rfl
/-- x in d, d a written dict with texts as its keys -/
def rKd (K : PySem.W.Frag) (d : Addr) : R2 := fun x y H Q => ∃ (z : Str) (r : Option Value), x = .str z ∧ y = .ref d ∧ PySem.W.nsIn K d z = some r ∧ Q (.bl r.isSome) H
theorem op_kd {X : Cx} {d : Addr} {es : Array DictEntry} {n : Nat} (D : KDict X.K X.w d es n) : OpR X (compareOp .In) (rKd X.K d) := op_in_kd D
theorem ways_long {l : List Str} {many : Nat} {ds : List PyData} {xs : List V} (h : ¬ xs.length ≤ 12) (hl : ds.length = xs.length) : waysD l many (.list ds) = false := by
  show ((decide (1 ≤ ds.length) && decide (ds.length ≤ 12)) && _) = false
  rw [decide_eq_false (p := ds.length ≤ 12) (by rw [hl]; exact h), Bool.and_false, Bool.false_and]
theorem ways_short {l : List Str} {many : Nat} {ds : List PyData} {xs : List V} (h : ¬ 1 ≤ xs.length) (hl : ds.length = xs.length) : waysD l many (.list ds) = false := by
  show ((decide (1 ≤ ds.length) && decide (ds.length ≤ 12)) && _) = false
  rw [decide_eq_false (p := 1 ≤ ds.length) (by rw [hl]; exact h), Bool.false_and, Bool.false_and]
theorem ways_odd {l : List Str} {many : Nat} {ds : List PyData} (h : ds.all (wayD l many) = false) : waysD l many (.list ds) = false := by
  show (_ && (ds.all (wayD l many) && _)) = false
  rw [h, Bool.false_and, Bool.and_false]
theorem ways_good {l : List Str} {many : Nat} {ds : List PyData} {xs : List V} {n : Nat} (hl : ds.length = xs.length) (h1 : 1 ≤ xs.length) (h2 : xs.length ≤ 12) (hw : ds.all (wayD l many) = true) (hd : n = xs.length ↔ (ds.map nk).Nodup) :
    waysD l many (.list ds) = decide ((n : Int) = (xs.length : Int)) := by
  show ((decide (1 ≤ ds.length) && decide (ds.length ≤ 12)) && (ds.all (wayD l many) && decide _)) = _
  rw [decide_eq_true (by omega : 1 ≤ ds.length), decide_eq_true (by omega : ds.length ≤ 12), hw, Bool.true_and, Bool.true_and, Bool.true_and]
  by_cases z : n = xs.length
  · rw [decide_eq_true (hd.mp z), z, decide_eq_true rfl]
  · rw [decide_eq_false fun q => z (hd.mpr q), decide_eq_false (p := (n : Int) = (xs.length : Int)) fun q => z (Int.ofNat.inj q)]
/-- good ways stand at addresses, as keys -/
theorem ways_keys {K : PySem.W.Frag} {H : Hp} {l : List Str} {many : Nat} : ∀ {xs : List V} {ds : List PyData}, DpAll K H xs ds → ds.all (wayD l many) = true →
    ∃ ks : List (Addr × NestedKey), xs = ks.map (fun p => V.ref p.1) ∧ ds.map nk = ks.map (·.2) ∧ ∀ p ∈ ks, Dp K H (.ref p.1) p.2.data ∧ p.2.depth ≤ 8
  | _, _, .nil, _ => ⟨[], rfl, rfl, fun p h => absurd h List.not_mem_nil⟩
  | _, _, .cons (d := d) h t, e => by
    rw [List.all_cons, Bool.and_eq_true] at e
    obtain ⟨ks, e1, e2, e3⟩ := ways_keys t e.2
    obtain ⟨q1, q2⟩ := way_key e.1
    obtain ⟨k, b, ss, rfl, _⟩ := way_shape e.1
    cases h with
    | @tup a ys _ hs ha =>
    refine ⟨(a, nk (.tuple [.str k, .str b, .tuple ss])) :: ks, by rw [e1]; rfl, by rw [List.map_cons, List.map_cons, e2], fun p hp => ?_⟩
    rcases List.mem_cons.mp hp with rfl | hp
    · exact ⟨by rw [q1]; exact .tup hs ha, by rw [q2]; decide⟩
    · exact e3 p hp
theorem limit_int {least i : Int} : limitD least (.int i) = (decide (least ≤ i) && decide (i ≤ 9)) := rfl
section
variable {kd yd dd td fd : PyData} {md : MD}
theorem wrong1 (h : kindsD kd = false) : wrongD kd md yd dd td fd = some (Str.ofString "kinds") := by unfold wrongD; rw [if_pos h]
theorem wrong2 (h : kindsD kd = true) (h2 : measD md = false) : wrongD kd md yd dd td fd = some (Str.ofString "measures") := by unfold wrongD; rw [if_neg (by rw [h]; decide), if_pos h2]
theorem wrong3 (h : kindsD kd = true) (h2 : measD md = true) (h3 : waysD (names kd) (manyD md) yd = false) : wrongD kd md yd dd td fd = some (Str.ofString "ways") := by unfold wrongD; rw [if_neg (by rw [h]; decide), if_neg (by rw [h2]; decide), if_pos h3]
theorem wrong4 (h : kindsD kd = true) (h2 : measD md = true) (h3 : waysD (names kd) (manyD md) yd = true) (h4 : limitD 0 dd = false) : wrongD kd md yd dd td fd = some (Str.ofString "deep") := by
  unfold wrongD; rw [if_neg (by rw [h]; decide), if_neg (by rw [h2]; decide), if_neg (by rw [h3]; decide), if_pos h4]
theorem wrong5 (h : kindsD kd = true) (h2 : measD md = true) (h3 : waysD (names kd) (manyD md) yd = true) (h4 : limitD 0 dd = true) (h5 : limitD 1 td = false) : wrongD kd md yd dd td fd = some (Str.ofString "tall") := by
  unfold wrongD; rw [if_neg (by rw [h]; decide), if_neg (by rw [h2]; decide), if_neg (by rw [h3]; decide), if_neg (by rw [h4]; decide), if_pos h5]
theorem wrong6 (h : kindsD kd = true) (h2 : measD md = true) (h3 : waysD (names kd) (manyD md) yd = true) (h4 : limitD 0 dd = true) (h5 : limitD 1 td = true) (h6 : boolB fd = false) : wrongD kd md yd dd td fd = some (Str.ofString "free") := by
  unfold wrongD; rw [if_neg (by rw [h]; decide), if_neg (by rw [h2]; decide), if_neg (by rw [h3]; decide), if_neg (by rw [h4]; decide), if_neg (by rw [h5]; decide), if_pos h6]
theorem wrong7 (h : kindsD kd = true) (h2 : measD md = true) (h3 : waysD (names kd) (manyD md) yd = true) (h4 : limitD 0 dd = true) (h5 : limitD 1 td = true) (h6 : boolB fd = true) : wrongD kd md yd dd td fd = none := by
  unfold wrongD; rw [if_neg (by rw [h]; decide), if_neg (by rw [h2]; decide), if_neg (by rw [h3]; decide), if_neg (by rw [h4]; decide), if_neg (by rw [h5]; decide), if_neg (by rw [h6]; decide)]
/-- good kinds: a list of texts -/
theorem kinds_at {K : PySem.W.Frag} {H : Hp} {v : V} (h : Dp K H v kd) (e : kindsD kd = true) : ∃ (l : List Str) (a : Addr), names kd = l ∧ v = .ref a ∧ SqL K H a (l.map V.str) := by
  cases kd with
  | list ds =>
    cases h with
    | @lst a xs _ hs ha =>
    have e' : ((decide (1 ≤ ds.length) && decide (ds.length ≤ 5)) && (ds.all wordD && decide (ds.map txt).Nodup)) = true := e
    rw [Bool.and_eq_true, Bool.and_eq_true (a := ds.all wordD)] at e'
    have hst : ds.all strB = true := List.all_eq_true.mpr fun d hd => by
      have := List.all_eq_true.mp e'.2.1 d hd
      cases d with
      | str y => rfl
      | _ => cases this
    exact ⟨ds.map txt, a, rfl, rfl, by rw [← dps_strs ha hst]; exact hs⟩
  | _ => cases e
end
/-! ### what a rule's module has -/
structure Pk (mg : Str → Option Value) (K : PySem.W.Frag) (w : World) : Prop where
  isi : mg "isinstance" = none
  len : mg "len" = none
  all : mg "all" = none
  set : mg "set" = none
  str : mg "str" = none
  list : mg "list" = none
  tup : mg "tuple" = none
  dict : mg "dict" = none
  int : mg "int" = none
  bool : mg "bool" = none
  sorted : mg "sorted" = none
  gL : ∃ u, mg "LETTERS" = some u ∧ L2.RelV (.str letters) u
  gW : ∃ u, mg "LONGEST_WORD" = some u ∧ L2.RelV (.int 8) u
  gK : ∃ u, mg "MOST_KINDS" = some u ∧ L2.RelV (.int 5) u
  gM : ∃ u, mg "MOST_MEASURES" = some u ∧ L2.RelV (.int 3) u
  gY : ∃ u, mg "MOST_WAYS" = some u ∧ L2.RelV (.int 12) u
  gG : ∃ u, mg "GREATEST_LIMIT" = some u ∧ L2.RelV (.int 9) u
  gS : ∃ (d : Addr) (es : Array DictEntry) (n : Nat), mg "SIGN_STANDS" = some (.ref d) ∧ KDict K w d es n ∧ ∀ z ∈ signL ++ (["small"] : List Str), ∃ r, PySem.W.nsIn K d z = some r ∧ r.isSome = signL.contains z
/-! ### promises -/
def Sized (d : PyData) : Prop := ∀ y, d = .str y → y.cps.size ≤ 1000
def spWord (K : PySem.W.Frag) : Sp := fun vs H Q _ => ∃ (v : V) (d : PyData), vs = [v] ∧ Dp K H v d ∧ Sized d ∧ ∀ H', Same H H' → Q (.bl (wordD d)) H'
def spInt (K : PySem.W.Frag) : Sp := fun vs H Q _ => ∃ (v : V) (d : PyData), vs = [v] ∧ Dp K H v d ∧ Q (.bl (intB d && !boolB d)) H
def spOne (K : PySem.W.Frag) : Sp := fun vs H Q _ => ∃ (v : V) (d : PyData) (n : Addr) (l : List Str), vs = [v, .ref n] ∧ Dp K H v d ∧ (SqL K H n (l.map V.str) ∨ SqT K H n (l.map V.str)) ∧ Q (.bl (oneD l d)) H
def spKinds (K : PySem.W.Frag) : Sp := fun vs H Q _ => ∃ (v : V) (d : PyData), vs = [v] ∧ Dp K H v d ∧ KindsOk d ∧ ∀ H', Same H H' → Q (.bl (kindsD d)) H'
def spMeas (K : PySem.W.Frag) : Sp := fun vs H Q _ => ∃ (v : V) (m : MD), vs = [v] ∧ MAt K H v m ∧ ∀ H', Same H H' → Q (.bl (measD m)) H'
def spWay (K : PySem.W.Frag) : Sp := fun vs H Q _ => ∃ (v : V) (d : PyData) (n : Addr) (l : List Str) (many : Nat), vs = [v, .ref n, .int many] ∧ Dp K H v d ∧ WayOk d ∧ (SqL K H n (l.map V.str) ∨ SqT K H n (l.map V.str)) ∧ ∀ H', Same H H' → Q (.bl (wayD l many d)) H'
def spWays (K : PySem.W.Frag) : Sp := fun vs H Q _ => ∃ (v : V) (d : PyData) (n : Addr) (l : List Str) (many : Nat), vs = [v, .ref n, .int many] ∧ Dp K H v d ∧ WaysOk d ∧ (SqL K H n (l.map V.str) ∨ SqT K H n (l.map V.str)) ∧ ∀ H', Same H H' → Q (.bl (waysD l many d)) H'
def spLimit (K : PySem.W.Frag) : Sp := fun vs H Q _ => ∃ (v : V) (d : PyData) (least : Int), vs = [v, .int least] ∧ Dp K H v d ∧ Q (.bl (limitD least d)) H
def spWrong (K : PySem.W.Frag) : Sp := fun vs H Q _ => ∃ (k m y d t f : V) (kd : PyData) (md : MD) (yd dd td fd : PyData), vs = [k, m, y, d, t, f] ∧ Dp K H k kd ∧ KindsOk kd ∧ MAt K H m md ∧ Dp K H y yd ∧ WaysOk yd ∧ Dp K H d dd ∧ Dp K H t td ∧ Dp K H f fd ∧
  ∀ H', Same H H' → Q (match wrongD kd md yd dd td fd with | some z => .str z | none => .non) H'
end RK

set_option Elab.async false
set_option linter.all false
set_option maxRecDepth 100000
set_option maxHeartbeats 1000000
/-! What a rule is made of: sorted texts, the dict in that order, the ways made anew. -/
namespace RK
open PySem PySem.Spec PyProof.Rows L2
/-! ### sorted texts -/
def unS : V → Str
  | .str y => y
  | _ => ""
theorem unS_map (l : List Str) : (l.map V.str).map unS = l := by
  rw [List.map_map]
  exact List.map_id l
theorem strs_perm {ys : List V} {l0 : List Str} (h : ys.Perm (l0.map V.str)) : ys = (ys.map unS).map V.str ∧ (ys.map unS).Perm l0 := by
  refine ⟨?_, ?_⟩
  · rw [List.map_map]
    have e : ys.map (V.str ∘ unS) = ys.map id := List.map_congr_left fun y hy => by
      obtain ⟨x, _, rfl⟩ := List.mem_map.mp (h.mem_iff.mp hy)
      rfl
    rw [e, List.map_id]
  · have q := h.map unS
    rwa [unS_map] at q
/-- ascending -/
def Asc (l : List Str) : Prop := l.Pairwise fun x y => SK.ltS y x = false
theorem strs_asc {ys : List V} (h : SrtO.Srtd (SK.ltK unS) ys) : Asc (ys.map unS) := List.pairwise_map.mpr h
theorem shows_strs {K : PySem.W.Frag} {H : Hp} (l : List Str) : ∀ x ∈ l.map V.str, SK.Shows K H x (unS x) := fun x hx => by
  obtain ⟨y, _, rfl⟩ := List.mem_map.mp hx
  exact .str y
/-! ### a dict in the order of a list of texts -/
theorem putK_new {kvs : List (Key × V)} {k : Key} {v : V} (h : k ∉ kvs.map (·.1)) : putK kvs k v = kvs ++ [(k, v)] := by
  unfold putK
  rw [if_neg]
  intro q
  obtain ⟨p, hp, e⟩ := List.any_eq_true.mp q
  exact h (List.mem_map.mpr ⟨p, hp, of_decide_eq_true e⟩)
theorem dc_strs {K : PySem.W.Frag} {a : Addr} {l : List Str} {val : Str → V} {g : TG} {tk tv : TE} {vs : List Nat} {σ : L2.St} {H1 : Hp} {D : Addr} {Qd : Hp → Prop} (hs : SqL K H1 a (l.map V.str)) (nd : l.Nodup) (hz : l.length ≤ 1000) (hD : H1 D = none)
    (step : ∀ (y : Str) (H : Hp) (Q : V → V → Hp → Prop), y ∈ l → Same H1 H → (Q (.str y) (val y) H) → g (.str y) (wipe σ vs) H fun σ2 H2 => wipe σ2 vs = wipe σ vs ∧ tk σ2 H2 fun u H4 => tv σ2 H4 fun z H5 => Q u z H5)
    (hd : ∀ H, Same H1 H → H D = some (.dK (l.map fun y => (.inr y, val y))) → Qd H) :
    ∃ W : Nat → Nat → Hp → Prop, (∃ m, W 0 m (upd H1 D (.dK []))) ∧ ∀ i m H, W i m H → ((Itl K a).stop i H ∧ Qd H) ∨ ((Itl K a).go i H ∧ ∃ Nx : Hp → Prop, (∀ H', Nx H' → ∃ m', m' < m ∧ W (i + 1) m' H') ∧ ∀ x H', (Itl K a).yld i H x H' → g x (wipe σ vs) H' fun σ2 H2 =>
      wipe σ2 vs = wipe σ vs ∧ tYes σ2 H2 fun b H3 => if b = true then tk σ2 H3 fun y H4 => tv σ2 H4 fun z H5 => ∃ kvs k, y = L2.kV k ∧ H5 D = some (.dK kvs) ∧ kvs.length < sizeLine ∧ Nx (upd H5 D (.dK (putK kvs k z))) else Nx H3) := by
  have big : (1001 : Nat) ≤ sizeLine := by rw [sizeLine_eq]; decide
  have hlm : (l.map V.str).length = l.length := List.length_map ..
  refine ⟨fun i m H => m = l.length - i ∧ i ≤ l.length ∧ Same H1 H ∧ H D = some (.dK ((l.take i).map fun y => (.inr y, val y))), ⟨l.length, by simp, Nat.zero_le _, same_put hD, upd_same⟩, ?_⟩
  rintro i m H ⟨rfl, hi, sm, hd'⟩
  by_cases hlt : i < l.length
  · obtain ⟨y, hy⟩ : ∃ y, l[i]? = some y := ⟨_, List.getElem?_eq_getElem hlt⟩
    have hx : (l.map V.str)[i]? = some (.str y) := by rw [List.getElem?_map, hy]; rfl
    refine .inr ⟨⟨_, _, sm.seq hs, hx⟩, fun H' => Same H1 H' ∧ H' D = some (.dK ((l.take (i + 1)).map fun y => (.inr y, val y))), fun H' p => ⟨l.length - (i + 1), by omega, rfl, hlt, p⟩, fun x H' q => ?_⟩
    obtain ⟨rfl, hq⟩ := q
    obtain rfl : V.str y = x := Option.some.inj (hx.symm.trans (hq _ (sm.seq hs)))
    refine step y H' (fun u z H5 => ∃ kvs k, u = L2.kV k ∧ H5 D = some (.dK kvs) ∧ kvs.length < sizeLine ∧ (Same H1 (upd H5 D (.dK (putK kvs k z))) ∧ (upd H5 D (.dK (putK kvs k z))) D = some (.dK ((l.take (i + 1)).map fun y => (.inr y, val y))))) (List.mem_of_getElem? hy) sm ?_
    refine ⟨_, .inr y, rfl, hd', ?_, same_new sm hD, ?_⟩
    · rw [List.length_map, List.length_take]
      omega
    · rw [upd_same, NS.take_snoc hy, List.map_append, putK_new]
      · rfl
      · intro q
        rw [List.map_map] at q
        obtain ⟨z, hz, e⟩ := List.mem_map.mp q
        have ez : z = y := Sum.inr.inj e
        have nd' : (l.take (i + 1)).Nodup := (List.take_sublist (i + 1) l).nodup nd
        rw [NS.take_snoc hy] at nd'
        exact (List.nodup_append.mp nd').2.2 z hz y (List.mem_singleton.mpr rfl) ez
  · have e : i = l.length := by omega
    subst e
    refine .inl ⟨⟨_, sm.seq hs, by rw [hlm]; exact Nat.le_refl _⟩, hd H sm ?_⟩
    rw [List.take_length] at hd'
    exact hd'
/-! ### a list of new things, one for each -/
mutual
def noL : PyData → Bool
  | .list _ => false
  | .tuple ds => noLs ds
  | _ => true
def noLs : List PyData → Bool
  | [] => true
  | d :: ds => noL d && noLs ds
end
mutual
theorem dp_off {K : PySem.W.Frag} {H H' : Hp} {D : Addr} {ys : List V} (hD : H D = some (.lst ys)) (k : ∀ b o, b ≠ D → H b = some o → H' b = some o) : ∀ (d : PyData) (v : V), noL d = true → Dp K H v d → Dp K H' v d
  | .none, _, _, h => by cases h; exact .non
  | .bool b, _, _, h => by cases h; exact .bl b
  | .int i, _, _, h => by cases h; exact .int i
  | .str x, _, _, h => by cases h; exact .str x
  | .list ds, _, n, _ => by cases n
  | .tuple ds, _, n, h => by
    cases h with
    | @tup a xs _ hs ha =>
      refine .tup ?_ (dps_off hD k ds _ n ha)
      rcases hs with (h | ⟨o, h⟩) | h
      · exact .inl (.inl (k _ _ (fun z => by rw [z, hD] at h; cases h) h))
      · exact .inl (.inr ⟨o, k _ _ (fun z => by rw [z, hD] at h; cases h) h⟩)
      · exact .inr h
  | .dict _, _, _, h => by cases h
theorem dps_off {K : PySem.W.Frag} {H H' : Hp} {D : Addr} {ys : List V} (hD : H D = some (.lst ys)) (k : ∀ b o, b ≠ D → H b = some o → H' b = some o) : ∀ (ds : List PyData) (vs : List V), noLs ds = true → DpAll K H vs ds → DpAll K H' vs ds
  | [], _, _, h => by cases h; exact .nil
  | d :: ds, _, n, h => by
    have n' : (noL d && noLs ds) = true := n
    rw [Bool.and_eq_true] at n'
    cases h with
    | cons h1 h2 => exact .cons (dp_off hD k d _ n'.1 h1) (dps_off hD k ds _ n'.2 h2)
end
theorem noLs_take : ∀ (ds : List PyData) (i : Nat), noLs ds = true → noLs (ds.take i) = true
  | [], _, _ => by rw [List.take_nil]; rfl
  | d :: ds, 0, _ => rfl
  | d :: ds, i + 1, h => by
    have h' : (noL d && noLs ds) = true := h
    rw [Bool.and_eq_true] at h'
    show (noL d && noLs (ds.take i)) = true
    rw [h'.1, noLs_take ds i h'.2]
    rfl
theorem dps_snoc {K : PySem.W.Frag} {H : Hp} : ∀ {ys : List V} {ds : List PyData} {y : V} {d : PyData}, DpAll K H ys ds → Dp K H y d → DpAll K H (ys ++ [y]) (ds ++ [d])
  | _, _, _, _, .nil, h => .cons h .nil
  | _, _, _, _, .cons h1 t, h => .cons h1 (dps_snoc t h)
theorem noLs_at : ∀ {ds : List PyData} {i : Nat} {d : PyData}, noLs ds = true → ds[i]? = some d → noL d = true
  | e :: ds, 0, d, h, q => by
    have h' : (noL e && noLs ds) = true := h
    rw [Bool.and_eq_true] at h'
    rw [← Option.some.inj q]
    exact h'.1
  | e :: ds, i + 1, d, h, q => by
    have h' : (noL e && noLs ds) = true := h
    rw [Bool.and_eq_true] at h'
    exact noLs_at (i := i) h'.2 q
theorem lc_new {K : PySem.W.Frag} {a : Addr} {xs : List V} {ds : List PyData} {g : TG} {te : TE} {vs : List Nat} {σ : L2.St} {H1 : Hp} {D : Addr} {Qd : Hp → Prop} (hs : SqL K H1 a xs) (hlen : ds.length = xs.length) (hz : xs.length ≤ 1000) (hD : H1 D = none) (nl : noLs ds = true)
    (step : ∀ (i : Nat) x d (H : Hp) (Q : V → Hp → Prop), xs[i]? = some x → ds[i]? = some d → Same H1 H → (∀ y H', Same H H' → Dp K H' y d → Q y H') → g x (wipe σ vs) H fun σ2 H2 => wipe σ2 vs = wipe σ vs ∧ te σ2 H2 Q)
    (hd : ∀ H ys, Same H1 H → H D = some (.lst ys) → DpAll K H ys ds → Qd H) :
    ∃ W : Nat → Nat → Hp → Prop, (∃ m, W 0 m (upd H1 D (.lst []))) ∧ ∀ i m H, W i m H → ((Itl K a).stop i H ∧ Qd H) ∨ ((Itl K a).go i H ∧ ∃ Nx : Hp → Prop, (∀ H', Nx H' → ∃ m', m' < m ∧ W (i + 1) m' H') ∧ ∀ x H', (Itl K a).yld i H x H' → g x (wipe σ vs) H' fun σ2 H2 =>
      wipe σ2 vs = wipe σ vs ∧ tYes σ2 H2 fun b H3 => if b = true then te σ2 H3 fun y H4 => ∃ acc, H4 D = some (.lst acc) ∧ acc.length < sizeLine ∧ Nx (upd H4 D (.lst (acc ++ [y]))) else Nx H3) := by
  have big : (1001 : Nat) ≤ sizeLine := by rw [sizeLine_eq]; decide
  refine ⟨fun i m H => m = xs.length - i ∧ i ≤ xs.length ∧ Same H1 H ∧ ∃ ys, H D = some (.lst ys) ∧ DpAll K H ys (ds.take i), ⟨xs.length, by simp, Nat.zero_le _, same_put hD, [], upd_same, .nil⟩, ?_⟩
  rintro i m H ⟨rfl, hi, sm, ys, hd', da⟩
  by_cases hlt : i < xs.length
  · refine .inr ⟨⟨xs, xs[i], sm.seq hs, List.getElem?_eq_getElem hlt⟩, fun H' => Same H1 H' ∧ ∃ ys, H' D = some (.lst ys) ∧ DpAll K H' ys (ds.take (i + 1)), fun H' p => ⟨xs.length - (i + 1), by omega, rfl, hlt, p⟩, fun x H' y => ?_⟩
    obtain ⟨rfl, hq⟩ := y
    have hx := hq xs (sm.seq hs)
    obtain ⟨d, hdd⟩ : ∃ d, ds[i]? = some d := ⟨_, List.getElem?_eq_getElem (by omega)⟩
    refine step i x d H' (fun y H4 => ∃ acc, H4 D = some (.lst acc) ∧ acc.length < sizeLine ∧ (Same H1 (upd H4 D (.lst (acc ++ [y]))) ∧ ∃ ys, (upd H4 D (.lst (acc ++ [y]))) D = some (.lst ys) ∧ DpAll K (upd H4 D (.lst (acc ++ [y]))) ys (ds.take (i + 1)))) hx hdd sm fun y H4 s4 hy => ?_
    have hD4 := s4 _ _ hd'
    have hl : ys.length = (ds.take i).length := (dps_len da).symm
    refine ⟨ys, hD4, ?_, same_new (sm.trans s4) hD, _, upd_same, ?_⟩
    · rw [hl, List.length_take]
      omega
    · rw [NS.take_snoc hdd]
      have kk : ∀ b o, b ≠ D → H4 b = some o → (upd H4 D (.lst (ys ++ [y]))) b = some o := fun b o hb e => by rw [upd_ne hb]; exact e
      exact dps_snoc (dps_off hD4 kk _ _ (noLs_take ds i nl) (dps_same s4 _ _ da)) (dp_off hD4 kk d _ (noLs_at nl hdd) hy)
  · have e : i = xs.length := by omega
    subst e
    refine .inl ⟨⟨xs, sm.seq hs, Nat.le_refl _⟩, hd H ys sm hd' ?_⟩
    rw [← hlen, List.take_length] at da
    exact da
/-! ### good ways have texts of their own -/
theorem ways_noL {l : List Str} {many : Nat} : ∀ {ds : List PyData}, ds.all (wayD l many) = true → noLs ds = true
  | [], _ => rfl
  | d :: ds, h => by
    rw [List.all_cons, Bool.and_eq_true] at h
    obtain ⟨k, b, ss, rfl, _, _, hlen, hs⟩ := way_shape h.1
    have e : noLs ss = true := by
      clear h hlen
      induction ss with
      | nil => rfl
      | cons z ss ih =>
        rw [List.all_cons, Bool.and_eq_true] at hs
        obtain ⟨y, rfl, _⟩ := one_str hs.1
        show (noL (.str y) && noLs ss) = true
        rw [ih hs.2]
        rfl
    show ((noL (.str k) && (noL (.str b) && (noLs ss && true))) && noLs ds) = true
    rw [e, ways_noL h.2]
    rfl
/-- rearranged data -/
theorem dps_perm {K : PySem.W.Frag} {H : Hp} {xs ys : List V} (p : ys.Perm xs) : ∀ {ds : List PyData}, DpAll K H xs ds → ∃ es, es.Perm ds ∧ DpAll K H ys es := by
  induction p with
  | nil => intro ds h; exact ⟨ds, List.Perm.refl _, h⟩
  | cons x p ih =>
    intro ds h
    cases h with
    | cons h1 h2 =>
      obtain ⟨es, q, r⟩ := ih h2
      exact ⟨_, q.cons _, .cons h1 r⟩
  | swap x y l =>
    intro ds h
    cases h with
    | cons h1 h2 =>
      cases h2 with
      | cons h2 h3 => exact ⟨_, List.Perm.swap .., .cons h2 (.cons h1 h3)⟩
  | trans p q ih1 ih2 =>
    intro ds h
    obtain ⟨es, r1, r2⟩ := ih2 h
    obtain ⟨fs, r3, r4⟩ := ih1 r2
    exact ⟨fs, r3.trans r1, r4⟩
/-- the text of each thing of a list -/
def keyIn (ys : List V) (ds : List PyData) (v : V) : Str := (((ys.zip ds).find? fun p => decide (p.1 = v)).map fun p => p.2.shown).getD ""
theorem keyIn_at {K : PySem.W.Frag} {H : Hp} : ∀ {ys : List V} {ds : List PyData} {v : V}, DpAll K H ys ds → v ∈ ys → ∃ d ∈ ds, Dp K H v d ∧ keyIn ys ds v = d.shown
  | _, _, v, .nil, h => absurd h List.not_mem_nil
  | y :: ys, d :: ds, v, .cons h1 t, h => by
    by_cases e : y = v
    · subst e
      refine ⟨d, List.mem_cons_self, h1, ?_⟩
      show (((((y, d) :: ys.zip ds)).find? _).map _).getD _ = _
      rw [List.find?_cons_of_pos (by simp)]
      rfl
    · have hv : v ∈ ys := by
        rcases List.mem_cons.mp h with z | z
        · exact absurd z.symm e
        · exact z
      obtain ⟨d', hd', h2, h3⟩ := keyIn_at t hv
      refine ⟨d', List.mem_cons_of_mem _ hd', h2, ?_⟩
      show (((((y, d) :: ys.zip ds)).find? _).map _).getD _ = _
      rw [List.find?_cons_of_neg (by simpa using e)]
      exact h3
/-- a good way, shown: short -/
theorem way_plain {l : List Str} {many : Nat} {d : PyData} (h : wayD l many d = true) : d.showable = true ∧ d.hasDict = false ∧ d.depth ≤ 8 := by
  obtain ⟨k, b, ss, rfl, _, _, hlen, hs⟩ := way_shape h
  have e : PyData.showableAll ss = true ∧ PyData.hasDictAll ss = false ∧ PyData.depthAll ss = 0 := by
    clear h hlen
    induction ss with
    | nil => exact ⟨by simp only [PyData.showableAll], by simp only [PyData.hasDictAll], by simp only [PyData.depthAll]⟩
    | cons z ss ih =>
      rw [List.all_cons, Bool.and_eq_true] at hs
      obtain ⟨y, rfl, _⟩ := one_str hs.1
      obtain ⟨i1, i2, i3⟩ := ih hs.2
      exact ⟨by simp only [PyData.showableAll, PyData.showable, i1, Bool.and_self], by simp only [PyData.hasDictAll, PyData.hasDict, i2, Bool.or_self], by simp only [PyData.depthAll, PyData.depth, i3]; rfl⟩
  obtain ⟨e1, e2, e3⟩ := e
  exact ⟨by simp only [PyData.showable, PyData.showableAll, e1, Bool.and_self], by simp only [PyData.hasDict, PyData.hasDictAll, e2, Bool.or_self], by simp only [PyData.depth, PyData.depthAll, e3]; decide⟩
/-! ### how long a way's text is -/
theorem tup_len {ts : List Str} {B : Nat} (h : ∀ t ∈ ts, t.length ≤ B) : (tupleText ts).length ≤ ts.length * (B + 2) + 3 := by
  have hp : piled ts ≤ ts.length * (B + 2) := by
    induction ts with
    | nil => exact Nat.zero_le _
    | cons t ts ih =>
      rw [piled_cons, List.length_cons, Nat.succ_mul]
      have h1 := h t List.mem_cons_self
      have h2 := ih fun u hu => h u (List.mem_cons_of_mem _ hu)
      omega
  unfold tupleText
  rw [strLen_append, strLen_append]
  have e1 : ((("(" : String) : Str)).length = 1 := rfl
  have e3 : (((if ts.length == 1 then ",)" else ")" : String) : Str)).length ≤ 2 := by split <;> decide
  rw [e1]
  by_cases hn : ts = []
  · subst hn
    have e : (Str.join ", " ([] : List Str)).length = 0 := rfl
    rw [e]
    omega
  · have := join_length_add ts hn
    omega
theorem letters_low : ∀ c ∈ letters.cps.toList, c < 16 ^ 8 := by decide +kernel
theorem word_repr {y : Str} (h : wordS y = true) : (reprText y).length ≤ 100 := by
  unfold wordS at h
  rw [Bool.and_eq_true, Bool.and_eq_true, decide_eq_true_eq, decide_eq_true_eq, List.all_eq_true] at h
  have q := StrLaws.reprText_len y fun c hc => letters_low c (of_decide_eq_true (h.2.2 c hc))
  have e : y.length = y.cps.size := rfl
  omega
theorem sign_repr : ∀ y ∈ signL, (reprText y).length ≤ 100 := by decide +kernel
theorem shown_strs : ∀ {ss : List PyData} {B : Nat}, (∀ z ∈ ss, z.shown.length ≤ B) → ∀ t ∈ PyData.shownAll ss, t.length ≤ B
  | [], _, _, t, ht => by simp only [PyData.shownAll] at ht; exact absurd ht List.not_mem_nil
  | z :: ss, B, h, t, ht => by
    simp only [PyData.shownAll] at ht
    rcases List.mem_cons.mp ht with rfl | ht
    · exact h z List.mem_cons_self
    · exact shown_strs (fun u hu => h u (List.mem_cons_of_mem _ hu)) t ht
theorem shownAll_len : ∀ ss : List PyData, (PyData.shownAll ss).length = ss.length
  | [] => by simp only [PyData.shownAll, List.length_nil]
  | z :: ss => by simp only [PyData.shownAll, List.length_cons, shownAll_len ss]
theorem way_short {l : List Str} {many : Nat} {d : PyData} (hw : ∀ y ∈ l, wordS y = true) (hm : many ≤ 1000) (h : wayD l many d = true) : d.shown.length ≤ sizeLine := by
  have big : (1000000 : Nat) ≤ sizeLine := by rw [sizeLine_eq]; decide
  obtain ⟨k, b, ss, rfl, hk, hb, hlen, hs⟩ := way_shape h
  have h1 : ∀ z ∈ ss, z.shown.length ≤ 100 := fun z hz => by
    obtain ⟨y, rfl, hy⟩ := one_str (List.all_eq_true.mp hs z hz)
    simp only [PyData.shown]
    exact sign_repr y hy
  have h2 : (PyData.tuple ss).shown.length ≤ 102003 := by
    simp only [PyData.shown]
    have q := tup_len (shown_strs h1)
    rw [shownAll_len, hlen] at q
    have : many * (100 + 2) ≤ 1000 * (100 + 2) := Nat.mul_le_mul_right _ hm
    omega
  have h3 : ∀ z ∈ [PyData.str k, PyData.str b, PyData.tuple ss], z.shown.length ≤ 102003 := fun z hz => by
    rcases List.mem_cons.mp hz with rfl | hz
    · have := word_repr (hw k hk)
      simp only [PyData.shown]
      omega
    · rcases List.mem_cons.mp hz with rfl | hz
      · have := word_repr (hw b hb)
        simp only [PyData.shown]
        omega
      · rw [List.mem_singleton.mp hz]
        exact h2
  show (PyData.tuple [.str k, .str b, .tuple ss]).shown.length ≤ sizeLine
  have q := tup_len (shown_strs h3)
  rw [shownAll_len] at q
  have e : (PyData.tuple [.str k, .str b, .tuple ss]).shown = tupleText (PyData.shownAll [.str k, .str b, .tuple ss]) := by simp only [PyData.shown]
  rw [e]
  have e3 : [PyData.str k, PyData.str b, PyData.tuple ss].length = 3 := rfl
  rw [e3] at q
  omega
/-- tuple(t), t a tuple: itself -/
def rTupT (K : PySem.W.Frag) : List V → Hp → VK → Prop := fun xs H Q => ∃ a ys, xs = [.ref a] ∧ SqT K H a ys ∧ Q (.ref a) H
theorem cr_tupT {X : Cx} : CallR X (.type "tuple") (rTupT X.K) := call_tupleT
/-! ### data beside an instance that changes -/
theorem sq_ins {K : PySem.W.Frag} {H H' : Hp} {a C dx : Addr} {fs : List (Str × V)} {b : Addr} {xs : List V} (ha : H a = some (.ins C dx fs)) (k : ∀ b o, b ≠ a → H b = some o → H' b = some o) (h : SqL K H b xs) : SqL K H' b xs := by
  rcases h with (h | ⟨o, h⟩) | h
  · exact .inl (.inl (k _ _ (fun z => by rw [z, ha] at h; cases h) h))
  · exact .inl (.inr ⟨o, k _ _ (fun z => by rw [z, ha] at h; cases h) h⟩)
  · exact .inr h
theorem sqT_ins {K : PySem.W.Frag} {H H' : Hp} {a C dx : Addr} {fs : List (Str × V)} {b : Addr} {xs : List V} (ha : H a = some (.ins C dx fs)) (k : ∀ b o, b ≠ a → H b = some o → H' b = some o) (h : SqT K H b xs) : SqT K H' b xs := by
  rcases h with (h | ⟨o, h⟩) | h
  · exact .inl (.inl (k _ _ (fun z => by rw [z, ha] at h; cases h) h))
  · exact .inl (.inr ⟨o, k _ _ (fun z => by rw [z, ha] at h; cases h) h⟩)
  · exact .inr h
mutual
theorem dp_ins {K : PySem.W.Frag} {H H' : Hp} {a C dx : Addr} {fs : List (Str × V)} (ha : H a = some (.ins C dx fs)) (k : ∀ b o, b ≠ a → H b = some o → H' b = some o) : ∀ (d : PyData) (v : V), noL d = true → Dp K H v d → Dp K H' v d
  | .none, _, _, h => by cases h; exact .non
  | .bool b, _, _, h => by cases h; exact .bl b
  | .int i, _, _, h => by cases h; exact .int i
  | .str x, _, _, h => by cases h; exact .str x
  | .list ds, _, n, _ => by cases n
  | .tuple ds, _, n, h => by
    cases h with
    | tup hs hd => exact .tup (sqT_ins ha k hs) (dps_ins ha k ds _ n hd)
  | .dict _, _, _, h => by cases h
theorem dps_ins {K : PySem.W.Frag} {H H' : Hp} {a C dx : Addr} {fs : List (Str × V)} (ha : H a = some (.ins C dx fs)) (k : ∀ b o, b ≠ a → H b = some o → H' b = some o) : ∀ (ds : List PyData) (vs : List V), noLs ds = true → DpAll K H vs ds → DpAll K H' vs ds
  | [], _, _, h => by cases h; exact .nil
  | d :: ds, _, n, h => by
    have n' : (noL d && noLs ds) = true := n
    rw [Bool.and_eq_true] at n'
    cases h with
    | cons h1 h2 => exact .cons (dp_ins ha k d _ n'.1 h1) (dps_ins ha k ds _ n'.2 h2)
end
theorem noLs_all : ∀ ds : List PyData, noLs ds = ds.all noL
  | [] => rfl
  | d :: ds => by
    show (noL d && noLs ds) = _
    rw [noLs_all ds, List.all_cons]
theorem noLs_perm {es ds : List PyData} (p : es.Perm ds) (h : noLs ds = true) : noLs es = true := by
  rw [noLs_all] at h ⊢
  exact List.all_eq_true.mpr fun d hd => List.all_eq_true.mp h d (p.mem_iff.mp hd)
/-! ### good parts -/
theorem none_all {kd yd dd td fd : PyData} {md : MD} (h : wrongD kd md yd dd td fd = none) : kindsD kd = true ∧ measD md = true ∧ waysD (names kd) (manyD md) yd = true ∧ limitD 0 dd = true ∧ limitD 1 td = true ∧ boolB fd = true := by
  cases h1 : kindsD kd with
  | false => rw [wrong1 h1] at h; cases h
  | true =>
  cases h2 : measD md with
  | false => rw [wrong2 h1 h2] at h; cases h
  | true =>
  cases h3 : waysD (names kd) (manyD md) yd with
  | false => rw [wrong3 h1 h2 h3] at h; cases h
  | true =>
  cases h4 : limitD 0 dd with
  | false => rw [wrong4 h1 h2 h3 h4] at h; cases h
  | true =>
  cases h5 : limitD 1 td with
  | false => rw [wrong5 h1 h2 h3 h4 h5] at h; cases h
  | true =>
  cases h6 : boolB fd with
  | false => rw [wrong6 h1 h2 h3 h4 h5 h6] at h; cases h
  | true => exact ⟨rfl, rfl, rfl, rfl, rfl, rfl⟩
theorem kinds_words {kd : PyData} (e : kindsD kd = true) : (∀ y ∈ names kd, wordS y = true) ∧ (names kd).Nodup ∧ (names kd).length ≤ 5 := by
  cases kd with
  | list ds =>
    have e' : ((decide (1 ≤ ds.length) && decide (ds.length ≤ 5)) && (ds.all wordD && decide (ds.map txt).Nodup)) = true := e
    rw [Bool.and_eq_true, Bool.and_eq_true, Bool.and_eq_true, decide_eq_true_eq, decide_eq_true_eq, decide_eq_true_eq] at e'
    refine ⟨fun y hy => ?_, e'.2.2, by show (ds.map txt).length ≤ 5; rw [List.length_map]; exact e'.1.2⟩
    obtain ⟨d, hd, rfl⟩ := List.mem_map.mp hy
    have q := List.all_eq_true.mp e'.2.1 d hd
    cases d with
    | str z => exact q
    | _ => cases q
  | _ => cases e
theorem meas_parts {kvs : List (Key × V)} (e : measD (.dict kvs) = true) : kvs.length ≤ 3 ∧ ∀ p ∈ kvs, ∃ y, p.1 = .inr y ∧ wordS y = true := by
  have e' : ((decide (1 ≤ kvs.length) && decide (kvs.length ≤ 3)) && ((kvs.all fun p => wordK p.1) && kvs.all fun p => boolV p.2)) = true := e
  rw [Bool.and_eq_true, Bool.and_eq_true, Bool.and_eq_true, decide_eq_true_eq, decide_eq_true_eq] at e'
  refine ⟨e'.1.2, fun p hp => ?_⟩
  have q := List.all_eq_true.mp e'.2.1 p hp
  obtain ⟨k, v⟩ := p
  cases k with
  | inl i => cases q
  | inr y => exact ⟨y, rfl, q⟩
theorem ways_parts {l : List Str} {many : Nat} {yd : PyData} (e : waysD l many yd = true) : ∃ ds, yd = .list ds ∧ ds.length ≤ 12 ∧ ds.all (wayD l many) = true ∧ (ds.map nk).Nodup := by
  cases yd with
  | list ds =>
    have e' : ((decide (1 ≤ ds.length) && decide (ds.length ≤ 12)) && (ds.all (wayD l many) && decide (ds.map nk).Nodup)) = true := e
    rw [Bool.and_eq_true, Bool.and_eq_true, Bool.and_eq_true, decide_eq_true_eq, decide_eq_true_eq, decide_eq_true_eq] at e'
    exact ⟨ds, rfl, e'.1.2, e'.2.1, e'.2.2⟩
  | _ => cases e
/-- the dict in another order of its keys -/
theorem keys_texts {kvs : List (Key × V)} (h : ∀ p ∈ kvs, ∃ y, p.1 = .inr y ∧ wordS y = true) : kvs.map (fun kv => L2.kV kv.1) = (kvs.map fun kv => unS (L2.kV kv.1)).map V.str := by
  rw [List.map_map]
  refine List.map_congr_left fun p hp => ?_
  obtain ⟨y, e, _⟩ := h p hp
  show L2.kV p.1 = .str (unS (L2.kV p.1))
  rw [e]
  rfl
theorem nodup_map_on {α β : Type} {f : α → β} : ∀ {l : List α}, (∀ a ∈ l, ∀ b ∈ l, f a = f b → a = b) → l.Nodup → (l.map f).Nodup
  | [], _, _ => List.nodup_nil
  | x :: l, h, nd => by
    rw [List.nodup_cons] at nd
    rw [List.map_cons, List.nodup_cons]
    refine ⟨fun q => ?_, nodup_map_on (fun a ha b hb => h a (List.mem_cons_of_mem _ ha) b (List.mem_cons_of_mem _ hb)) nd.2⟩
    obtain ⟨z, hz, e⟩ := List.mem_map.mp q
    exact nd.1 (by rw [← h z (List.mem_cons_of_mem _ hz) x List.mem_cons_self e]; exact hz)
def valS (kvs : List (Key × V)) (y : Str) : V := (valV kvs (.inr y)).getD .non
theorem dict_perm {kvs : List (Key × V)} {l : List Str} (h : ∀ p ∈ kvs, ∃ y, p.1 = .inr y ∧ wordS y = true) (nd : (kvs.map (·.1)).Nodup) (hl : l.Perm (kvs.map fun kv => unS (L2.kV kv.1))) :
    (l.map fun y => ((.inr y, valS kvs y) : Key × V)).Perm kvs ∧ l.Nodup ∧ ∀ y ∈ l, valV kvs (.inr y) = some (valS kvs y) := by
  have hv : ∀ p ∈ kvs, valV kvs p.1 = some p.2 := fun p hp => by
    obtain ⟨i, hi⟩ := List.mem_iff_getElem?.mp hp
    exact valV_at nd (i := i) hi
  have self : (kvs.map fun kv => unS (L2.kV kv.1)).map (fun y => ((.inr y, valS kvs y) : Key × V)) = kvs := by
    rw [List.map_map]
    refine (List.map_congr_left fun p hp => ?_).trans (List.map_id kvs)
    obtain ⟨y, e, _⟩ := h p hp
    show ((.inr (unS (L2.kV p.1)), valS kvs (unS (L2.kV p.1))) : Key × V) = p
    have e2 : unS (L2.kV p.1) = y := by rw [e]; rfl
    rw [e2]
    have q := hv p hp
    rw [e] at q
    unfold valS
    rw [q, ← e]
    rfl
  refine ⟨?_, ?_, fun y hy => ?_⟩
  · have q := hl.map fun y => ((.inr y, valS kvs y) : Key × V)
    rwa [self] at q
  · refine hl.nodup_iff.mpr ?_
    have inj : (kvs.map (·.1)).map (fun k => unS (L2.kV k)) = kvs.map fun kv => unS (L2.kV kv.1) := by rw [List.map_map]; rfl
    rw [← inj]
    refine nodup_map_on ?_ nd
    intro a ha b hb e
    obtain ⟨p, hp, rfl⟩ := List.mem_map.mp ha
    obtain ⟨q, hq, rfl⟩ := List.mem_map.mp hb
    obtain ⟨y, e1, _⟩ := h p hp
    obtain ⟨z, e2, _⟩ := h q hq
    rw [e1, e2] at e ⊢
    have e' : y = z := e
    rw [e']
  · obtain ⟨p, hp, rfl⟩ := List.mem_map.mp (hl.mem_iff.mp hy)
    obtain ⟨y, e, _⟩ := h p hp
    have e2 : unS (L2.kV p.1) = y := by rw [e]; rfl
    rw [e2]
    have q := hv p hp
    rw [e] at q
    unfold valS
    rw [q]
    rfl
/-! ### what a rule's __init__ does -/
def Off (a : Addr) (H H' : Hp) : Prop := ∀ b o, b ≠ a → H b = some o → H' b = some o
theorem Off.of {a : Addr} {H H' : Hp} (s : Same H H') : Off a H H' := fun b o _ e => s b o e
theorem Off.trans {a : Addr} {H H1 H2 : Hp} (s : Off a H H1) (t : Off a H1 H2) : Off a H H2 := fun b o h e => t b o h (s b o h e)
theorem Off.put {a : Addr} {H : Hp} {u : HO} : Off a H (upd H a u) := fun b o h e => by rw [upd_ne h]; exact e
/-- the fields of a rule -/
abbrev flds (kt md wt : Addr) (d t f : V) : List (Str × V) := [("_kinds", .ref kt), ("_measures", .ref md), ("_ways", .ref wt), ("_deep", d), ("_tall", t), ("_free", f)]
/-- a rule stands: its kinds, measures, ways in their order -/
structure RuleO (K : PySem.W.Frag) (H : Hp) (a C : Addr) (l : List Str) (kvs : List (Key × V)) (ds : List PyData) (d t f : V) : Prop where
  ex : ∃ (dx kt md wt : Addr) (ws : List V), H a = some (.ins C dx (flds kt md wt d t f)) ∧ H kt = some (.tup (l.map V.str)) ∧ H md = some (.dK kvs) ∧ H wt = some (.tup ws) ∧ DpAll K H ws ds
theorem RuleO.same {K : PySem.W.Frag} {H H' : Hp} {a C : Addr} {l : List Str} {kvs : List (Key × V)} {ds : List PyData} {d t f : V} (r : RuleO K H a C l kvs ds d t f) (s : Same H H') : RuleO K H' a C l kvs ds d t f := by
  obtain ⟨dx, kt, md, wt, ws, h1, h2, h3, h4, h5⟩ := r
  exact ⟨dx, kt, md, wt, ws, s _ _ h1, s _ _ h2, s _ _ h3, s _ _ h4, dps_same s _ _ h5⟩
def spInit (K : PySem.W.Frag) (C cB : Addr) : Sp := fun vs H Q E => ∃ (a dx : Addr) (k m y d t f : V) (kd : PyData) (md : MD) (yd dd td fd : PyData), vs = [.ref a, k, m, y, d, t, f] ∧ H a = some (.ins C dx []) ∧ Dp K H k kd ∧ KindsOk kd ∧ MAt K H m md ∧ Dp K H y yd ∧ WaysOk yd ∧
  Dp K H d dd ∧ Dp K H t td ∧ Dp K H f fd ∧
  (∀ z H' e, wrongD kd md yd dd td fd = some z → Same H H' → H' e = none → E (.ref cB) (some e) (upd H' e (.xd [("part", .str z)]))) ∧
  (∀ (H' : Hp) (l : List Str) (kvs kvs0 : List (Key × V)) (ds es : List PyData), wrongD kd md yd dd td fd = none → md = .dict kvs0 → yd = .list es → Off a H H' → l.Perm (names kd) → Asc l → kvs.Perm kvs0 → ds.Perm es → RuleO K H' a C l kvs ds d t f → Q .non H')
end RK

set_option Elab.async false
set_option linter.all false
set_option maxRecDepth 100000
set_option maxHeartbeats 1000000
/-! Good rules: what is known of their parts. -/
namespace RK
open PySem PySem.Spec PyProof.Rows L2
abbrev strD (l : List Str) : PyData := .list (l.map PyData.str)
theorem dps_of_strs {K : PySem.W.Frag} {H : Hp} : ∀ l : List Str, DpAll K H (l.map V.str) (l.map PyData.str)
  | [] => .nil
  | y :: l => .cons (.str y) (dps_of_strs l)
theorem names_strD (l : List Str) : names (strD l) = l := by
  show (l.map PyData.str).map txt = l
  rw [List.map_map]
  exact List.map_id l
theorem ok_words {l : List Str} (h : ∀ y ∈ l, wordS y = true) (hz : l.length ≤ 1000) : KindsOk (strD l) := by
  refine ⟨by show (l.map PyData.str).length ≤ 1000; rw [List.length_map]; exact hz, fun d hd y e => ?_⟩
  obtain ⟨z, hz, rfl⟩ := List.mem_map.mp hd
  have e' : z = y := PyData.str.inj e
  subst e'
  have q := h z hz
  unfold wordS at q
  rw [Bool.and_eq_true, Bool.and_eq_true, decide_eq_true_eq, decide_eq_true_eq] at q
  omega
theorem word_size {y : Str} (h : wordS y = true) : y.cps.size ≤ 1000 := by
  unfold wordS at h
  rw [Bool.and_eq_true, Bool.and_eq_true, decide_eq_true_eq, decide_eq_true_eq] at h
  omega
theorem ok_way {l : List Str} {many : Nat} {d : PyData} (hm : many ≤ 1000) (h : wayD l many d = true) : WayOk d := by
  obtain ⟨k, b, ss, rfl, _, _, hlen, hs⟩ := way_shape h
  refine ⟨by show 3 ≤ 1000; decide, fun s hs' ss' e => ?_⟩
  subst e
  have e2 : ss' = ss := by
    rcases List.mem_cons.mp hs' with e | hs'
    · cases e
    · rcases List.mem_cons.mp hs' with e | hs'
      · cases e
      · exact PyData.tuple.inj (List.mem_singleton.mp hs')
  subst e2
  refine ⟨by show ss'.length ≤ 1000; omega, fun z hz => ?_⟩
  obtain ⟨y, rfl, hy⟩ := one_str (List.all_eq_true.mp hs z hz)
  show (signL ++ (["small"] : List Str)).contains y = true
  rw [List.contains_eq_mem]
  exact decide_eq_true (List.mem_append_left _ hy)
/-- the parts of a good rule -/
structure Good (l : List Str) (kvs : List (Key × V)) (ds : List PyData) : Prop where
  k : kindsD (strD l) = true
  m : measD (.dict kvs) = true
  y : waysD l kvs.length (.list ds) = true
  nd : (kvs.map (·.1)).Nodup
  fl : ∀ p ∈ kvs, flatV p.2 = true
theorem Good.words {l : List Str} {kvs : List (Key × V)} {ds : List PyData} (g : Good l kvs ds) : (∀ y ∈ l, wordS y = true) ∧ l.Nodup ∧ l.length ≤ 5 := by
  have q := kinds_words g.k
  rwa [names_strD] at q
theorem Good.ways {l : List Str} {kvs : List (Key × V)} {ds : List PyData} (g : Good l kvs ds) : kvs.length ≤ 3 ∧ ds.length ≤ 12 ∧ 1 ≤ ds.length ∧ ds.all (wayD l kvs.length) = true ∧ (ds.map nk).Nodup := by
  have e' : ((decide (1 ≤ ds.length) && decide (ds.length ≤ 12)) && (ds.all (wayD l kvs.length) && decide (ds.map nk).Nodup)) = true := g.y
  rw [Bool.and_eq_true, Bool.and_eq_true, Bool.and_eq_true, decide_eq_true_eq, decide_eq_true_eq, decide_eq_true_eq] at e'
  exact ⟨(meas_parts g.m).1, e'.1.2, e'.1.1, e'.2.1, e'.2.2⟩
theorem Good.kok {l : List Str} {kvs : List (Key × V)} {ds : List PyData} (g : Good l kvs ds) : KindsOk (strD l) := ok_words g.words.1 (by have := g.words.2.2; omega)
theorem Good.yok {l : List Str} {kvs : List (Key × V)} {ds : List PyData} (g : Good l kvs ds) : WaysOk (.list ds) :=
  ⟨by show ds.length ≤ 1000; have := g.ways.2.1; omega, fun d hd => ok_way (by have := g.ways.1; omega) (List.all_eq_true.mp g.ways.2.2.2.1 d hd)⟩
theorem Good.mat {K : PySem.W.Frag} {H : Hp} {l : List Str} {kvs : List (Key × V)} {ds : List PyData} {a : Addr} (g : Good l kvs ds) (h : H a = some (.dK kvs)) : MAt K H (.ref a) (.dict kvs) :=
  .dict rfl h (by have := g.ways.1; omega) g.nd g.fl fun p hp y e => by
    obtain ⟨z, e1, e2⟩ := (meas_parts g.m).2 p hp
    rw [e] at e1
    have e3 : y = z := Sum.inr.inj e1
    subst e3
    exact word_size e2
def limD (dd td fd : PyData) : Option Str := if limitD 0 dd = false then some "deep" else if limitD 1 td = false then some "tall" else if boolB fd = false then some "free" else none
theorem Good.wrong {l : List Str} {kvs : List (Key × V)} {ds : List PyData} (g : Good l kvs ds) (dd td fd : PyData) : wrongD (strD l) (.dict kvs) (.list ds) dd td fd = limD dd td fd := by
  unfold wrongD limD
  have e : names (strD l) = l := names_strD l
  have y := g.y
  rw [if_neg (by rw [g.k]; decide), if_neg (by rw [g.m]; decide), if_neg (by rw [e]; show ¬ waysD l kvs.length (.list ds) = false; rw [y]; decide)]
/-- the same parts in another order -/
theorem Good.perm {l l' : List Str} {kvs kvs' : List (Key × V)} {ds ds' : List PyData} (g : Good l kvs ds) (hl : l'.Perm l) (hk : kvs'.Perm kvs) (hd : ds'.Perm ds) : Good l' kvs' ds' := by
  have one : ∀ d, oneD l' d = oneD l d := fun d => by
    cases d with
    | str y =>
      show l'.contains y = l.contains y
      rw [List.contains_eq_mem, List.contains_eq_mem]
      exact decide_eq_decide.mpr hl.mem_iff
    | _ => rfl
  have way : ∀ d, wayD l' kvs'.length d = wayD l kvs.length d := fun d => by
    unfold wayD
    split
    · rw [one, one, hk.length_eq]
    · rfl
  have k1 := g.words
  refine ⟨?_, ?_, ?_, (hk.map (·.1)).nodup_iff.mpr g.nd, fun p hp => g.fl p (hk.mem_iff.mp hp)⟩
  · have e' : ((decide (1 ≤ (l.map PyData.str).length) && decide ((l.map PyData.str).length ≤ 5)) && ((l.map PyData.str).all wordD && decide ((l.map PyData.str).map txt).Nodup)) = true := g.k
    rw [Bool.and_eq_true, Bool.and_eq_true, decide_eq_true_eq, decide_eq_true_eq, List.length_map] at e'
    show ((decide (1 ≤ (l'.map PyData.str).length) && decide ((l'.map PyData.str).length ≤ 5)) && ((l'.map PyData.str).all wordD && decide ((l'.map PyData.str).map txt).Nodup)) = true
    rw [Bool.and_eq_true, Bool.and_eq_true, Bool.and_eq_true, decide_eq_true_eq, decide_eq_true_eq, decide_eq_true_eq, List.length_map, hl.length_eq]
    refine ⟨e'.1, List.all_eq_true.mpr fun d hd => ?_, ?_⟩
    · obtain ⟨y, hy, rfl⟩ := List.mem_map.mp hd
      exact k1.1 y (hl.mem_iff.mp hy)
    · have e2 : (l'.map PyData.str).map txt = l' := by rw [List.map_map]; exact List.map_id l'
      rw [e2]
      exact hl.nodup_iff.mpr k1.2.1
  · have e' : ((decide (1 ≤ kvs.length) && decide (kvs.length ≤ 3)) && ((kvs.all fun p => wordK p.1) && kvs.all fun p => boolV p.2)) = true := g.m
    show ((decide (1 ≤ kvs'.length) && decide (kvs'.length ≤ 3)) && ((kvs'.all fun p => wordK p.1) && kvs'.all fun p => boolV p.2)) = true
    rw [hk.length_eq]
    rw [Bool.and_eq_true, Bool.and_eq_true (a := kvs.all fun p => wordK p.1)] at e'
    rw [Bool.and_eq_true, Bool.and_eq_true (a := kvs'.all fun p => wordK p.1)]
    exact ⟨e'.1, List.all_eq_true.mpr fun p hp => List.all_eq_true.mp e'.2.1 p (hk.mem_iff.mp hp), List.all_eq_true.mpr fun p hp => List.all_eq_true.mp e'.2.2 p (hk.mem_iff.mp hp)⟩
  · have q := g.ways
    show ((decide (1 ≤ ds'.length) && decide (ds'.length ≤ 12)) && (ds'.all (wayD l' kvs'.length) && decide (ds'.map nk).Nodup)) = true
    rw [hd.length_eq, decide_eq_true q.2.2.1, decide_eq_true q.2.1, decide_eq_true ((hd.map nk).nodup_iff.mpr q.2.2.2.2), Bool.and_self, Bool.true_and, Bool.and_true]
    refine List.all_eq_true.mpr fun d hd' => ?_
    rw [way]
    exact List.all_eq_true.mp q.2.2.2.1 d (hd.mem_iff.mp hd')
/-! ### promises of the law's makers -/
def spAsked (K : PySem.W.Frag) : Sp := fun vs H Q _ => ∃ (q : Addr) (k m y d t f : V) (kd : PyData) (md : MD) (yd dd td fd : PyData), vs = [.ref q] ∧ SqL K H q [k, m, y, d, t, f] ∧ Dp K H k kd ∧ KindsOk kd ∧ MAt K H m md ∧ Dp K H y yd ∧ WaysOk yd ∧ Dp K H d dd ∧ Dp K H t td ∧ Dp K H f fd ∧
  ∀ H', Same H H' → Q (match wrongD kd md yd dd td fd with | some z => .str z | none => .non) H'
def spLimited (K : PySem.W.Frag) (C cB : Addr) : Sp := fun vs H _ E => ∃ (a : Addr) (d t f d0 t0 f0 : V) (l : List Str) (kvs : List (Key × V)) (ds : List PyData) (dd td fd : PyData) (z : Str), vs = [.ref a, d, t, f] ∧ RuleO K H a C l kvs ds d0 t0 f0 ∧ Good l kvs ds ∧ Dp K H d dd ∧ Dp K H t td ∧ Dp K H f fd ∧ limD dd td fd = some z ∧
  ∀ H' e, Same H H' → H' e = none → E (.ref cB) (some e) (upd H' e (.xd [("part", .str z)]))
def spLim (K : PySem.W.Frag) (C : Addr) : Sp := fun vs H Q _ => ∃ (a q : Addr) (d t f d0 t0 f0 : V) (l : List Str) (kvs : List (Key × V)) (ds : List PyData) (dd td fd : PyData) (z : Str), vs = [.ref a, .ref q] ∧ SqL K H q [d, t, f] ∧ RuleO K H a C l kvs ds d0 t0 f0 ∧ Good l kvs ds ∧ Dp K H d dd ∧ Dp K H t td ∧ Dp K H f fd ∧ limD dd td fd = some z ∧
  ∀ H', Same H H' → Q (.str z) H'
/-- the dict that the law keeps a rule in -/
structure LR (K : PySem.W.Frag) (H : Hp) (r : Addr) (l : List Str) (kvs : List (Key × V)) (ds : List PyData) (d t f : V) : Prop where
  ex : ∃ (kl md wl : Addr) (ws : List V), H r = some (.dK [(.inr "kinds", .ref kl), (.inr "measures", .ref md), (.inr "ways", .ref wl), (.inr "deep", d), (.inr "tall", t), (.inr "free", f)]) ∧ H kl = some (.lst (l.map V.str)) ∧ H md = some (.dK kvs) ∧ H wl = some (.lst ws) ∧ DpAll K H ws ds
theorem LR.same {K : PySem.W.Frag} {H H' : Hp} {r : Addr} {l : List Str} {kvs : List (Key × V)} {ds : List PyData} {d t f : V} (x : LR K H r l kvs ds d t f) (s : Same H H') : LR K H' r l kvs ds d t f := by
  obtain ⟨kl, md, wl, ws, h1, h2, h3, h4, h5⟩ := x
  exact ⟨kl, md, wl, ws, s _ _ h1, s _ _ h2, s _ _ h3, s _ _ h4, dps_same s _ _ h5⟩
def spMade (K : PySem.W.Frag) (C : Addr) : Sp := fun vs H Q _ => ∃ (r : Addr) (l : List Str) (kvs : List (Key × V)) (ds : List PyData) (d t f : V) (dd td fd : PyData), vs = [.ref r] ∧ LR K H r l kvs ds d t f ∧ Good l kvs ds ∧ Dp K H d dd ∧ Dp K H t td ∧ Dp K H f fd ∧ limD dd td fd = none ∧
  ∀ (H' : Hp) (a : Addr) (l' : List Str) (kvs' : List (Key × V)) (ds' : List PyData), Same H H' → l'.Perm l → Asc l' → kvs'.Perm kvs → ds'.Perm ds → RuleO K H' a C l' kvs' ds' d t f → Q (.ref a) H'
end RK

set_option Elab.async false
set_option linter.all false
set_option maxRecDepth 100000
set_option maxHeartbeats 1000000
/-! Lists of new things over any walk; dicts of texts and bools from their pairs. -/
namespace RK
open PySem PySem.Spec PyProof.Rows L2
theorem new_walk {K : PySem.W.Frag} {J : It} {xs : List V} {ds : List PyData} {g : TG} {te : TE} {vs : List Nat} {σ : L2.St} {H1 : Hp} {D : Addr} {Qd : Hp → Prop} (hlen : ds.length = xs.length) (hz : xs.length ≤ 1000) (hD : H1 D = none) (nl : noLs ds = true)
    (stop : ∀ H, Same H1 H → J.stop xs.length H) (go : ∀ i H, i < xs.length → Same H1 H → J.go i H) (yld : ∀ i x H H', Same H1 H → J.yld i H x H' → H' = H ∧ xs[i]? = some x)
    (step : ∀ (i : Nat) x d (H : Hp) (Q : V → Hp → Prop), xs[i]? = some x → ds[i]? = some d → Same H1 H → (∀ y H', Same H H' → Dp K H' y d → Q y H') → g x (wipe σ vs) H fun σ2 H2 => wipe σ2 vs = wipe σ vs ∧ te σ2 H2 Q)
    (hd : ∀ H ys, Same H1 H → H D = some (.lst ys) → DpAll K H ys ds → Qd H) :
    ∃ W : Nat → Nat → Hp → Prop, (∃ m, W 0 m (upd H1 D (.lst []))) ∧ ∀ i m H, W i m H → (J.stop i H ∧ Qd H) ∨ (J.go i H ∧ ∃ Nx : Hp → Prop, (∀ H', Nx H' → ∃ m', m' < m ∧ W (i + 1) m' H') ∧ ∀ x H', J.yld i H x H' → g x (wipe σ vs) H' fun σ2 H2 =>
      wipe σ2 vs = wipe σ vs ∧ tYes σ2 H2 fun b H3 => if b = true then te σ2 H3 fun y H4 => ∃ acc, H4 D = some (.lst acc) ∧ acc.length < sizeLine ∧ Nx (upd H4 D (.lst (acc ++ [y]))) else Nx H3) := by
  have big : (1001 : Nat) ≤ sizeLine := by rw [sizeLine_eq]; decide
  refine ⟨fun i m H => m = xs.length - i ∧ i ≤ xs.length ∧ Same H1 H ∧ ∃ ys, H D = some (.lst ys) ∧ DpAll K H ys (ds.take i), ⟨xs.length, by simp, Nat.zero_le _, same_put hD, [], upd_same, .nil⟩, ?_⟩
  rintro i m H ⟨rfl, hi, sm, ys, hd', da⟩
  by_cases hlt : i < xs.length
  · refine .inr ⟨go i H hlt sm, fun H' => Same H1 H' ∧ ∃ ys, H' D = some (.lst ys) ∧ DpAll K H' ys (ds.take (i + 1)), fun H' p => ⟨xs.length - (i + 1), by omega, rfl, hlt, p⟩, fun x H' y => ?_⟩
    obtain ⟨rfl, hx⟩ := yld i x H H' sm y
    obtain ⟨d, hdd⟩ : ∃ d, ds[i]? = some d := ⟨_, List.getElem?_eq_getElem (by omega)⟩
    refine step i x d H' (fun y H4 => ∃ acc, H4 D = some (.lst acc) ∧ acc.length < sizeLine ∧ (Same H1 (upd H4 D (.lst (acc ++ [y]))) ∧ ∃ ys, (upd H4 D (.lst (acc ++ [y]))) D = some (.lst ys) ∧ DpAll K (upd H4 D (.lst (acc ++ [y]))) ys (ds.take (i + 1)))) hx hdd sm fun y H4 s4 hy => ?_
    have hD4 := s4 _ _ hd'
    have hl : ys.length = (ds.take i).length := (dps_len da).symm
    refine ⟨ys, hD4, ?_, same_new (sm.trans s4) hD, _, upd_same, ?_⟩
    · rw [hl, List.length_take]
      omega
    · rw [NS.take_snoc hdd]
      have kk : ∀ b o, b ≠ D → H4 b = some o → (upd H4 D (.lst (ys ++ [y]))) b = some o := fun b o hb e => by rw [upd_ne hb]; exact e
      exact dps_snoc (dps_off hD4 kk _ _ (noLs_take ds i nl) (dps_same s4 _ _ da)) (dp_off hD4 kk d _ (noLs_at nl hdd) hy)
  · have e : i = xs.length := by omega
    subst e
    refine .inl ⟨stop H sm, hd H ys sm hd' ?_⟩
    rw [← hlen, List.take_length] at da
    exact da
/-! ### data beside a dict that is let go -/
mutual
theorem dp_frz {K : PySem.W.Frag} {H H' : Hp} {a : Addr} {o : Obj} {kvs : List (Key × V)} (ha : H a = some (.frz o (.dK kvs))) (k : ∀ b o, b ≠ a → H b = some o → H' b = some o) : ∀ (d : PyData) (v : V), noL d = true → Dp K H v d → Dp K H' v d
  | .none, _, _, h => by cases h; exact .non
  | .bool b, _, _, h => by cases h; exact .bl b
  | .int i, _, _, h => by cases h; exact .int i
  | .str x, _, _, h => by cases h; exact .str x
  | .list ds, _, n, _ => by cases n
  | .tuple ds, _, n, h => by
    cases h with
    | @tup b xs _ hs hd =>
      refine .tup ?_ (dps_frz ha k ds _ n hd)
      rcases hs with (h | ⟨o2, h⟩) | h
      · exact .inl (.inl (k _ _ (fun z => by rw [z, ha] at h; cases h) h))
      · exact .inl (.inr ⟨o2, k _ _ (fun z => by rw [z, ha] at h; cases h) h⟩)
      · exact .inr h
  | .dict _, _, _, h => by cases h
theorem dps_frz {K : PySem.W.Frag} {H H' : Hp} {a : Addr} {o : Obj} {kvs : List (Key × V)} (ha : H a = some (.frz o (.dK kvs))) (k : ∀ b o, b ≠ a → H b = some o → H' b = some o) : ∀ (ds : List PyData) (vs : List V), noLs ds = true → DpAll K H vs ds → DpAll K H' vs ds
  | [], _, _, h => by cases h; exact .nil
  | d :: ds, _, n, h => by
    have n' : (noL d && noLs ds) = true := n
    rw [Bool.and_eq_true] at n'
    cases h with
    | cons h1 h2 => exact .cons (dp_frz ha k d _ n'.1 h1) (dps_frz ha k ds _ n'.2 h2)
end
/-! ### texts and bools -/
def mkv (ms : List (Str × Bool)) : List (Key × V) := ms.map fun p => (.inr p.1, .bl p.2)
def mpd (ms : List (Str × Bool)) : List PyData := ms.map fun p => .tuple [.str p.1, .bool p.2]
theorem mkv_of : ∀ {kvs : List (Key × V)}, (kvs.all fun p => wordK p.1) = true → (kvs.all fun p => boolV p.2) = true → ∃ ms, kvs = mkv ms
  | [], _, _ => ⟨[], rfl⟩
  | (k, v) :: r, h1, h2 => by
    rw [List.all_cons, Bool.and_eq_true] at h1 h2
    obtain ⟨ms, e⟩ := mkv_of h1.2 h2.2
    cases k with
    | inl i => cases h1.1
    | inr y =>
      cases v with
      | bl b => exact ⟨(y, b) :: ms, by rw [e]; rfl⟩
      | _ => cases h2.1
theorem Good.ms {l : List Str} {kvs : List (Key × V)} {ds : List PyData} (g : Good l kvs ds) : ∃ ms, kvs = mkv ms := by
  have e' : ((decide (1 ≤ kvs.length) && decide (kvs.length ≤ 3)) && ((kvs.all fun p => wordK p.1) && kvs.all fun p => boolV p.2)) = true := g.m
  rw [Bool.and_eq_true, Bool.and_eq_true (a := kvs.all fun p => wordK p.1)] at e'
  exact mkv_of e'.2.1 e'.2.2
theorem noLs_mpd : ∀ ms : List (Str × Bool), noLs (mpd ms) = true
  | [] => rfl
  | p :: ms => by
    show ((noL (.str p.1) && (noL (.bool p.2) && true)) && noLs (mpd ms)) = true
    rw [noLs_mpd ms]
    rfl
theorem pairs_of {K : PySem.W.Frag} {H : Hp} : ∀ {ms : List (Str × Bool)} {ys : List V}, DpAll K H ys (mpd ms) → ∃ ps : List Addr, ys = ps.map V.ref ∧ Paired (fun p (kv : Key × V) => SqT K H p [L2.kV kv.1, kv.2]) ps (mkv ms)
  | [], _, h => by
    cases h
    exact ⟨[], rfl, .nil⟩
  | p :: ms, _, h => by
    cases h with
    | cons h1 h2 =>
      obtain ⟨ps, e, q⟩ := pairs_of h2
      cases h1 with
      | @tup a xs _ hs ha =>
        cases ha with
        | cons a1 ha =>
          cases ha with
          | cons a2 ha =>
            cases ha
            cases a1
            cases a2
            exact ⟨a :: ps, by rw [e]; rfl, .cons hs q⟩
theorem merge_new : ∀ {more kvs : List (Key × V)}, ((kvs ++ more).map (·.1)).Nodup → mergeK kvs more = kvs ++ more
  | [], kvs, _ => (List.append_nil kvs).symm
  | p :: more, kvs, nd => by
    have e : kvs ++ p :: more = (kvs ++ [p]) ++ more := by rw [List.append_assoc]; rfl
    have hk : p.1 ∉ kvs.map (·.1) := fun q => by
      rw [List.map_append, List.map_cons] at nd
      exact (List.nodup_append.mp nd).2.2 _ q _ List.mem_cons_self rfl
    show mergeK (putK kvs p.1 p.2) more = _
    rw [putK_new hk, e]
    refine merge_new ?_
    rw [← e]
    exact nd
theorem merge_all {kvs : List (Key × V)} (nd : (kvs.map (·.1)).Nodup) : mergeK [] kvs = kvs := merge_new (kvs := []) nd
/-- pairs of a dict's keys and values, new -/
theorem new_keys {K : PySem.W.Frag} {d : Addr} {o : Obj} {ms : List (Str × Bool)} {g : TG} {te : TE} {vs : List Nat} {σ : L2.St} {H1 : Hp} {D : Addr} {Qd : Hp → Prop} (hs : H1 d = some (.frz o (.dK (mkv ms)))) (hz : ms.length ≤ 1000) (hD : H1 D = none)
    (step : ∀ (y : Str) (b : Bool) (H : Hp) (Q : V → Hp → Prop), (y, b) ∈ ms → Same H1 H → (∀ z H', Same H H' → Dp K H' z (.tuple [.str y, .bool b]) → Q z H') → g (.str y) (wipe σ vs) H fun σ2 H2 => wipe σ2 vs = wipe σ vs ∧ te σ2 H2 Q)
    (hd : ∀ H ys, Same H1 H → H D = some (.lst ys) → DpAll K H ys (mpd ms) → Qd H) :
    ∃ W : Nat → Nat → Hp → Prop, (∃ m, W 0 m (upd H1 D (.lst []))) ∧ ∀ i m H, W i m H → ((Itk d o (mkv ms)).stop i H ∧ Qd H) ∨ ((Itk d o (mkv ms)).go i H ∧ ∃ Nx : Hp → Prop, (∀ H', Nx H' → ∃ m', m' < m ∧ W (i + 1) m' H') ∧ ∀ x H', (Itk d o (mkv ms)).yld i H x H' → g x (wipe σ vs) H' fun σ2 H2 =>
      wipe σ2 vs = wipe σ vs ∧ tYes σ2 H2 fun b H3 => if b = true then te σ2 H3 fun y H4 => ∃ acc, H4 D = some (.lst acc) ∧ acc.length < sizeLine ∧ Nx (upd H4 D (.lst (acc ++ [y]))) else Nx H3) := by
  have hl : (ms.map fun p => V.str p.1).length = ms.length := List.length_map ..
  have hk : (mkv ms).length = ms.length := List.length_map ..
  refine new_walk (xs := ms.map fun p => V.str p.1) (by rw [hl]; exact List.length_map ..) (by rw [hl]; exact hz) hD (noLs_mpd ms) (fun H sm => ⟨sm _ _ hs, by rw [hl, hk]; exact Nat.le_refl _⟩) (fun i H hlt sm => ⟨sm _ _ hs, by rw [hl] at hlt; rw [hk]; exact hlt⟩) (fun i x H H' sm q => ?_) (fun i x d H Q hx hdd sm k => ?_) hd
  · obtain ⟨e, k, v, hkv, rfl⟩ := q
    refine ⟨e, ?_⟩
    have hkv' : (ms.map fun p => ((.inr p.1, .bl p.2) : Key × V))[i]? = some (k, v) := hkv
    rw [List.getElem?_map] at hkv' ⊢
    obtain ⟨p, hp, e2⟩ := Option.map_eq_some_iff.mp hkv'
    rw [hp]
    cases e2
    rfl
  · rw [List.getElem?_map] at hx
    have hdd' : (ms.map fun p => PyData.tuple [.str p.1, .bool p.2])[i]? = some d := hdd
    rw [List.getElem?_map] at hdd'
    obtain ⟨p, hp, rfl⟩ := Option.map_eq_some_iff.mp hx
    rw [hp] at hdd'
    obtain rfl := Option.some.inj hdd'
    exact step p.1 p.2 H Q (List.mem_of_getElem? hp) sm k
end RK

set_option Elab.async false
set_option linter.all false
set_option maxRecDepth 100000
set_option maxHeartbeats 1000000
/-! The law's drawn rules: names, measures, ways. -/
namespace RK
open PySem PySem.Spec PyProof.Rows L2
/-- a comprehension over any walk, by what holds ahead of each turn -/
theorem lc_gen {J : It} {g : TG} {te : TE} {vs : List Nat} {σ : L2.St} {H1 : Hp} {D : Addr} {Qd : Hp → Prop} (n : Nat) (Pv : Nat → Hp → Prop) (h0 : Pv 0 (upd H1 D (.lst []))) (stop : ∀ H, Pv n H → J.stop n H) (go : ∀ i H, i < n → Pv i H → J.go i H)
    (step : ∀ i x H H', i < n → Pv i H → J.yld i H x H' → g x (wipe σ vs) H' fun σ2 H2 => wipe σ2 vs = wipe σ vs ∧ te σ2 H2 fun y H4 => ∃ acc, H4 D = some (.lst acc) ∧ acc.length < sizeLine ∧ Pv (i + 1) (upd H4 D (.lst (acc ++ [y])))) (hd : ∀ H, Pv n H → Qd H) :
    ∃ W : Nat → Nat → Hp → Prop, (∃ m, W 0 m (upd H1 D (.lst []))) ∧ ∀ i m H, W i m H → (J.stop i H ∧ Qd H) ∨ (J.go i H ∧ ∃ Nx : Hp → Prop, (∀ H', Nx H' → ∃ m', m' < m ∧ W (i + 1) m' H') ∧ ∀ x H', J.yld i H x H' → g x (wipe σ vs) H' fun σ2 H2 =>
      wipe σ2 vs = wipe σ vs ∧ tYes σ2 H2 fun b H3 => if b = true then te σ2 H3 fun y H4 => ∃ acc, H4 D = some (.lst acc) ∧ acc.length < sizeLine ∧ Nx (upd H4 D (.lst (acc ++ [y]))) else Nx H3) := by
  refine ⟨fun i m H => m = n - i ∧ i ≤ n ∧ Pv i H, ⟨n, by simp, Nat.zero_le _, h0⟩, ?_⟩
  rintro i m H ⟨rfl, hi, p⟩
  by_cases hlt : i < n
  · exact .inr ⟨go i H hlt p, Pv (i + 1), fun H' p' => ⟨n - (i + 1), by omega, rfl, hlt, p'⟩, fun x H' y => step i x H H' hlt p y⟩
  · have e : i = n := by omega
    subst e
    exact .inl ⟨stop H p, hd H p⟩
/-! ### ways as data that is compared -/
abbrev Lay (l : List Str) : Prop := ∀ y ∈ l, (PyData.str y).canLay0 = true
theorem signL_lay : Lay signL := by decide +kernel
theorem strs_lay : ∀ {ss : List PyData}, ss.all (oneD signL) = true → PyData.canLayAll0 ss = true ∧ PyData.depthAll ss = 0
  | [], _ => ⟨rfl, rfl⟩
  | d :: ss, h => by
    rw [List.all_cons, Bool.and_eq_true] at h
    obtain ⟨y, rfl, hy⟩ := one_str h.1
    obtain ⟨e1, e2⟩ := strs_lay h.2
    refine ⟨?_, ?_⟩
    · show (PyData.canLay0 (.str y) && PyData.canLayAll0 ss) = true
      rw [e1, signL_lay y hy]
      rfl
    · show max (PyData.depth (.str y)) (PyData.depthAll ss) = 0
      rw [e2]
      rfl
theorem way_lay {l : List Str} {many : Nat} {d : PyData} (ly : Lay l) (h : wayD l many d = true) : d.canLay0 = true ∧ d.depth ≤ 2 := by
  obtain ⟨k, b, ss, rfl, hk, hb, _, hs⟩ := way_shape h
  obtain ⟨e1, e2⟩ := strs_lay hs
  refine ⟨?_, ?_⟩
  · show (PyData.canLay0 (.str k) && (PyData.canLay0 (.str b) && (PyData.canLayAll0 ss && true))) = true
    rw [e1, ly k hk, ly b hb]
    rfl
  · show max 0 (max 0 (max (PyData.depthAll ss + 1) 0)) + 1 ≤ 2
    rw [e2]
    decide
theorem way_shaped {l : List Str} {many : Nat} {d : PyData} (ly : Lay l) (h : wayD l many d = true) : SeqAt.shaped d = true := by
  obtain ⟨h1, h2⟩ := way_lay ly h
  unfold SeqAt.shaped
  rw [h1, decide_eq_true (by omega)]
  rfl
theorem ways_shaped {l : List Str} {many : Nat} {ds : List PyData} (ly : Lay l) (h : ds.all (wayD l many) = true) : SeqAt.shaped (.list ds) = true := by
  have e : PyData.canLayAll0 ds = true ∧ PyData.depthAll ds ≤ 2 := by
    induction ds with
    | nil => exact ⟨rfl, Nat.zero_le _⟩
    | cons d ds ih =>
      rw [List.all_cons, Bool.and_eq_true] at h
      obtain ⟨h1, h2⟩ := way_lay ly h.1
      obtain ⟨i1, i2⟩ := ih h.2
      refine ⟨?_, ?_⟩
      · show (PyData.canLay0 d && PyData.canLayAll0 ds) = true
        rw [h1, i1]
        rfl
      · show max d.depth (PyData.depthAll ds) ≤ 2
        omega
  unfold SeqAt.shaped
  show (PyData.canLayAll0 ds && decide (PyData.depthAll ds + 1 ≤ 64)) = true
  rw [e.1, decide_eq_true (by omega)]
  rfl
/-- a way that isn't met is a new key -/
theorem way_fresh {l : List Str} {many : Nat} {ds : List PyData} {d : PyData} (ly : Lay l) (hs : ds.all (wayD l many) = true) (h : wayD l many d = true) (hn : (ds.any fun z => PyData.eqv z d) = false) : nk d ∉ ds.map nk := fun q => by
  obtain ⟨z, hz, e⟩ := List.mem_map.mp q
  have e1 := (way_key (List.all_eq_true.mp hs z hz)).1
  have e2 := (way_key h).1
  rw [e, e2] at e1
  subst e1
  have := List.any_eq_false.mp hn _ hz
  exact this (SeqAt.eqv_refl _ (way_lay ly h).1)
/-! ### names -/
abbrev n4 : List Str := ["a", "bb", "cz", "word"]
abbrev L4 : List V := [.str "a", .str "bb", .str "cz", .str "word"]
theorem names_cut {d e : Int} (d0 : 0 ≤ d) (d1 : d < 2) (e0 : 0 ≤ e) (e1 : e < 3) : ∃ l : List Str, cutV (cutV L4 (some d) none) none (some (1 + e)) = l.map V.str ∧ kindsD (strD l) = true ∧ ∀ y ∈ l, y ∈ n4 := by
  have hd : d = 0 ∨ d = 1 := by omega
  have he : e = 0 ∨ e = 1 ∨ e = 2 := by omega
  rcases hd with rfl | rfl <;> rcases he with rfl | rfl | rfl
  · exact ⟨["a"], rfl, by decide +kernel, by decide⟩
  · exact ⟨["a", "bb"], rfl, by decide +kernel, by decide⟩
  · exact ⟨["a", "bb", "cz"], rfl, by decide +kernel, by decide⟩
  · exact ⟨["bb"], rfl, by decide +kernel, by decide⟩
  · exact ⟨["bb", "cz"], rfl, by decide +kernel, by decide⟩
  · exact ⟨["bb", "cz", "word"], rfl, by decide +kernel, by decide⟩
def menuM : List (List (Str × Bool)) := [[(("age" : Str), true)], [(("age" : Str), true), (("use" : Str), false)], [(("size" : Str), true), (("age" : Str), true)], [(("size" : Str), true), (("age" : Str), true), (("use" : Str), false)], [(("use" : Str), false)]]
theorem menu_good : ∀ ms ∈ menuM, measD (.dict (mkv ms)) = true ∧ ((mkv ms).map (·.1)).Nodup ∧ 1 ≤ ms.length ∧ ms.length ≤ 3 := by
  intro ms h
  have h' : ms = [(("age" : Str), true)] ∨ ms = [(("age" : Str), true), (("use" : Str), false)] ∨ ms = [(("size" : Str), true), (("age" : Str), true)] ∨ ms = [(("size" : Str), true), (("age" : Str), true), (("use" : Str), false)] ∨ ms = [(("use" : Str), false)] := by simpa [menuM] using h
  rcases h' with rfl | rfl | rfl | rfl | rfl <;> exact ⟨by decide +kernel, by decide +kernel, by decide, by decide⟩
theorem n4_lay : Lay n4 := by decide +kernel
abbrev s7 : List Str := ["less", "less", "more", "same", "upto", "from", "any"]
theorem s7_signs : ∀ y ∈ s7, y ∈ signL := by decide
theorem mkv_flat (ms : List (Str × Bool)) : ∀ p ∈ mkv ms, flatV p.2 = true := fun p hp => by
  obtain ⟨q, _, rfl⟩ := List.mem_map.mp hp
  rfl
theorem mkv_len (ms : List (Str × Bool)) : (mkv ms).length = ms.length := List.length_map ..
/-! ### limits -/
theorem lim_none {dd td fd : PyData} (h1 : limitD 0 dd = true) (h2 : limitD 1 td = true) (h3 : boolB fd = true) : limD dd td fd = none := by
  unfold limD
  rw [if_neg (by rw [h1]; decide), if_neg (by rw [h2]; decide), if_neg (by rw [h3]; decide)]
end RK

set_option Elab.async false
set_option linter.all false
set_option maxRecDepth 100000
set_option maxHeartbeats 1000000
/-! Parts that are not as they should be: lists of them, made beside a list that grows. -/
namespace RK
open PySem PySem.Spec PyProof.Rows L2
/-! ### the heap without one address -/
def hid (D : Addr) (H : Hp) : Hp := fun b => if b = D then none else H b
theorem hid_ne {D b : Addr} {H : Hp} (h : b ≠ D) : hid D H b = H b := if_neg h
theorem hid_le {D : Addr} {H : Hp} : Same (hid D H) H := fun b o e => by
  unfold hid at e
  split at e
  · cases e
  · exact e
theorem hid_mono {D : Addr} {H H' : Hp} (s : Off D H H') : Same (hid D H) (hid D H') := fun b o e => by
  unfold hid at e ⊢
  split at e
  · cases e
  · rename_i hb
    rw [if_neg hb]
    exact s b o hb e
theorem hid_new {D : Addr} {H1 H : Hp} (hD : H1 D = none) (s : Same H1 H) : Same H1 (hid D H) := fun b o e => by
  rw [hid_ne (ne_of_none e hD)]
  exact s b o e
theorem hid_put {D : Addr} {H : Hp} {u : HO} : hid D (upd H D u) = hid D H := by
  funext b
  unfold hid
  by_cases hb : b = D
  · rw [if_pos hb, if_pos hb]
  · rw [if_neg hb, if_neg hb, upd_ne hb]
theorem hidS {D : Addr} {H H' : Hp} (s : Same H H') : Same (hid D H) (hid D H') := hid_mono (Off.of s)
theorem hid_upd {P p : Addr} {H : Hp} {u : HO} (h : p ≠ P) : hid P (upd H p u) = upd (hid P H) p u := by
  funext b
  unfold hid
  by_cases hb : b = P
  · subst hb
    rw [if_pos rfl, upd_ne (Ne.symm h), if_pos rfl]
  · rw [if_neg hb]
    by_cases hp : b = p
    · subst hp
      rw [upd_same, upd_same]
    · rw [upd_ne hp, upd_ne hp, if_neg hb]
/-- an assignment to a plain name, its frame written out -/
theorem gn_st {i : Nat} {v : V} {σ σ' : L2.St} {H : Hp} {Q : L2.St → Hp → Prop} (h : σ.set i (some v) = σ') (p : Q σ' H) : gName i v σ H Q := by
  subst h
  exact p
/-- a comprehension over a list: each new thing keeps what is said of it while the list grows -/
theorem lc_stab {K : PySem.W.Frag} {a : Addr} {xs : List V} {E : V → V → Hp → Prop} (st : ∀ x y H H', Same H H' → E x y H → E x y H') {g : TG} {te : TE} {vs : List Nat} {σ : L2.St} {H1 : Hp} {D : Addr} {Qd : Hp → Prop} (hs : SqL K H1 a xs) (hz : xs.length ≤ 1000) (hD : H1 D = none)
    (step : ∀ (x : V) (H : Hp) (Q : V → Hp → Prop), x ∈ xs → Same H1 H → (∃ ys, H D = some (.lst ys)) → (∀ y H', Same H H' → E x y (hid D H') → Q y H') → g x (wipe σ vs) H fun σ2 H2 => wipe σ2 vs = wipe σ vs ∧ te σ2 H2 Q)
    (hd : ∀ H ys, Same H1 H → H D = some (.lst ys) → ys.length = xs.length → (∀ y ∈ ys, ∃ x ∈ xs, E x y H) → Qd H) :
    ∃ W : Nat → Nat → Hp → Prop, (∃ m, W 0 m (upd H1 D (.lst []))) ∧ ∀ i m H, W i m H → ((Itl K a).stop i H ∧ Qd H) ∨ ((Itl K a).go i H ∧ ∃ Nx : Hp → Prop, (∀ H', Nx H' → ∃ m', m' < m ∧ W (i + 1) m' H') ∧ ∀ x H', (Itl K a).yld i H x H' → g x (wipe σ vs) H' fun σ2 H2 =>
      wipe σ2 vs = wipe σ vs ∧ tYes σ2 H2 fun b H3 => if b = true then te σ2 H3 fun y H4 => ∃ acc, H4 D = some (.lst acc) ∧ acc.length < sizeLine ∧ Nx (upd H4 D (.lst (acc ++ [y]))) else Nx H3) := by
  have big : (1001 : Nat) ≤ sizeLine := by rw [sizeLine_eq]; decide
  refine lc_gen (J := Itl K a) xs.length (fun i H => Same H1 (hid D H) ∧ ∃ ys, H D = some (.lst ys) ∧ ys.length = i ∧ ∀ y ∈ ys, ∃ x ∈ xs, E x y (hid D H))
    ⟨by rw [hid_put]; exact hid_new hD (Same.refl H1), [], upd_same, rfl, fun y hy => absurd hy List.not_mem_nil⟩ (fun H h => ⟨xs, (h.1.trans hid_le).seq hs, Nat.le_refl _⟩) (fun i H hlt h => ⟨xs, xs[i], (h.1.trans hid_le).seq hs, List.getElem?_eq_getElem hlt⟩) ?_ ?_
  · rintro i x H H' hlt ⟨sm, ys, hDD, hl, hall⟩ ⟨rfl, hq⟩
    have hx := hq xs ((sm.trans hid_le).seq hs)
    refine step x H' (fun y H4 => ∃ acc, H4 D = some (.lst acc) ∧ acc.length < sizeLine ∧ (Same H1 (hid D (upd H4 D (.lst (acc ++ [y])))) ∧ ∃ ys, (upd H4 D (.lst (acc ++ [y]))) D = some (.lst ys) ∧ ys.length = i + 1 ∧ ∀ z ∈ ys, ∃ x ∈ xs, E x z (hid D (upd H4 D (.lst (acc ++ [y])))))) (List.mem_of_getElem? hx) (sm.trans hid_le) ⟨ys, hDD⟩ fun y H4 s4 ey => ?_
    have s5 : Same (hid D H') (hid D H4) := hid_mono (Off.of s4)
    refine ⟨ys, s4 _ _ hDD, by omega, ?_, _, upd_same, by rw [List.length_append, hl]; rfl, fun z hz => ?_⟩
    · rw [hid_put]
      exact sm.trans s5
    · rw [hid_put]
      rcases List.mem_append.mp hz with hz | hz
      · obtain ⟨x', hx', e⟩ := hall z hz
        exact ⟨x', hx', st _ _ _ _ s5 e⟩
      · rw [List.mem_singleton.mp hz]
        exact ⟨x, List.mem_of_getElem? hx, ey⟩
  · rintro H ⟨sm, ys, hDD, hl, hall⟩
    exact hd H ys (sm.trans hid_le) hDD hl fun y hy => by
      obtain ⟨x, hx, e⟩ := hall y hy
      exact ⟨x, hx, st _ _ _ _ hid_le e⟩
/-! ### parts that are bent -/
inductive Bent (K : PySem.W.Frag) (H : Hp) (l : List Str) (many : Nat) : Int → V → Prop
  | k {x : V} {d : PyData} (h : Dp K H x d) (o : KindsOk d) (b : kindsD d = false) : Bent K H l many 0 x
  | m {x : V} {m : MD} (h : MAt K H x m) (b : measD m = false) : Bent K H l many 1 x
  | y {x : V} {d : PyData} (h : Dp K H x d) (o : WaysOk d) (b : waysD l many d = false) : Bent K H l many 2 x
  | d {x : V} {d : PyData} (h : Dp K H x d) (b : limitD 0 d = false) : Bent K H l many 3 x
  | t {x : V} {d : PyData} (h : Dp K H x d) (b : limitD 1 d = false) : Bent K H l many 4 x
  | f {x : V} {d : PyData} (h : Dp K H x d) (b : boolB d = false) : Bent K H l many 5 x
theorem Bent.same {K : PySem.W.Frag} {H H' : Hp} {l : List Str} {many : Nat} {c : Int} {x : V} (h : Bent K H l many c x) (s : Same H H') : Bent K H' l many c x := by
  cases h with
  | k h o b => exact .k (dp_same s _ _ h) o b
  | m h b => exact .m (h.same s) b
  | y h o b => exact .y (dp_same s _ _ h) o b
  | d h b => exact .d (dp_same s _ _ h) b
  | t h b => exact .t (dp_same s _ _ h) b
  | f h b => exact .f (dp_same s _ _ h) b
def BE (K : PySem.W.Frag) (H : Hp) (l : List Str) (many : Nat) (y : V) : Prop := ∃ (c : Int) (q : Addr) (x : V), y = .ref q ∧ H q = some (.tup [.int c, x]) ∧ Bent K H l many c x
theorem BE.same {K : PySem.W.Frag} {H H' : Hp} {l : List Str} {many : Nat} {y : V} (h : BE K H l many y) (s : Same H H') : BE K H' l many y := by
  obtain ⟨c, q, x, e, h1, h2⟩ := h
  exact ⟨c, q, x, e, s _ _ h1, h2.same s⟩
/-- a list of them -/
def BL (K : PySem.W.Frag) (H : Hp) (l : List Str) (many : Nat) (a : Addr) (n : Nat) : Prop := ∃ ys, H a = some (.lst ys) ∧ ys.length = n ∧ ∀ y ∈ ys, BE K H l many y
theorem BL.same {K : PySem.W.Frag} {H H' : Hp} {l : List Str} {many : Nat} {a : Addr} {n : Nat} (h : BL K H l many a n) (s : Same H H') : BL K H' l many a n := by
  obtain ⟨ys, h1, h2, h3⟩ := h
  exact ⟨ys, s _ _ h1, h2, fun y hy => (h3 y hy).same s⟩
theorem BL.cat {K : PySem.W.Frag} {H : Hp} {l : List Str} {many : Nat} {n m : Nat} {xs ys : List V} {p P : Addr} (h1 : xs.length = n ∧ ∀ y ∈ xs, BE K (hid P H) l many y) (h2 : ys.length = m ∧ ∀ y ∈ ys, BE K (hid P H) l many y) (hp : H p = none) (np : p ≠ P) : BL K (hid P (upd H p (.lst (xs ++ ys)))) l many p (n + m) := by
  have hp2 : hid P H p = none := by rw [hid_ne np]; exact hp
  rw [hid_upd np]
  refine ⟨_, upd_same, by rw [List.length_append, h1.1, h2.1], fun y hy => ?_⟩
  rcases List.mem_append.mp hy with hy | hy
  · exact (h1.2 y hy).same (same_put hp2)
  · exact (h2.2 y hy).same (same_put hp2)
theorem np_of {H H1 : Hp} {P q : Addr} {o : HO} (hP : H1 P = some o) (s : Same H1 H) (hq : H q = none) : q ≠ P := Ne.symm (ne_of_none (s _ _ hP) hq)
/-- [(c, odd) for odd in [..]] -/
theorem lc_odd {K : PySem.W.Frag} {a P : Addr} {oP : HO} {xs : List V} {l : List Str} {many : Nat} {c : Int} {g : TG} {te : TE} {vs : List Nat} {σ : L2.St} {H1 : Hp} {D : Addr} {Qd : Hp → Prop} (hP : H1 P = some oP) (hs : SqL K H1 a xs) (hz : xs.length ≤ 1000) (hD : H1 D = none) (hb : ∀ x ∈ xs, Bent K (hid P H1) l many c x)
    (step : ∀ (x : V) (H : Hp) (Q : V → Hp → Prop), (∀ q, H q = none → Q (.ref q) (upd H q (.tup [.int c, x]))) → g x (wipe σ vs) H fun σ2 H2 => wipe σ2 vs = wipe σ vs ∧ te σ2 H2 Q)
    (hd : ∀ H, Same H1 H → BL K (hid P H) l many D xs.length → Qd H) :
    ∃ W : Nat → Nat → Hp → Prop, (∃ m, W 0 m (upd H1 D (.lst []))) ∧ ∀ i m H, W i m H → ((Itl K a).stop i H ∧ Qd H) ∨ ((Itl K a).go i H ∧ ∃ Nx : Hp → Prop, (∀ H', Nx H' → ∃ m', m' < m ∧ W (i + 1) m' H') ∧ ∀ x H', (Itl K a).yld i H x H' → g x (wipe σ vs) H' fun σ2 H2 =>
      wipe σ2 vs = wipe σ vs ∧ tYes σ2 H2 fun b H3 => if b = true then te σ2 H3 fun y H4 => ∃ acc, H4 D = some (.lst acc) ∧ acc.length < sizeLine ∧ Nx (upd H4 D (.lst (acc ++ [y]))) else Nx H3) := by
  have nD : D ≠ P := np_of hP (Same.refl H1) hD
  refine lc_stab (E := fun x y H => ∃ q, y = .ref q ∧ q ≠ P ∧ H q = some (.tup [.int c, x])) (fun x y H H' s ⟨q, e, n, h⟩ => ⟨q, e, n, s _ _ h⟩) hs hz hD (fun x H Q hx sm ⟨ys, hDD⟩ k => step x H Q fun q hq => k _ _ (same_put hq) ⟨q, rfl, np_of hP sm hq, ?_⟩) fun H ys sm hDD hl hall => hd H sm ⟨ys, by rw [hid_ne nD]; exact hDD, hl, fun y hy => ?_⟩
  · rw [hid_ne (Ne.symm (ne_of_none hDD hq)), upd_same]
  · obtain ⟨x, hx, q, e, n, h⟩ := hall y hy
    exact ⟨c, q, x, e, by rw [hid_ne n]; exact h, (hb x hx).same (hidS sm)⟩
/-! ### ways that are bent -/
def WB (l : List Str) (many : Nat) (ds : List PyData) (d : PyData) : Prop := WayOk d ∧ (wayD l many d = false ∨ d ∈ ds)
theorem ways_bent {l : List Str} {many : Nat} {ds : List PyData} {d : PyData} (h : WB l many ds d) : waysD l many (.list (ds ++ [d])) = false := by
  show (_ && ((ds ++ [d]).all (wayD l many) && decide ((ds ++ [d]).map nk).Nodup)) = false
  rcases h.2 with e | e
  · rw [List.all_append, List.all_cons, e, Bool.false_and, Bool.and_false, Bool.false_and, Bool.and_false]
  · rw [decide_eq_false (p := ((ds ++ [d]).map nk).Nodup), Bool.and_false, Bool.and_false]
    rw [List.map_append]
    intro z
    exact (List.nodup_append.mp z).2.2 (nk d) (List.mem_map.mpr ⟨d, e, rfl⟩) (nk d) (List.mem_map.mpr ⟨d, List.mem_singleton.mpr rfl, rfl⟩) rfl
/-- [(2, ways + [bad]) for bad in bad_ways] -/
theorem lc_ways {K : PySem.W.Frag} {a P : Addr} {oP : HO} {xs : List V} {l : List Str} {many : Nat} {ds : List PyData} {ws : List V} {g : TG} {te : TE} {vs : List Nat} {σ : L2.St} {H1 : Hp} {D : Addr} {Qd : Hp → Prop} (hP : H1 P = some oP) (hs : SqL K H1 a xs) (hz : xs.length ≤ 1000) (hD : H1 D = none)
    (hw : DpAll K (hid P H1) ws ds) (hds : WaysOk (.list ds)) (hdl : ds.length ≤ 900) (hb : ∀ x ∈ xs, ∃ d, Dp K (hid P H1) x d ∧ WB l many ds d)
    (step : ∀ (x : V) (H : Hp) (Q : V → Hp → Prop), Same H1 H → (∀ H' p q, Same H H' → H' p = some (.lst (ws ++ [x])) → H p = none → H' q = none → Q (.ref q) (upd H' q (.tup [.int 2, .ref p]))) → g x (wipe σ vs) H fun σ2 H2 => wipe σ2 vs = wipe σ vs ∧ te σ2 H2 Q)
    (hd : ∀ H, Same H1 H → BL K (hid P H) l many D xs.length → Qd H) :
    ∃ W : Nat → Nat → Hp → Prop, (∃ m, W 0 m (upd H1 D (.lst []))) ∧ ∀ i m H, W i m H → ((Itl K a).stop i H ∧ Qd H) ∨ ((Itl K a).go i H ∧ ∃ Nx : Hp → Prop, (∀ H', Nx H' → ∃ m', m' < m ∧ W (i + 1) m' H') ∧ ∀ x H', (Itl K a).yld i H x H' → g x (wipe σ vs) H' fun σ2 H2 =>
      wipe σ2 vs = wipe σ vs ∧ tYes σ2 H2 fun b H3 => if b = true then te σ2 H3 fun y H4 => ∃ acc, H4 D = some (.lst acc) ∧ acc.length < sizeLine ∧ Nx (upd H4 D (.lst (acc ++ [y]))) else Nx H3) := by
  have nD : D ≠ P := np_of hP (Same.refl H1) hD
  refine lc_stab (E := fun x y H => ∃ q p, y = .ref q ∧ q ≠ P ∧ p ≠ P ∧ H q = some (.tup [.int 2, .ref p]) ∧ H p = some (.lst (ws ++ [x]))) (fun x y H H' s ⟨q, p, e, n1, n2, h1, h2⟩ => ⟨q, p, e, n1, n2, s _ _ h1, s _ _ h2⟩) hs hz hD
    (fun x H Q hx sm ⟨ys, hDD⟩ k => step x H Q sm (fun H' p q s' hp np hq => k _ _ (s'.trans (same_put hq)) ⟨q, p, rfl, np_of hP (sm.trans s') hq, np_of hP sm np, ?_, ?_⟩)) fun H ys sm hDD hl hall => hd H sm ⟨ys, by rw [hid_ne nD]; exact hDD, hl, fun y hy => ?_⟩
  · rw [hid_ne (Ne.symm (ne_of_none (s' _ _ hDD) hq)), upd_same]
  · rw [hid_ne (Ne.symm (ne_of_none hDD np)), upd_ne (ne_of_none hp hq)]
    exact hp
  · obtain ⟨x, hx, q, p, e, n1, n2, h1, h2⟩ := hall y hy
    obtain ⟨d, hd', wb⟩ := hb x hx
    have h2' : hid P H p = some (.lst (ws ++ [x])) := by rw [hid_ne n2]; exact h2
    refine ⟨2, q, .ref p, e, by rw [hid_ne n1]; exact h1, .y (d := .list (ds ++ [d])) (.lst (SqL.of h2') (dps_snoc (dps_same (hidS sm) _ _ hw) (dp_same (hidS sm) _ _ hd'))) ⟨?_, fun z hz => ?_⟩ (ways_bent wb)⟩
    · show (ds ++ [d]).length ≤ 1000
      rw [List.length_append]
      show ds.length + 1 ≤ 1000
      omega
    · rcases List.mem_append.mp hz with hz | hz
      · exact hds.2 z hz
      · rw [List.mem_singleton.mp hz]
        exact wb.1
/-! ### the bends of a way -/
theorem sign_ask {y : Str} (h : y ∈ signL) : askable (.str y) = true := by
  show (signL ++ (["small"] : List Str)).contains y = true
  rw [List.contains_eq_mem]
  exact decide_eq_true (List.mem_append_left _ h)
theorem wok {a b : PyData} {ss : List PyData} (ha : ∀ z, a ≠ .tuple z) (hb : ∀ z, b ≠ .tuple z) (few : ss.length ≤ 1000) (ask : ∀ z ∈ ss, askable z = true) : WayOk (.tuple [a, b, .tuple ss]) := by
  refine ⟨by show 3 ≤ 1000; decide, fun s hs ss' e => ?_⟩
  subst e
  rcases List.mem_cons.mp hs with e | hs
  · exact absurd e.symm (ha _)
  · rcases List.mem_cons.mp hs with e | hs
    · exact absurd e.symm (hb _)
    · obtain rfl := PyData.tuple.inj (List.mem_singleton.mp hs)
      exact ⟨few, ask⟩
theorem wok0 {ds : List PyData} (few : ds.length ≤ 1000) (h : ∀ z ∈ ds, ∀ ss, z ≠ .tuple ss) : WayOk (.tuple ds) := ⟨few, fun s hs ss e => absurd e (h s hs ss)⟩
def tsD (ys : List Str) : List PyData := ys.map PyData.str
theorem strs_ask {ys : List Str} (h : ∀ y ∈ ys, y ∈ signL) : ∀ z ∈ tsD ys, askable z = true := fun z hz => by
  obtain ⟨y, hy, rfl⟩ := List.mem_map.mp hz
  exact sign_ask (h y hy)
theorem strs_len (ys : List Str) : (tsD ys).length = ys.length := List.length_map ..
section
variable {l : List Str} {many : Nat} {ds : List PyData} {k b : Str} {ys : List Str}
theorem wb_none : WB l many ds .none := ⟨trivial, .inl rfl⟩
theorem wb_unit : WB l many ds (.tuple []) := ⟨wok0 (by show 0 ≤ 1000; decide) (fun z hz => absurd hz List.not_mem_nil), .inl rfl⟩
theorem wb_two : WB l many ds (.tuple [.str k, .str b]) := ⟨wok0 (by show 2 ≤ 1000; decide) (fun z hz ss e => by subst e; simp at hz), .inl rfl⟩
theorem wb_list {xs : List PyData} : WB l many ds (.list xs) := ⟨trivial, .inl rfl⟩
variable (hys : ∀ y ∈ ys, y ∈ signL) (hm : ys.length = many) (m3 : many ≤ 3)
include hys hm m3
theorem wb_k {x : Str} (h : x ∉ l) : WB l many ds (.tuple [.str x, .str b, .tuple (tsD ys)]) :=
  ⟨wok (fun z e => by cases e) (fun z e => by cases e) (by rw [strs_len]; omega) (strs_ask hys), .inl (way_k (by show l.contains x = false; rw [List.contains_eq_mem]; exact decide_eq_false h))⟩
theorem wb_b {x : Str} (h : x ∉ l) : WB l many ds (.tuple [.str k, .str x, .tuple (tsD ys)]) :=
  ⟨wok (fun z e => by cases e) (fun z e => by cases e) (by rw [strs_len]; omega) (strs_ask hys), .inl (way_b (by show l.contains x = false; rw [List.contains_eq_mem]; exact decide_eq_false h))⟩
theorem wb_n : WB l many ds (.tuple [.str k, .none, .tuple (tsD ys)]) :=
  ⟨wok (fun z e => by cases e) (fun z e => by cases e) (by rw [strs_len]; omega) (strs_ask hys), .inl (way_b rfl)⟩
omit hys hm m3 in
theorem wb_sl {xs : List PyData} : WB l many ds (.tuple [.str k, .str b, .list xs]) := ⟨wok0 (by show 3 ≤ 1000; decide) (fun z hz ss e => by subst e; simp at hz), .inl (way_s rfl)⟩
theorem wb_any : WB l many ds (.tuple [.str k, .str b, .tuple (tsD (ys ++ ([("any" : Str)] : List Str)))]) := by
  refine ⟨wok (fun z e => by cases e) (fun z e => by cases e) (by rw [strs_len, List.length_append]; show ys.length + 1 ≤ 1000; omega) (strs_ask fun y hy => ?_), .inl (way_s ?_)⟩
  · rcases List.mem_append.mp hy with hy | hy
    · exact hys y hy
    · rw [List.mem_singleton.mp hy]
      decide
  · show (decide ((tsD (ys ++ ([("any" : Str)] : List Str))).length = many) && _) = false
    rw [decide_eq_false, Bool.false_and]
    rw [strs_len, List.length_append]
    show ¬ ys.length + 1 = many
    omega
theorem wb_cut (m1 : 1 ≤ many) : WB l many ds (.tuple [.str k, .str b, .tuple (tsD (ys.drop 1))]) := by
  refine ⟨wok (fun z e => by cases e) (fun z e => by cases e) (by rw [strs_len, List.length_drop]; omega) (strs_ask fun y hy => hys y (List.mem_of_mem_drop hy)), .inl (way_s ?_)⟩
  show (decide ((tsD (ys.drop 1)).length = many) && _) = false
  rw [decide_eq_false, Bool.false_and]
  rw [strs_len, List.length_drop]
  omega
theorem wb_small : WB l many ds (.tuple [.str k, .str b, .tuple (.str "small" :: tsD (ys.drop 1))]) := by
  refine ⟨wok (fun z e => by cases e) (fun z e => by cases e) (by rw [List.length_cons, strs_len, List.length_drop]; omega) (fun z hz => ?_), .inl (way_s ?_)⟩
  · rcases List.mem_cons.mp hz with rfl | hz
    · decide +kernel
    · exact strs_ask (fun y hy => hys y (List.mem_of_mem_drop hy)) z hz
  · show (_ && (PyData.str "small" :: tsD (ys.drop 1)).all (oneD signL)) = false
    rw [List.all_cons, show oneD signL (.str "small") = false by decide +kernel, Bool.false_and, Bool.and_false]
theorem wb_nsign : WB l many ds (.tuple [.str k, .str b, .tuple (.none :: tsD (ys.drop 1))]) := by
  refine ⟨wok (fun z e => by cases e) (fun z e => by cases e) (by rw [List.length_cons, strs_len, List.length_drop]; omega) (fun z hz => ?_), .inl (way_s ?_)⟩
  · rcases List.mem_cons.mp hz with rfl | hz
    · rfl
    · exact strs_ask (fun y hy => hys y (List.mem_of_mem_drop hy)) z hz
  · show (_ && (PyData.none :: tsD (ys.drop 1)).all (oneD signL)) = false
    rw [List.all_cons, show oneD signL .none = false from rfl, Bool.false_and, Bool.and_false]
theorem wb_same (h : PyData.tuple [.str k, .str b, .tuple (tsD ys)] ∈ ds) : WB l many ds (.tuple [.str k, .str b, .tuple (tsD ys)]) :=
  ⟨wok (fun z e => by cases e) (fun z e => by cases e) (by rw [strs_len]; omega) (strs_ask hys), .inr h⟩
end
/-- a good way as it stands -/
theorem way_at {K : PySem.W.Frag} {H : Hp} {l : List Str} {many : Nat} {w : V} {d : PyData} (h : Dp K H w d) (g : wayD l many d = true) : ∃ (wa sa : Addr) (k b : Str) (ys : List Str), w = .ref wa ∧ d = .tuple [.str k, .str b, .tuple (tsD ys)] ∧
    SqT K H wa [.str k, .str b, .ref sa] ∧ SqT K H sa (ys.map V.str) ∧ ys.length = many ∧ (∀ y ∈ ys, y ∈ signL) ∧ k ∈ l ∧ b ∈ l := by
  obtain ⟨k, b, ss, rfl, hk, hb, hl, hs⟩ := way_shape g
  cases h with
  | @tup wa xs _ h1 ha =>
  cases ha with
  | cons a1 ha =>
  cases ha with
  | cons a2 ha =>
  cases ha with
  | cons a3 ha =>
  cases ha
  cases a1
  cases a2
  cases a3 with
  | @tup sa zs _ h2 ha2 =>
  have hst : ss.all strB = true := List.all_eq_true.mpr fun d hd => by
    obtain ⟨y, rfl, _⟩ := one_str (List.all_eq_true.mp hs d hd)
    rfl
  have e1 : ss = tsD (ss.map txt) := by
    unfold tsD
    rw [List.map_map]
    refine (List.map_id ss).symm.trans (List.map_congr_left fun d hd => ?_)
    obtain ⟨y, rfl, _⟩ := one_str (List.all_eq_true.mp hs d hd)
    rfl
  refine ⟨wa, sa, k, b, ss.map txt, rfl, by rw [← e1], h1, by rw [← dps_strs ha2 hst]; exact h2, by rw [List.length_map]; exact hl, fun y hy => ?_, hk, hb⟩
  obtain ⟨d, hd, rfl⟩ := List.mem_map.mp hy
  obtain ⟨y, rfl, hy2⟩ := one_str (List.all_eq_true.mp hs d hd)
  exact hy2
end RK

set_option Elab.async false
set_option linter.all false
set_option maxRecDepth 100000
set_option maxHeartbeats 1000000
/-! A law's turn: parts that are bent, once and twice. -/
namespace RK
open PySem PySem.Spec PyProof.Rows L2
theorem hid_some {q a : Addr} {H : Hp} {o : HO} (h : hid q H a = some o) : a ≠ q := fun z => by
  unfold hid at h
  rw [if_pos z] at h
  cases h
theorem off_same {q : Addr} {H H' : Hp} (hq : H q = none) (s : Off q H H') : Same H H' := fun b o e => s b o (ne_of_none e hq) e
theorem dp_lim {K : PySem.W.Frag} {H H' : Hp} {v : V} {d : PyData} {n : Int} (h : Dp K H v d) (e : limitD n d = true) : Dp K H' v d := by
  cases h with
  | non => exact .non
  | int i => exact .int i
  | _ => cases e
theorem dp_bool {K : PySem.W.Frag} {H H' : Hp} {v : V} {d : PyData} (h : Dp K H v d) (e : boolB d = true) : Dp K H' v d := by
  cases h with
  | bl b => exact .bl b
  | _ => cases e
theorem lim_parts {dd td fd : PyData} (h : limD dd td fd = none) : limitD 0 dd = true ∧ limitD 1 td = true ∧ boolB fd = true := by
  unfold limD at h
  cases h1 : limitD 0 dd with
  | false => rw [if_pos h1] at h; cases h
  | true =>
    rw [if_neg (by rw [h1]; decide)] at h
    cases h2 : limitD 1 td with
    | false => rw [if_pos h2] at h; cases h
    | true =>
      rw [if_neg (by rw [h2]; decide)] at h
      cases h3 : boolB fd with
      | false => rw [if_pos h3] at h; cases h
      | true => exact ⟨rfl, rfl, rfl⟩
theorem Good.one {l : List Str} {kvs : List (Key × V)} {ds : List PyData} (g : Good l kvs ds) : 1 ≤ l.length ∧ 1 ≤ kvs.length := by
  have e1 : ((decide (1 ≤ (l.map PyData.str).length) && _) && _) = true := g.k
  have e2 : ((decide (1 ≤ kvs.length) && _) && _) = true := g.m
  rw [Bool.and_eq_true, Bool.and_eq_true, decide_eq_true_eq, List.length_map] at e1
  rw [Bool.and_eq_true, Bool.and_eq_true, decide_eq_true_eq] at e2
  exact ⟨e1.1.1, e2.1.1⟩
/-- a rule's dict isn't the pool -/
theorem LR.hid {K : PySem.W.Frag} {H : Hp} {q r p : Addr} {n : Int} {l : List Str} {kvs : List (Key × V)} {ds : List PyData} {d t f : V} (hq : H q = some (.lst [.ref p, .int n])) (x : LR K H r l kvs ds d t f) (g : Good l kvs ds) : LR K (RK.hid q H) r l kvs ds d t f := by
  obtain ⟨kl, md, wl, ws, h1, h2, h3, h4, h5⟩ := x
  have k : ∀ b o, b ≠ q → H b = some o → RK.hid q H b = some o := fun b o hb e => by rw [hid_ne hb]; exact e
  have nk : kl ≠ q := fun z => by
    rw [z, hq] at h2
    have e := HO.lst.inj (Option.some.inj h2)
    cases l with
    | nil => exact absurd g.one.1 (by decide)
    | cons y r => cases e
  have nw : wl ≠ q := fun z => by
    rw [z, hq] at h4
    have e := HO.lst.inj (Option.some.inj h4)
    subst e
    cases h5 with
    | cons _ h5 =>
      cases h5 with
      | cons h6 _ =>
        have w := g.ways.2.2.2.1
        rw [List.all_cons, List.all_cons, Bool.and_eq_true, Bool.and_eq_true] at w
        cases h6
        exact absurd (show false = true from w.2.1) (by decide)
  exact ⟨kl, md, wl, ws, k _ _ (ne_of h1 hq (by intro z; cases z)) h1, k _ _ nk h2, k _ _ (ne_of h3 hq (by intro z; cases z)) h3, k _ _ nw h4, dps_off hq k _ _ (ways_noL g.ways.2.2.2.1) h5⟩
/-- a rule isn't the pool -/
theorem RuleO.hid {K : PySem.W.Frag} {H : Hp} {q a C : Addr} {xs : List V} {l : List Str} {kvs : List (Key × V)} {ds : List PyData} {d t f : V} {l0 : List Str} {many : Nat} (hq : H q = some (.lst xs)) (x : RuleO K H a C l kvs ds d t f) (w : ds.all (wayD l0 many) = true) : RuleO K (RK.hid q H) a C l kvs ds d t f := by
  obtain ⟨dx, kt, md, wt, ws, h1, h2, h3, h4, h5⟩ := x
  have k : ∀ b o, b ≠ q → H b = some o → RK.hid q H b = some o := fun b o hb e => by rw [hid_ne hb]; exact e
  exact ⟨dx, kt, md, wt, ws, k _ _ (ne_of h1 hq (by intro z; cases z)) h1, k _ _ (ne_of h2 hq (by intro z; cases z)) h2, k _ _ (ne_of h3 hq (by intro z; cases z)) h3, k _ _ (ne_of h4 hq (by intro z; cases z)) h4, dps_off hq k _ _ (ways_noL w) h5⟩
abbrev w6 : List Str := ["kinds", "measures", "ways", "deep", "tall", "free"]
/-- what stands while the law takes its turns -/
structure Bun (K : PySem.W.Frag) (G : Hp) (C wd pt bn ru kl md wl : Addr) (l : List Str) (kvs : List (Key × V)) (ds : List PyData) (l2 : List Str) (kvs2 : List (Key × V)) (ds2 : List PyData) (ws : List V) (d t f : V) : Prop where
  w : G wd = some (.lst (w6.map V.str))
  p : G pt = some (.lst [.ref kl, .ref md, .ref wl, d, t, f])
  k : G kl = some (.lst (l.map V.str))
  m : G md = some (.dK kvs)
  y : G wl = some (.lst ws)
  da : DpAll K G ws ds
  b : BL K G l kvs.length bn 53
  r : RuleO K G ru C l2 kvs2 ds2 d t f
section
variable {K : PySem.W.Frag} {G G' : Hp} {C wd pt bn ru kl md wl : Addr} {l l2 : List Str} {kvs kvs2 : List (Key × V)} {ds ds2 : List PyData} {ws : List V} {d t f : V}
theorem Bun.same (B : Bun K G C wd pt bn ru kl md wl l kvs ds l2 kvs2 ds2 ws d t f) (s : Same G G') : Bun K G' C wd pt bn ru kl md wl l kvs ds l2 kvs2 ds2 ws d t f :=
  ⟨s _ _ B.w, s _ _ B.p, s _ _ B.k, s _ _ B.m, s _ _ B.y, dps_same s _ _ B.da, B.b.same s, B.r.same s⟩
/-- six parts, of which z is the first wrong one -/
def Six (K : PySem.W.Frag) (G : Hp) (xs : List V) (z : Option Str) : Prop := ∃ (k m y d t f : V) (kd : PyData) (md : MD) (yd dd td fd : PyData), xs = [k, m, y, d, t, f] ∧ Dp K G k kd ∧ KindsOk kd ∧ MAt K G m md ∧ Dp K G y yd ∧ WaysOk yd ∧ Dp K G d dd ∧ Dp K G t td ∧ Dp K G f fd ∧ wrongD kd md yd dd td fd = z
theorem Six.same {xs : List V} {z : Option Str} (h : Six K G xs z) (s : Same G G') : Six K G' xs z := by
  obtain ⟨k, m, y, d, t, f, kd, md, yd, dd, td, fd, e, h1, h2, h3, h4, h5, h6, h7, h8, h9⟩ := h
  exact ⟨k, m, y, d, t, f, kd, md, yd, dd, td, fd, e, dp_same s _ _ h1, h2, h3.same s, dp_same s _ _ h4, h5, dp_same s _ _ h6, dp_same s _ _ h7, dp_same s _ _ h8, h9⟩
def wordOf (c : Int) : Str := if c = 0 then "kinds" else if c = 1 then "measures" else if c = 2 then "ways" else if c = 3 then "deep" else if c = 4 then "tall" else "free"
theorem words_at {c : Int} (h0 : 0 ≤ c) (h6 : c < 6) : atI (w6.map V.str) c = some (.str (wordOf c)) := by
  have h : c = 0 ∨ c = 1 ∨ c = 2 ∨ c = 3 ∨ c = 4 ∨ c = 5 := by omega
  rcases h with rfl | rfl | rfl | rfl | rfl | rfl <;> rfl
theorem Bent.range {many : Nat} {c : Int} {o : V} (h : Bent K G l many c o) : 0 ≤ c ∧ c < 6 := by
  cases h <;> exact ⟨by decide, by decide⟩
theorem cut_set {xs : List V} {c : Int} {o : V} (hl : xs.length = 6) (h0 : 0 ≤ c) (h6 : c < 6) : (cutV xs none (some c) ++ [o]) ++ cutV xs (some (c + 1)) none = xs.set c.toNat o := by
  match xs, hl with
  | [a0, a1, a2, a3, a4, a5], _ =>
    have h : c = 0 ∨ c = 1 ∨ c = 2 ∨ c = 3 ∨ c = 4 ∨ c = 5 := by omega
    rcases h with rfl | rfl | rfl | rfl | rfl | rfl <;> rfl
theorem way1 {kd yd dd td fd : PyData} {md : MD} (l : List Str) (n : Nat) (h : kindsD kd = true) (h2 : measD md = true) (hn : names kd = l) (hm : manyD md = n) (h3 : waysD l n yd = false) : wrongD kd md yd dd td fd = some (Str.ofString "ways") := wrong3 h h2 (by rw [hn, hm]; exact h3)
section
variable {dd td fd : PyData}
theorem six_good (g : Good l kvs ds) (hk : G kl = some (.lst (l.map V.str))) (hm : G md = some (.dK kvs)) (hy : G wl = some (.lst ws)) (da : DpAll K G ws ds) (hd : Dp K G d dd) (ht : Dp K G t td) (hf : Dp K G f fd) (hn : limD dd td fd = none) : Six K G [.ref kl, .ref md, .ref wl, d, t, f] none :=
  ⟨_, _, _, _, _, _, strD l, .dict kvs, .list ds, dd, td, fd, rfl, .lst (SqL.of hk) (dps_of_strs l), g.kok, g.mat hm, .lst (SqL.of hy) da, g.yok, hd, ht, hf, by rw [g.wrong, hn]⟩
/-- one part bent -/
theorem six_bent (g : Good l kvs ds) (B : Bun K G C wd pt bn ru kl md wl l kvs ds l2 kvs2 ds2 ws d t f) (hd : Dp K G d dd) (ht : Dp K G t td) (hf : Dp K G f fd) (hn : limD dd td fd = none) {c : Int} {o : V} (h : Bent K G l kvs.length c o) :
    Six K G (([.ref kl, .ref md, .ref wl, d, t, f] : List V).set c.toNat o) (some (wordOf c)) := by
  obtain ⟨n1, n2, n3⟩ := lim_parts hn
  have k1 : Dp K G (.ref kl) (strD l) := .lst (SqL.of B.k) (dps_of_strs l)
  have m1 := g.mat (K := K) B.m
  have y1 : Dp K G (.ref wl) (.list ds) := .lst (SqL.of B.y) B.da
  have e1 := names_strD l
  have yy : waysD (names (strD l)) (manyD (.dict kvs)) (.list ds) = true := by rw [e1]; exact g.y
  cases h with
  | k h o b => exact ⟨_, _, _, _, _, _, _, _, _, _, _, _, rfl, h, o, m1, y1, g.yok, hd, ht, hf, wrong1 b⟩
  | m h b => exact ⟨_, _, _, _, _, _, _, _, _, _, _, _, rfl, k1, g.kok, h, y1, g.yok, hd, ht, hf, wrong2 g.k b⟩
  | y h o b => exact ⟨_, _, _, _, _, _, _, _, _, _, _, _, rfl, k1, g.kok, m1, h, o, hd, ht, hf, way1 l kvs.length g.k g.m e1 rfl b⟩
  | d h b => exact ⟨_, _, _, _, _, _, _, _, _, _, _, _, rfl, k1, g.kok, m1, y1, g.yok, h, ht, hf, wrong4 g.k g.m yy b⟩
  | t h b => exact ⟨_, _, _, _, _, _, _, _, _, _, _, _, rfl, k1, g.kok, m1, y1, g.yok, hd, h, hf, wrong5 g.k g.m yy n1 b⟩
  | f h b => exact ⟨_, _, _, _, _, _, _, _, _, _, _, _, rfl, k1, g.kok, m1, y1, g.yok, hd, ht, h, wrong6 g.k g.m yy n1 n2 b⟩
/-- two parts bent: the first tells -/
theorem six_both (g : Good l kvs ds) (B : Bun K G C wd pt bn ru kl md wl l kvs ds l2 kvs2 ds2 ws d t f) (hd : Dp K G d dd) (ht : Dp K G t td) (hf : Dp K G f fd) (hn : limD dd td fd = none) {c e : Int} {o u : V} (h : Bent K G l kvs.length c o) (h' : Bent K G l kvs.length e u) (hlt : c < e) :
    Six K G ((([.ref kl, .ref md, .ref wl, d, t, f] : List V).set c.toNat o).set e.toNat u) (some (wordOf c)) := by
  obtain ⟨n1, n2, n3⟩ := lim_parts hn
  have k1 : Dp K G (.ref kl) (strD l) := .lst (SqL.of B.k) (dps_of_strs l)
  have m1 := g.mat (K := K) B.m
  have y1 : Dp K G (.ref wl) (.list ds) := .lst (SqL.of B.y) B.da
  have e1 := names_strD l
  have yy : waysD (names (strD l)) (manyD (.dict kvs)) (.list ds) = true := by rw [e1]; exact g.y
  cases h with
  | k h o b =>
    cases h' with
    | k _ _ _ => exact absurd hlt (by decide)
    | m h2 _ => exact ⟨_, _, _, _, _, _, _, _, _, _, _, _, rfl, h, o, h2, y1, g.yok, hd, ht, hf, wrong1 b⟩
    | y h2 o2 _ => exact ⟨_, _, _, _, _, _, _, _, _, _, _, _, rfl, h, o, m1, h2, o2, hd, ht, hf, wrong1 b⟩
    | d h2 _ => exact ⟨_, _, _, _, _, _, _, _, _, _, _, _, rfl, h, o, m1, y1, g.yok, h2, ht, hf, wrong1 b⟩
    | t h2 _ => exact ⟨_, _, _, _, _, _, _, _, _, _, _, _, rfl, h, o, m1, y1, g.yok, hd, h2, hf, wrong1 b⟩
    | f h2 _ => exact ⟨_, _, _, _, _, _, _, _, _, _, _, _, rfl, h, o, m1, y1, g.yok, hd, ht, h2, wrong1 b⟩
  | m h b =>
    cases h' with
    | k _ _ _ => exact absurd hlt (by decide)
    | m _ _ => exact absurd hlt (by decide)
    | y h2 o2 _ => exact ⟨_, _, _, _, _, _, _, _, _, _, _, _, rfl, k1, g.kok, h, h2, o2, hd, ht, hf, wrong2 g.k b⟩
    | d h2 _ => exact ⟨_, _, _, _, _, _, _, _, _, _, _, _, rfl, k1, g.kok, h, y1, g.yok, h2, ht, hf, wrong2 g.k b⟩
    | t h2 _ => exact ⟨_, _, _, _, _, _, _, _, _, _, _, _, rfl, k1, g.kok, h, y1, g.yok, hd, h2, hf, wrong2 g.k b⟩
    | f h2 _ => exact ⟨_, _, _, _, _, _, _, _, _, _, _, _, rfl, k1, g.kok, h, y1, g.yok, hd, ht, h2, wrong2 g.k b⟩
  | y h o b =>
    cases h' with
    | k _ _ _ => exact absurd hlt (by decide)
    | m _ _ => exact absurd hlt (by decide)
    | y _ _ _ => exact absurd hlt (by decide)
    | d h2 _ => exact ⟨_, _, _, _, _, _, _, _, _, _, _, _, rfl, k1, g.kok, m1, h, o, h2, ht, hf, way1 l kvs.length g.k g.m e1 rfl b⟩
    | t h2 _ => exact ⟨_, _, _, _, _, _, _, _, _, _, _, _, rfl, k1, g.kok, m1, h, o, hd, h2, hf, way1 l kvs.length g.k g.m e1 rfl b⟩
    | f h2 _ => exact ⟨_, _, _, _, _, _, _, _, _, _, _, _, rfl, k1, g.kok, m1, h, o, hd, ht, h2, way1 l kvs.length g.k g.m e1 rfl b⟩
  | d h b =>
    cases h' with
    | t h2 _ => exact ⟨_, _, _, _, _, _, _, _, _, _, _, _, rfl, k1, g.kok, m1, y1, g.yok, h, h2, hf, wrong4 g.k g.m yy b⟩
    | f h2 _ => exact ⟨_, _, _, _, _, _, _, _, _, _, _, _, rfl, k1, g.kok, m1, y1, g.yok, h, ht, h2, wrong4 g.k g.m yy b⟩
    | _ => exact absurd hlt (by decide)
  | t h b =>
    cases h' with
    | f h2 _ => exact ⟨_, _, _, _, _, _, _, _, _, _, _, _, rfl, k1, g.kok, m1, y1, g.yok, hd, h, h2, wrong5 g.k g.m yy n1 b⟩
    | _ => exact absurd hlt (by decide)
  | f h b =>
    cases h' with
    | _ => exact absurd hlt (by decide)
/-- a bent limit -/
theorem lim_bent (hd : Dp K G d dd) (ht : Dp K G t td) (hf : Dp K G f fd) (hn : limD dd td fd = none) {many : Nat} {c : Int} {o a0 a1 a2 : V} (h : Bent K G l many c o) (hc : 2 < c) :
    ∃ (d' t' f' : V) (dd' td' fd' : PyData), cutV (([a0, a1, a2, d, t, f] : List V).set c.toNat o) (some 3) none = [d', t', f'] ∧ Dp K G d' dd' ∧ Dp K G t' td' ∧ Dp K G f' fd' ∧ limD dd' td' fd' = some (wordOf c) := by
  obtain ⟨n1, n2, n3⟩ := lim_parts hn
  cases h with
  | d h b => exact ⟨_, _, _, _, _, _, rfl, h, ht, hf, by unfold limD; rw [if_pos b]; rfl⟩
  | t h b => exact ⟨_, _, _, _, _, _, rfl, hd, h, hf, by unfold limD; rw [if_neg (by rw [n1]; decide), if_pos b]; rfl⟩
  | f h b => exact ⟨_, _, _, _, _, _, rfl, hd, ht, h, by unfold limD; rw [if_neg (by rw [n1]; decide), if_neg (by rw [n2]; decide), if_pos b]; rfl⟩
  | _ => exact absurd hc (by decide)
end
end
/-! ### the last rules of the law -/
abbrev kh : List Str := ["a", "b", "c", "d", "abcdefgh"]
def wy (a b s : Str) : PyData := .tuple [.str a, .str b, .tuple [.str s]]
def ways10 : List PyData := kh.map (fun y => wy "a" y "less") ++ kh.map (fun y => wy "a" y "more")
def ways11 : List PyData := ways10 ++ [wy "b" "a" "any"]
def ways12 : List PyData := ways11 ++ [wy "b" "b" "any"]
def ways13 : List PyData := ways11 ++ [wy "b" "b" "any", wy "c" "b" "any"]
def ms1 : List (Key × V) := [(.inr "age", .bl true)]
theorem kh_words : ∀ y ∈ kh, wordS y = true := by decide +kernel
theorem last_good (dd td fd : PyData) (h : limD dd td fd = none) : wrongD (strD kh) (.dict ms1) (.list ways12) dd td fd = none := by
  have g : kindsD (strD kh) = true := by decide +kernel
  have m : measD (.dict ms1) = true := by decide +kernel
  have y : waysD (names (strD kh)) (manyD (.dict ms1)) (.list ways12) = true := by decide +kernel
  obtain ⟨n1, n2, n3⟩ := lim_parts h
  exact wrong7 g m y n1 n2 n3
theorem last_bad (dd td fd : PyData) : wrongD (strD kh) (.dict ms1) (.list ways13) dd td fd = some (Str.ofString "ways") := wrong3 (by decide +kernel) (by decide +kernel) (by decide +kernel)
theorem ways12_ok : WaysOk (.list ways12) := ⟨by show ways12.length ≤ 1000; decide +kernel, fun d hd => ok_way (l := kh) (many := 1) (by decide) (List.all_eq_true.mp (by decide +kernel : ways12.all (wayD kh 1) = true) d hd)⟩
theorem ways13_ok : WaysOk (.list ways13) := ⟨by show ways13.length ≤ 1000; decide +kernel, fun d hd => ok_way (l := kh) (many := 1) (by decide) (List.all_eq_true.mp (by decide +kernel : ways13.all (wayD kh 1) = true) d hd)⟩
theorem ways11_noL : noLs ways11 = true := by decide +kernel
theorem ms1_mat {K : PySem.W.Frag} {H : Hp} {a : Addr} (h : H a = some (.dK ms1)) : MAt K H (.ref a) (.dict ms1) :=
  .dict rfl h (by decide) (by decide +kernel) (by decide +kernel) fun p hp y e => by
    have hp' : p = (.inr "age", .bl true) := List.mem_singleton.mp hp
    subst hp'
    cases e
    decide +kernel
end RK

set_option Elab.async false
set_option linter.all false
set_option maxRecDepth 100000
set_option maxHeartbeats 4000000
namespace K02
open PySem PySem.Spec PyProof.Rows L2 RK
def top (i : Nat) : Stmt := PySem.Challenge.pw_packedbases_k02_no_rules.main.body.getD i (.Pass ⟨0, 0, 0, 0⟩)
abbrev sWord : Stmt := top 13
abbrev sInt : Stmt := top 14
abbrev sOne : Stmt := top 16
abbrev sBtw : Stmt := top 15
abbrev sKinds : Stmt := top 17
abbrev sMeas : Stmt := top 18
abbrev sWay : Stmt := top 19
abbrev sWays : Stmt := top 20
abbrev sLimit : Stmt := top 21
abbrev sWrong : Stmt := top 22
section
variable {P : Program} {w : World} {K : PySem.W.Frag} {mg : Str → Option Value} {base : Heap} {f f1 f2 f3 f4 f5 : Addr} {fd fd1 fd2 fd3 fd4 fd5 : FuncData}
theorem not_le8 {y : Str} (h : (!decide ((y.length : Int) ≤ 8)) = true) : ¬ y.cps.size ≤ 8 := fun z => by
  have z' : (y.length : Int) ≤ 8 := Int.ofNat_le.mpr z
  rw [decide_eq_true z'] at h
  cases h
theorem le8 {y : Str} (h : ¬ (!decide ((y.length : Int) ≤ 8)) = true) : y.cps.size ≤ 8 := by
  by_cases z : (y.length : Int) ≤ 8
  · exact Int.ofNat_le.mp z
  · exact absurd (by rw [decide_eq_false z]; rfl) h
theorem le1 {y : Str} (h : decide ((1 : Int) ≤ (y.length : Int)) = true) : 1 ≤ y.cps.size := Int.ofNat_le.mp (of_decide_eq_true h)
theorem not_le1 {y : Str} (h : ¬ decide ((1 : Int) ≤ (y.length : Int)) = true) : ¬ 1 ≤ y.cps.size := fun z => h (decide_eq_true (Int.ofNat_le.mpr z))
theorem scWord : FnScope ["value", "letter"] ["value"] (defScope sWord) := ⟨rfl, rfl, rfl, by decide +kernel, rfl, by decide +kernel, by decide +kernel⟩
theorem ok_word (F : Fun K "is_word" "is_word" sWord f fd) (T : Pk mg K w) : FnOk P w K mg base CX0 1 f fd ["value"] (spWord K) := by
  obtain ⟨uL, gL, rL⟩ := T.gL
  obtain ⟨uW, gW, rW⟩ := T.gW
  refine F.ok scWord (fun vs H Q E h => ?_) (fun cdv A outer s H vs Q E hr h => ?_)
  · obtain ⟨v, d, rfl, _⟩ := h
    rfl
  · obtain ⟨v, d, rfl, hd, sz, k⟩ := h
    refine ⟨_, pss_cons (ps_if (PW.pt (pw_or (pt_not (pt_val (pe_callB call_isi rfl T.isi boot_isinstance (pa_cons (pv 0) (pa_cons (pe_bltn (v := .ty "str") rfl T.str PyProof.Rows.boot_str rfl) pa_nil)))))
        (pw_or1 (pt_not (pt_chain op_le op_le pe_int (pe_callB call_len_str rfl T.len boot_len (pa_cons (pv 0) pa_nil)) (pe_glob rfl gW rW))))))
        (pss_one (ps_ret pe_bl)) pss_nil)
      (pss_one (ps_ret (pe_callB (cr_all rfl) rfl T.all boot_all (pa_cons
        (pe_lc (own := [("letter", 1)]) (g := gName 1) (tt := tYes) rfl scWord.nd (pi_str (pv 0)) (blkOk_by (N := ["value", "letter"]) (sc := defScope sWord) (by decide +kernel)) (fun _ _ _ _ _ => pg_name (i := 1) scWord.nd rfl (.inl rfl)) (fun _ _ _ _ _ => pts_nil)
          (fun _ _ _ _ _ => pe_cmpR op_in_sign (pv 1) (pe_glob rfl gL rL) rfl)) pa_nil)))), ?_⟩
    refine ⟨_, rfl, _, _, _, _, _, rfl, .ty _, dp_ty hd, kit_ty (kit_str d), _, rfl, ?_⟩
    cases d with
    | str y =>
      cases hd
      refine iteF ?_
      have hz : y.length ≤ sizeLine := by
        have := sz y rfl
        have big : (1000 : Nat) ≤ sizeLine := by rw [sizeLine_eq]; decide
        exact Nat.le_trans this big
      refine ⟨_, rfl, y, rfl, hz, _, _, rfl, rfl, _, rfl, ?_⟩
      have small : ∀ b : Bool, wordS y = b → wordD (.str y) = b := fun b e => e
      refine ite2 (fun h1 => ?_) (fun h1 => ?_)
      · refine ⟨_, _, rfl, rfl, _, rfl, ?_⟩
        refine ite2 (fun h2 => ?_) (fun h2 => ?_)
        · have e : wordS y = false := by
            unfold wordS
            rw [Bool.and_eq_false_iff]
            right
            rw [Bool.and_eq_false_iff]
            left
            exact decide_eq_false (not_le8 h2)
          have q := k H (Same.refl H)
          rw [small _ e] at q
          exact q
        · refine ⟨_, rfl, y, rfl, fun D hD => ?_⟩
          refine all_str (bs := y.cps.toList.map fun c => decide (c ∈ letters.cps.toList)) (by rw [List.length_map, Array.length_toList]) (sz y rfl) hD (fun i c b H2 Q2 hc hb sm k2 => ?_) fun H2 sm hd2 => ?_
          · rw [List.getElem?_map, Array.getElem?_toList, hc] at hb
            obtain rfl : decide (c ∈ letters.cps.toList) = b := Option.some.inj hb
            exact ⟨rfl, _, rfl, _, _, rfl, rfl, k2 H2 (Same.refl H2)⟩
          · refine ⟨_, _, rfl, SqL.of hd2, ?_⟩
            have e : wordS y = (y.cps.toList.map fun c => decide (c ∈ letters.cps.toList)).all id := by
              unfold wordS
              rw [all_map, decide_eq_true (le1 h1), decide_eq_true (le8 h2), Bool.true_and, Bool.true_and]
            have q := k H2 sm
            rw [small _ e] at q
            exact q
      · refine ⟨_, rfl, iteT ?_⟩
        have e : wordS y = false := by
          unfold wordS
          rw [Bool.and_eq_false_iff]
          left
          exact decide_eq_false (not_le1 h1)
        have q := k H (Same.refl H)
        rw [small _ e] at q
        exact q
    | _ => exact iteT (k H (Same.refl H))
theorem scInt : FnScope ["value"] ["value"] (defScope sInt) := ⟨rfl, rfl, rfl, by decide +kernel, rfl, by decide +kernel, by decide +kernel⟩
theorem ok_int (F : Fun K "is_integer" "is_integer" sInt f fd) (T : Pk mg K w) : FnOk P w K mg base CX0 1 f fd ["value"] (spInt K) := by
  refine F.ok scInt (fun vs H Q E h => ?_) (fun cdv A outer s H vs Q E hr h => ?_)
  · obtain ⟨v, d, rfl, _⟩ := h
    rfl
  · obtain ⟨v, d, rfl, hd, k⟩ := h
    refine ⟨_, pss_one (ps_ret (pe_and (pe_callB call_isi rfl T.isi boot_isinstance (pa_cons (pv 0) (pa_cons (pe_bltn (v := .ty "int") rfl T.int PyProof.Rows.boot_int rfl) pa_nil)))
      (pe_one (pe_not (pe_callB call_isi rfl T.isi boot_isinstance (pa_cons (pv 0) (pa_cons (pe_bltn (v := .ty "bool") rfl T.bool PyProof.Rows.boot_bool rfl) pa_nil))))))), ?_⟩
    refine ⟨_, rfl, _, _, _, _, _, rfl, .ty _, dp_ty hd, kit_ty (kit_int d), _, rfl, ?_⟩
    cases hi : intB d with
    | false =>
      refine iteF ?_
      rw [hi] at k
      exact k
    | true =>
      refine iteT ⟨_, rfl, _, _, _, _, _, rfl, .ty _, dp_ty hd, kit_ty (kit_bool d), _, rfl, ?_⟩
      rw [hi] at k
      exact k
theorem scOne : FnScope ["value", "names"] ["value", "names"] (defScope sOne) := ⟨rfl, rfl, rfl, by decide +kernel, rfl, by decide +kernel, by decide +kernel⟩
theorem ok_one (F : Fun K "is_one_of" "is_one_of" sOne f fd) (T : Pk mg K w) : FnOk P w K mg base CX0 1 f fd ["value", "names"] (spOne K) := by
  refine F.ok scOne (fun vs H Q E h => ?_) (fun cdv A outer s H vs Q E hr h => ?_)
  · obtain ⟨v, d, n, l, rfl, _⟩ := h
    rfl
  · obtain ⟨v, d, n, l, rfl, hd, hn, k⟩ := h
    refine ⟨_, pss_one (ps_ret (pe_and (pe_callB call_isi rfl T.isi boot_isinstance (pa_cons (pv 0) (pa_cons (pe_bltn (v := .ty "str") rfl T.str PyProof.Rows.boot_str rfl) pa_nil))) (pe_one (pe_cmpR op_in_seq (pv 0) (pv 1) rfl)))), ?_⟩
    refine ⟨_, rfl, _, _, _, _, _, rfl, .ty _, dp_ty hd, kit_ty (kit_str d), _, rfl, ?_⟩
    cases d with
    | str y =>
      cases hd
      refine iteT ⟨_, rfl, _, rfl, n, _, rfl, hn, rfl, flat_strs l, ?_⟩
      have e : inV (.str y) (l.map V.str) = oneD l (.str y) := inV_strs y l
      show Q (.bl (inV (.str y) (l.map V.str))) H
      rw [e]
      exact k
    | _ => exact iteF k
theorem scKinds : FnScope ["value", "kind"] ["value"] (defScope sKinds) := ⟨rfl, rfl, rfl, by decide +kernel, rfl, by decide +kernel, by decide +kernel⟩
theorem ok_kinds (F : Fun K "are_kinds" "are_kinds" sKinds f fd) (T : Pk mg K w) (F1 : Fun K "is_word" "is_word" sWord f1 fd1) (g1 : mg "is_word" = some (.ref f1)) (b1 : Binds K fd1 ["value"] []) : FnOk P w K mg base CX0 2 f fd ["value"] (spKinds K) := by
  have G1 : FnOk P w K mg base CX0 1 f1 fd1 ["value"] (spWord K) := ok_word F1 T
  obtain ⟨uK, gK, rK⟩ := T.gK
  refine F.ok scKinds (fun vs H Q E h => ?_) (fun cdv A outer s H vs Q E hr h => ?_)
  · obtain ⟨v, d, rfl, _⟩ := h
    rfl
  · obtain ⟨v, d, rfl, hd, sz, k⟩ := h
    refine ⟨_, pss_cons (ps_if (PW.pt (pw_or (pt_not (pt_val (pe_callB call_isi rfl T.isi boot_isinstance (pa_cons (pv 0) (pa_cons (pe_bltn (v := .ty "list") rfl T.list PyProof.Rows.boot_list rfl) pa_nil)))))
        (pw_or1 (pt_not (pt_chain op_le op_le pe_int (pe_callB call_len_seq rfl T.len boot_len (pa_cons (pv 0) pa_nil)) (pe_glob rfl gK rK))))))
        (pss_one (ps_ret pe_bl)) pss_nil)
      (pss_one (ps_ret (pe_and (pe_callB (cr_all rfl) rfl T.all boot_all (pa_cons
        (pe_lc (own := [("kind", 1)]) (g := gName 1) (tt := tYes) rfl scKinds.nd (pi_list (pv 0)) (blkOk_by (N := ["value", "kind"]) (sc := defScope sKinds) (by decide +kernel)) (fun _ _ _ _ _ => pg_name (i := 1) scKinds.nd rfl (.inl rfl)) (fun _ _ _ _ _ => pts_nil)
          (fun _ _ _ _ _ => pe_call G1 hr rfl g1 F1.kp b1 .nil pass0 (pa_cons (pv 1) pa_nil))) pa_nil))
        (pe_one (pe_cmp (pc_eqI (NS.pe_lenSetU rfl hr.units rfl T.len rfl T.set (pv 0)) (pe_callB call_len_seq rfl T.len boot_len (pa_cons (pv 0) pa_nil))) rfl))))), ?_⟩
    refine ⟨_, rfl, _, _, _, _, _, rfl, .ty _, dp_ty hd, kit_ty (kit_list d), _, rfl, ?_⟩
    cases d with
    | list ds =>
      cases hd with
      | @lst a xs _ hs ha =>
      refine iteF ?_
      have hl := dps_len ha
      refine ⟨_, rfl, a, xs, rfl, .inl hs, _, _, rfl, rfl, _, rfl, ?_⟩
      refine ite2 (fun h1 => ?_) (fun h1 => ?_)
      · refine ⟨_, _, rfl, rfl, _, rfl, ?_⟩
        refine ite2 (fun h2 => ?_) (fun h2 => ?_)
        · have q := k H (Same.refl H)
          rw [kinds_long (no_le h2) hl] at q
          exact q
        · refine ⟨_, rfl, a, rfl, ⟨xs, hs⟩, fun D hD => ?_⟩
          refine all_list (bs := ds.map wordD) hs (by rw [List.length_map, hl]) (by rw [← hl]; exact sz.1) hD (fun i x b H2 Q2 hx hb sm k2 => ?_) fun H2 sm hd2 => ?_
          · obtain ⟨d, hd, hdx⟩ := dps_at ha hx
            rw [List.getElem?_map, hd] at hb
            obtain rfl : wordD d = b := Option.some.inj hb
            exact ⟨rfl, _, rfl, _, d, rfl, dp_same sm _ _ hdx, fun y e => sz.2 d (List.mem_of_getElem? hd) y e, k2⟩
          · refine ⟨_, _, rfl, SqL.of hd2, _, rfl, ?_⟩
            rw [all_map]
            cases hw : ds.all wordD with
            | false =>
              refine iteF ?_
              have q := k H2 sm
              rw [kinds_odd hw] at q
              exact q
            | true =>
              have hst : ds.all strB = true := List.all_eq_true.mpr fun d hd => by
                have := List.all_eq_true.mp hw d hd
                cases d with
                | str y => rfl
                | _ => cases this
              refine iteT ⟨_, rfl, a, rfl, .inl ⟨ds.map txt, ?_, ?_, fun n hn hnd => ?_⟩⟩
              · rw [← dps_strs ha hst]
                exact sm.seq hs
              · rw [List.length_map, hl]
                have h5 : xs.length ≤ 5 := of_yes_le h2
                omega
              · refine ⟨_, rfl, a, xs, rfl, .inl (sm.seq hs), _, _, rfl, rfl, ?_⟩
                have q := k H2 sm
                rw [kinds_good hl (of_yes_one h1) (of_yes_le h2) hw hn hnd] at q
                exact q
      · refine ⟨_, rfl, iteT ?_⟩
        have q := k H (Same.refl H)
        rw [kinds_short (of_no_one h1) hl] at q
        exact q
    | _ => exact iteT (k H (Same.refl H))
theorem scMeas : FnScope ["value", "measure"] ["value"] (defScope sMeas) := ⟨rfl, rfl, rfl, by decide +kernel, rfl, by decide +kernel, by decide +kernel⟩
theorem ok_meas (F : Fun K "are_measures" "are_measures" sMeas f fd) (T : Pk mg K w) (F1 : Fun K "is_word" "is_word" sWord f1 fd1) (g1 : mg "is_word" = some (.ref f1)) (b1 : Binds K fd1 ["value"] []) : FnOk P w K mg base CX0 2 f fd ["value"] (spMeas K) := by
  have G1 : FnOk P w K mg base CX0 1 f1 fd1 ["value"] (spWord K) := ok_word F1 T
  obtain ⟨uK, gK, rK⟩ := T.gM
  refine F.ok scMeas (fun vs H Q E h => ?_) (fun cdv A outer s H vs Q E hr h => ?_)
  · obtain ⟨v, m, rfl, _⟩ := h
    rfl
  · obtain ⟨v, m, rfl, hm, k⟩ := h
    refine ⟨_, pss_cons (ps_if (PW.pt (pw_or (pt_not (pt_val (pe_callB call_isi rfl T.isi boot_isinstance (pa_cons (pv 0) (pa_cons (pe_bltn (v := .ty "dict") rfl T.dict PyProof.Rows.boot_dict rfl) pa_nil)))))
        (pw_or1 (pt_not (pt_chain op_le op_le pe_int (pe_callB call_lenD rfl T.len boot_len (pa_cons (pv 0) pa_nil)) (pe_glob rfl gK rK))))))
        (pss_one (ps_ret pe_bl)) pss_nil)
      (pss_cons (ps_if (pt_not (pt_val (pe_callB (cr_all rfl) rfl T.all boot_all (pa_cons
        (pe_lock (pe_lc (own := [("measure", 1)]) (g := gName 1) (tt := tYes) rfl scMeas.nd (pi_keys (pv 0)) (blkOk_by (N := ["value", "measure"]) (sc := defScope sMeas) (by decide +kernel)) (fun _ _ _ _ _ => pg_name (i := 1) scMeas.nd rfl (.inl rfl)) (fun _ _ _ _ _ => pts_nil)
          (fun _ _ _ _ _ => pe_call G1 hr rfl g1 F1.kp b1 .nil pass0 (pa_cons (pv 1) pa_nil)))) pa_nil)))) (pss_one (ps_ret pe_bl)) pss_nil)
      (pss_one (ps_ret (pe_callB (cr_all rfl) rfl T.all boot_all (pa_cons
        (pe_lock (pe_lc (own := [("measure", 1)]) (g := gName 1) (tt := tYes) rfl scMeas.nd (pi_keys (pv 0)) (blkOk_by (N := ["value", "measure"]) (sc := defScope sMeas) (by decide +kernel)) (fun _ _ _ _ _ => pg_name (i := 1) scMeas.nd rfl (.inl rfl)) (fun _ _ _ _ _ => pts_nil)
          (fun _ _ _ _ _ => pe_callB (r := rIsi K) call_isi rfl T.isi boot_isinstance (pa_cons (pe_dget (hu_of hr) (pv 0) (pv 1) (fun _ _ => rfl)) (pa_cons (pe_bltn (v := .ty "bool") rfl T.bool PyProof.Rows.boot_bool rfl) pa_nil))))) pa_nil))))), ?_⟩
    cases hm with
    | @other d hd nd =>
      refine ⟨_, rfl, _, _, _, _, _, rfl, .ty _, dp_ty hd, kit_ty (kit_dict d), _, rfl, ?_⟩
      rw [nd]
      exact iteT (k H (Same.refl H))
    | @dict a kvs e h hz nd fl kz =>
      subst e
      refine ⟨_, rfl, _, _, _, _, _, rfl, .ty _, .base (.dK h), kit_ty (kit_dict (.dict [])), _, rfl, ?_⟩
      refine iteF ?_
      refine ⟨_, rfl, a, kvs, rfl, h, _, _, rfl, rfl, _, rfl, ?_⟩
      refine ite2 (fun h1 => ?_) (fun h1 => ?_)
      · refine ⟨_, _, rfl, rfl, _, rfl, ?_⟩
        refine ite2 (fun h2 => ?_) (fun h2 => ?_)
        · have q := k H (Same.refl H)
          rw [meas_long (no_le h2)] at q
          exact q
        · refine ⟨a, _, h, trivial, fun od => ⟨_, rfl, a, od, rfl, .inl ⟨kvs, upd_same, fun D hD => ?_⟩⟩⟩
          refine all_keys (bs := kvs.map fun p => wordK p.1) upd_same (List.length_map ..) hz hD (fun i ky v b H2 Q2 hx hb sm k2 => ?_) fun H2 sm hd2 => ?_
          · rw [List.getElem?_map, hx] at hb
            obtain rfl : wordK ky = b := Option.some.inj hb
            cases ky with
            | inl i => exact ⟨rfl, _, rfl, _, .int i, rfl, .int i, (fun y e => by cases e), k2⟩
            | inr y => exact ⟨rfl, _, rfl, _, .str y, rfl, .str y, (fun y' e => kz _ (List.mem_of_getElem? hx) y' (by cases e; rfl)), k2⟩
          · have hf : H2 a = some (.frz od (.dK kvs)) := sm _ _ upd_same
            have s2 : Same H (upd H2 a (.dK kvs)) := same_unlock h sm
            have hDa : D ≠ a := ne_of hd2 hf (by intro z; cases z)
            have hd3 : upd H2 a (.dK kvs) D = some (.lst ((kvs.map fun p => wordK p.1).map V.bl)) := by rw [upd_ne hDa]; exact hd2
            refine ⟨hf, _, _, rfl, SqL.of hd3, _, rfl, ?_⟩
            rw [all_map]
            cases hw : kvs.all fun p => wordK p.1 with
            | false =>
              refine iteT ?_
              have q := k _ s2
              rw [meas_odd hw] at q
              exact q
            | true =>
              refine iteF ?_
              have h4 : upd H2 a (.dK kvs) a = some (.dK kvs) := upd_same
              refine ⟨a, _, h4, trivial, fun od2 => ⟨_, rfl, a, od2, rfl, .inl ⟨kvs, upd_same, fun D2 hD2 => ?_⟩⟩⟩
              refine all_keys (bs := kvs.map fun p => boolV p.2) upd_same (List.length_map ..) hz hD2 (fun i ky v b H3 Q3 hx hb sm3 k3 => ?_) fun H3 sm3 hd4 => ?_
              · rw [List.getElem?_map, hx] at hb
                obtain rfl : boolV v = b := Option.some.inj hb
                have hf3 : H3 a = some (.frz od2 (.dK kvs)) := sm3 _ _ upd_same
                have fv := fl _ (List.mem_of_getElem? hx)
                refine ⟨rfl, _, rfl, _, rfl, a, _, rfl, .inl ⟨kvs, ky, .inr ⟨od2, hf3⟩, rfl, (valV_at nd hx).symm⟩, ?_⟩
                cases v with
                | bl c => exact ⟨_, _, _, _, _, rfl, .ty _, .base (.bl c), kit_ty (kit_bool (.bool c)), k3 H3 (Same.refl H3)⟩
                | int c => exact ⟨_, _, _, _, _, rfl, .ty _, .base (.int c), kit_ty (kit_bool (.int c)), k3 H3 (Same.refl H3)⟩
                | str c => exact ⟨_, _, _, _, _, rfl, .ty _, .base (.str c), kit_ty (kit_bool (.str c)), k3 H3 (Same.refl H3)⟩
                | non => exact ⟨_, _, _, _, _, rfl, .ty _, .base .non, kit_ty (kit_bool .none), k3 H3 (Same.refl H3)⟩
                | _ => cases fv
              · have hf3 : H3 a = some (.frz od2 (.dK kvs)) := sm3 _ _ upd_same
                have s4 : Same (upd H2 a (.dK kvs)) (upd H3 a (.dK kvs)) := same_unlock h4 sm3
                have hDa2 : D2 ≠ a := ne_of hd4 hf3 (by intro z; cases z)
                have hd5 : upd H3 a (.dK kvs) D2 = some (.lst ((kvs.map fun p => boolV p.2).map V.bl)) := by rw [upd_ne hDa2]; exact hd4
                refine ⟨hf3, _, _, rfl, SqL.of hd5, ?_⟩
                have q := k _ (s2.trans s4)
                rw [meas_good (of_yes_one h1) (of_yes_le h2) hw] at q
                rw [all_map]
                exact q
      · refine ⟨_, rfl, iteT ?_⟩
        have q := k H (Same.refl H)
        rw [meas_short (of_no_one h1)] at q
        exact q
end
end K02

set_option Elab.async false
set_option linter.all false
set_option maxRecDepth 100000
set_option maxHeartbeats 400000
namespace K02
open PySem PySem.Spec PyProof.Rows L2 RK
section
variable {P : Program} {w : World} {K : PySem.W.Frag} {mg : Str → Option Value} {base : Heap} {f f1 f2 f3 f4 f5 : Addr} {fd fd1 fd2 fd3 fd4 fd5 : FuncData}
abbrev nWay : List Str := ["value", "kinds", "many", "kind", "base_kind", "signs", "sign"]
theorem scWay : FnScope nWay ["value", "kinds", "many"] (defScope sWay) := ⟨rfl, rfl, rfl, by decide +kernel, rfl, by decide +kernel, by decide +kernel⟩
theorem ok_way (F : Fun K "is_way" "is_way" sWay f fd) (T : Pk mg K w) (F1 : Fun K "is_one_of" "is_one_of" sOne f1 fd1) (g1 : mg "is_one_of" = some (.ref f1)) (b1 : Binds K fd1 ["value", "names"] []) : FnOk P w K mg base CX0 2 f fd ["value", "kinds", "many"] (spWay K) := by
  have G1 : FnOk P w K mg base CX0 1 f1 fd1 ["value", "names"] (spOne K) := ok_one F1 T
  obtain ⟨dS, esS, nS, gS, DS, aS⟩ := T.gS
  refine F.ok scWay (fun vs H Q E h => ?_) (fun cdv A outer s H vs Q E hr h => ?_)
  · obtain ⟨v, d, n, l, many, rfl, _⟩ := h
    rfl
  · obtain ⟨v, d, n, l, many, rfl, hd, wo, hn, k⟩ := h
    refine ⟨_, pss_cons (ps_if (PW.pt (pw_or (pt_not (pt_val (pe_callB call_isi rfl T.isi boot_isinstance (pa_cons (pv 0) (pa_cons (pe_bltn (v := .ty "tuple") rfl T.tup PyProof.Rows.boot_tuple rfl) pa_nil)))))
        (pw_or1 (pt_cmp (pc_neI (pe_callB call_len_seq rfl T.len boot_len (pa_cons (pv 0) pa_nil)) pe_int)))))
        (pss_one (ps_ret pe_bl)) pss_nil)
      (pss_cons (ps_asg (pv 0) (pg_tup rfl (pgs_cons (pg_name (i := 3) scWay.nd rfl (.inl rfl)) (pgs_cons (pg_name (i := 4) scWay.nd rfl (.inl rfl)) (pgs_cons (pg_name (i := 5) scWay.nd rfl (.inl rfl)) pgs_nil)))))
      (pss_cons (ps_if (PW.pt (pw_or (pt_not (pt_val (pe_call G1 hr rfl g1 F1.kp b1 .nil pass0 (pa_cons (pv 3) (pa_cons (pv 1) pa_nil))))) (pw_or1 (pt_not (pt_val (pe_call G1 hr rfl g1 F1.kp b1 .nil pass0 (pa_cons (pv 4) (pa_cons (pv 1) pa_nil))))))))
        (pss_one (ps_ret pe_bl)) pss_nil)
      (pss_cons (ps_if (PW.pt (pw_or (pt_not (pt_val (pe_callB call_isi rfl T.isi boot_isinstance (pa_cons (pv 5) (pa_cons (pe_bltn (v := .ty "tuple") rfl T.tup PyProof.Rows.boot_tuple rfl) pa_nil)))))
        (pw_or1 (pt_cmp (pc_neI (pe_callB call_len_seq rfl T.len boot_len (pa_cons (pv 5) pa_nil)) (pv 2))))))
        (pss_one (ps_ret pe_bl)) pss_nil)
      (pss_one (ps_ret (pe_callB (cr_all rfl) rfl T.all boot_all (pa_cons
        (pe_lc (own := [("sign", 6)]) (g := gName 6) (tt := tYes) rfl scWay.nd (pi_tup (pv 5)) (blkOk_by (N := nWay) (sc := defScope sWay) (by decide +kernel)) (fun _ _ _ _ _ => pg_name (i := 6) scWay.nd rfl (.inl rfl)) (fun _ _ _ _ _ => pts_nil)
          (fun _ _ _ _ _ => pe_and (pe_callB (r := rIsi K) call_isi rfl T.isi boot_isinstance (pa_cons (pv 6) (pa_cons (pe_bltn (v := .ty "str") rfl T.str PyProof.Rows.boot_str rfl) pa_nil)))
            (pe_one (pe_cmpR (r := rKd K dS) (op_kd DS) (pv 6) (pe_glob (v := .ref dS) rfl gS rfl) rfl)))) pa_nil))))))), ?_⟩
    refine ⟨_, rfl, _, _, _, _, _, rfl, .ty _, dp_ty hd, kit_ty (kit_tup d), _, rfl, ?_⟩
    cases d with
    | tuple ds =>
      cases hd with
      | @tup a xs _ hs ha =>
      refine iteF ?_
      have hl := dps_len ha
      refine ⟨_, rfl, a, xs, rfl, .inr hs, _, _, rfl, rfl, _, rfl, ?_⟩
      refine ite2 (fun h1 => ?_) (fun h1 => ?_)
      · have q := k H (Same.refl H)
        rw [way_len (of_ne h1) hl] at q
        exact q
      · have h3 : xs.length = 3 := of_not_ne h1
        obtain ⟨x0, x1, x2, d0, d1, d2, rfl, rfl, h0, h1', h2⟩ := dps_three h3 ha
        refine ⟨_, rfl, a, _, rfl, hs, rfl, ?_⟩
        refine ⟨_, _, rfl, _, _, rfl, _, _, rfl, rfl, ?_⟩
        refine ⟨_, rfl, _, rfl, x0, d0, n, l, rfl, h0, hn, _, rfl, ?_⟩
        cases e0 : oneD l d0 with
        | false =>
          refine iteT ?_
          have q := k H (Same.refl H)
          rw [way_k e0] at q
          exact q
        | true =>
          refine iteF ⟨_, rfl, _, rfl, x1, d1, n, l, rfl, h1', hn, _, rfl, ?_⟩
          cases e1 : oneD l d1 with
          | false =>
            refine iteT ?_
            have q := k H (Same.refl H)
            rw [way_b e1] at q
            exact q
          | true =>
            refine iteF ?_
            refine ⟨_, rfl, _, _, _, _, _, rfl, .ty _, dp_ty h2, kit_ty (kit_tup d2), _, rfl, ?_⟩
            cases d2 with
            | tuple ss =>
              cases h2 with
              | @tup a2 ys _ hs2 ha2 =>
              refine iteF ?_
              have hl2 := dps_len ha2
              refine ⟨_, rfl, a2, ys, rfl, .inr hs2, _, rfl, _, _, rfl, rfl, _, rfl, ?_⟩
              refine ite2 (fun h4 => ?_) (fun h4 => ?_)
              · have q := k H (Same.refl H)
                rw [way_m (of_ne h4) hl2] at q
                exact q
              · have hm : ys.length = many := of_not_ne h4
                obtain ⟨_, wo2⟩ := wo
                obtain ⟨few, ask⟩ := wo2 (.tuple ss) (by simp) ss rfl
                refine ⟨_, rfl, a2, rfl, ⟨ys, hs2⟩, fun D hD => ?_⟩
                refine all_tup (bs := ss.map (oneD signL)) hs2 (by rw [List.length_map, hl2]) (by rw [← hl2]; exact few) hD (fun i x b H2 Q2 hx hb sm k2 => ?_) fun H2 sm hd2 => ?_
                · obtain ⟨z, hz, hzx⟩ := dps_at ha2 hx
                  rw [List.getElem?_map, hz] at hb
                  obtain rfl : oneD signL z = b := Option.some.inj hb
                  refine ⟨rfl, _, rfl, _, _, _, _, _, rfl, .ty _, dp_ty (dp_same sm _ _ hzx), kit_ty (kit_str z), _, rfl, ?_⟩
                  cases z with
                  | str y =>
                    cases hzx
                    obtain ⟨r, hr1, hr2⟩ := aS y (by
                      have := ask (.str y) (List.mem_of_getElem? hz)
                      simpa [askable] using this)
                    refine iteT ⟨_, rfl, y, r, rfl, rfl, hr1, ?_⟩
                    have q := k2 H2 (Same.refl H2)
                    rw [hr2]
                    exact q
                  | _ => exact iteF (k2 H2 (Same.refl H2))
                · refine ⟨_, _, rfl, SqL.of hd2, ?_⟩
                  have q := k H2 sm
                  rw [way_end e0 e1 (hl2.trans hm)] at q
                  rw [all_map]
                  exact q
            | _ =>
              refine iteT ?_
              have q := k H (Same.refl H)
              rw [way_s (by rfl)] at q
              exact q
    | _ => exact iteT (k H (Same.refl H))
end
end K02

set_option Elab.async false
set_option linter.all false
set_option maxRecDepth 100000
set_option maxHeartbeats 1000000
namespace K02
open PySem PySem.Spec PyProof.Rows L2 RK
section
variable {P : Program} {w : World} {K : PySem.W.Frag} {mg : Str → Option Value} {base : Heap} {f f1 f2 f3 f4 f5 : Addr} {fd fd1 fd2 fd3 fd4 fd5 : FuncData}
abbrev nWays : List Str := ["value", "kinds", "many", "way"]
theorem scWays : FnScope nWays ["value", "kinds", "many"] (defScope sWays) := ⟨rfl, rfl, rfl, by decide +kernel, rfl, by decide +kernel, by decide +kernel⟩
theorem ok_ways (F : Fun K "are_ways" "are_ways" sWays f fd) (T : Pk mg K w) (F1 : Fun K "is_way" "is_way" sWay f1 fd1) (g1 : mg "is_way" = some (.ref f1)) (b1 : Binds K fd1 ["value", "kinds", "many"] [])
    (F2 : Fun K "is_one_of" "is_one_of" sOne f2 fd2) (g2 : mg "is_one_of" = some (.ref f2)) (b2 : Binds K fd2 ["value", "names"] []) : FnOk P w K mg base CX0 3 f fd ["value", "kinds", "many"] (spWays K) := by
  have G1 : FnOk P w K mg base CX0 2 f1 fd1 ["value", "kinds", "many"] (spWay K) := ok_way F1 T F2 g2 b2
  obtain ⟨uK, gK, rK⟩ := T.gY
  refine F.ok scWays (fun vs H Q E h => ?_) (fun cdv A outer s H vs Q E hr h => ?_)
  · obtain ⟨v, d, n, l, many, rfl, _⟩ := h
    rfl
  · obtain ⟨v, d, n, l, many, rfl, hd, wo, hn, k⟩ := h
    refine ⟨_, pss_cons (ps_if (PW.pt (pw_or (pt_not (pt_val (pe_callB call_isi rfl T.isi boot_isinstance (pa_cons (pv 0) (pa_cons (pe_bltn (v := .ty "list") rfl T.list PyProof.Rows.boot_list rfl) pa_nil)))))
        (pw_or1 (pt_not (pt_chain op_le op_le pe_int (pe_callB call_len_seq rfl T.len boot_len (pa_cons (pv 0) pa_nil)) (pe_glob rfl gK rK))))))
        (pss_one (ps_ret pe_bl)) pss_nil)
      (pss_one (ps_ret (pe_and (pe_callB (cr_all rfl) rfl T.all boot_all (pa_cons
        (pe_lc (own := [("way", 3)]) (g := gName 3) (tt := tYes) rfl scWays.nd (pi_list (pv 0)) (blkOk_by (N := nWays) (sc := defScope sWays) (by decide +kernel)) (fun _ _ _ _ _ => pg_name (i := 3) scWays.nd rfl (.inl rfl)) (fun _ _ _ _ _ => pts_nil)
          (fun _ _ _ _ _ => pe_call G1 hr rfl g1 F1.kp b1 .nil pass0 (pa_cons (pv 3) (pa_cons (pv 1) (pa_cons (pv 2) pa_nil))))) pa_nil))
        (pe_one (pe_cmp (pc_eqI (NS.pe_lenSetU rfl hr.units rfl T.len rfl T.set (pv 0)) (pe_callB call_len_seq rfl T.len boot_len (pa_cons (pv 0) pa_nil))) rfl))))), ?_⟩
    refine ⟨_, rfl, _, _, _, _, _, rfl, .ty _, dp_ty hd, kit_ty (kit_list d), _, rfl, ?_⟩
    cases d with
    | list ds =>
      cases hd with
      | @lst a xs _ hs ha =>
      refine iteF ?_
      have hl := dps_len ha
      refine ⟨_, rfl, a, xs, rfl, .inl hs, _, _, rfl, rfl, _, rfl, ?_⟩
      refine ite2 (fun h1 => ?_) (fun h1 => ?_)
      · refine ⟨_, _, rfl, rfl, _, rfl, ?_⟩
        refine ite2 (fun h2 => ?_) (fun h2 => ?_)
        · have q := k H (Same.refl H)
          rw [ways_long (no_le h2) hl] at q
          exact q
        · refine ⟨_, rfl, a, rfl, ⟨xs, hs⟩, fun D hD => ?_⟩
          refine all_list (bs := ds.map (wayD l many)) hs (by rw [List.length_map, hl]) (by rw [← hl]; exact wo.1) hD (fun i x b H2 Q2 hx hb sm k2 => ?_) fun H2 sm hd2 => ?_
          · obtain ⟨d, hd, hdx⟩ := dps_at ha hx
            rw [List.getElem?_map, hd] at hb
            obtain rfl : wayD l many d = b := Option.some.inj hb
            exact ⟨rfl, _, rfl, _, rfl, _, rfl, _, d, n, l, many, rfl, dp_same sm _ _ hdx, wo.2 d (List.mem_of_getElem? hd), hn.imp sm.seq (same_seqT sm), k2⟩
          · refine ⟨_, _, rfl, SqL.of hd2, _, rfl, ?_⟩
            rw [all_map]
            cases hw : ds.all (wayD l many) with
            | false =>
              refine iteF ?_
              have q := k H2 sm
              rw [ways_odd hw] at q
              exact q
            | true =>
              have h12 : xs.length ≤ 12 := of_yes_le h2
              obtain ⟨ks, e1, e2, e3⟩ := ways_keys ha hw
              have hkl : ks.length = xs.length := by rw [e1, List.length_map]
              refine iteT ⟨_, rfl, a, rfl, .inr ⟨ks, ?_, fun p hp => ⟨dp_same sm _ _ (e3 p hp).1, (e3 p hp).2⟩, by omega, fun m hm hnd => ?_⟩⟩
              · rw [← e1]
                exact sm.seq hs
              · refine ⟨_, rfl, a, xs, rfl, .inl (sm.seq hs), _, _, rfl, rfl, ?_⟩
                have q := k H2 sm
                rw [← e2, hkl] at hnd
                rw [ways_good hl (of_yes_one h1) h12 hw hnd] at q
                exact q
      · refine ⟨_, rfl, iteT ?_⟩
        have q := k H (Same.refl H)
        rw [ways_short (of_no_one h1) hl] at q
        exact q
    | _ => exact iteT (k H (Same.refl H))
def btwD (least most : Int) : PyData → Bool
  | .int i => decide (least ≤ i) && decide (i ≤ most)
  | _ => false
def spBtw (K : PySem.W.Frag) : Sp := fun vs H Q _ => ∃ (v : V) (d : PyData) (least most : Int), vs = [v, .int least, .int most] ∧ Dp K H v d ∧ Q (.bl (btwD least most d)) H
theorem scBtw : FnScope ["value", "least", "greatest"] ["value", "least", "greatest"] (defScope sBtw) := ⟨rfl, rfl, rfl, by decide +kernel, rfl, by decide +kernel, by decide +kernel⟩
theorem ok_btw (F : Fun K "is_between" "is_between" sBtw f fd) (T : Pk mg K w) (F1 : Fun K "is_integer" "is_integer" sInt f1 fd1) (g1 : mg "is_integer" = some (.ref f1)) (b1 : Binds K fd1 ["value"] []) : FnOk P w K mg base CX0 2 f fd ["value", "least", "greatest"] (spBtw K) := by
  have G1 : FnOk P w K mg base CX0 1 f1 fd1 ["value"] (spInt K) := ok_int F1 T
  refine F.ok scBtw (fun vs H Q E h => ?_) (fun cdv A outer s H vs Q E hr h => ?_)
  · obtain ⟨v, d, least, most, rfl, _⟩ := h
    rfl
  · obtain ⟨v, d, least, most, rfl, hd, k⟩ := h
    refine ⟨_, pss_one (ps_ret (pe_and (pe_call G1 hr rfl g1 F1.kp b1 .nil pass0 (pa_cons (pv 0) pa_nil)) (pe_one (pe_chain op_le op_le (pv 1) (pv 0) (pv 2))))), ?_⟩
    cases hd with
    | non => exact ⟨_, rfl, _, _, rfl, .non, _, rfl, iteF k⟩
    | bl b => exact ⟨_, rfl, _, .bool b, rfl, .bl b, _, rfl, iteF k⟩
    | str x => exact ⟨_, rfl, _, .str x, rfl, .str x, _, rfl, iteF k⟩
    | lst h1 h2 => exact ⟨_, rfl, _, _, rfl, .lst h1 h2, _, rfl, iteF k⟩
    | tup h1 h2 => exact ⟨_, rfl, _, _, rfl, .tup h1 h2, _, rfl, iteF k⟩
    | int i =>
      refine ⟨_, rfl, _, .int i, rfl, .int i, _, rfl, iteT ?_⟩
      refine ⟨_, rfl, _, rfl, _, _, rfl, rfl, _, rfl, ?_⟩
      have e : btwD least most (.int i) = (decide (least ≤ i) && decide (i ≤ most)) := rfl
      rw [e] at k
      refine ite2 (fun h1 => ?_) (fun h1 => ?_)
      · refine ⟨_, rfl, _, _, rfl, rfl, ?_⟩
        have h1' : decide (least ≤ i) = true := h1
        rw [h1', Bool.true_and] at k
        exact k
      · have h1' : decide (least ≤ i) = false := by
          cases z : decide (least ≤ i) with
          | false => rfl
          | true => exact absurd z h1
        rw [h1', Bool.false_and] at k
        exact k
theorem scLimit : FnScope ["value", "least"] ["value", "least"] (defScope sLimit) := ⟨rfl, rfl, rfl, by decide +kernel, rfl, by decide +kernel, by decide +kernel⟩
theorem ok_limit (F : Fun K "is_limit" "is_limit" sLimit f fd) (T : Pk mg K w) {f2 : Addr} {fd2 : FuncData} (F2 : Fun K "is_between" "is_between" sBtw f2 fd2) (g2 : mg "is_between" = some (.ref f2)) (b2 : Binds K fd2 ["value", "least", "greatest"] []) (F1 : Fun K "is_integer" "is_integer" sInt f1 fd1) (g1 : mg "is_integer" = some (.ref f1)) (b1 : Binds K fd1 ["value"] []) : FnOk P w K mg base CX0 3 f fd ["value", "least"] (spLimit K) := by
  have G2 : FnOk P w K mg base CX0 2 f2 fd2 ["value", "least", "greatest"] (spBtw K) := ok_btw F2 T F1 g1 b1
  obtain ⟨uK, gK, rK⟩ := T.gG
  refine F.ok scLimit (fun vs H Q E h => ?_) (fun cdv A outer s H vs Q E hr h => ?_)
  · obtain ⟨v, d, least, rfl, _⟩ := h
    rfl
  · obtain ⟨v, d, least, rfl, hd, k⟩ := h
    refine ⟨_, pss_one (ps_ret (pe_or (pe_cmp (pc_isN (pv 0)) rfl) (pe_one (pe_call G2 hr rfl g2 F2.kp b2 .nil pass0 (pa_cons (pv 0) (pa_cons (pv 1) (pa_cons (pe_glob rfl gK rK) pa_nil))))))), ?_⟩
    refine ⟨_, rfl, _, rfl, ?_⟩
    have go : ∀ {v : V} {d : PyData}, Dp K H v d → Q (.bl (btwD least 9 d)) H → spBtw K [v, .int least, .int 9] H Q E := fun {v d} hd q => ⟨v, d, least, 9, rfl, hd, q⟩
    cases hd with
    | non => exact iteT k
    | bl b => exact iteF ⟨_, rfl, _, rfl, go (.bl b) k⟩
    | str x => exact iteF ⟨_, rfl, _, rfl, go (.str x) k⟩
    | lst h1 h2 => exact iteF ⟨_, rfl, _, rfl, go (.lst h1 h2) k⟩
    | tup h1 h2 => exact iteF ⟨_, rfl, _, rfl, go (.tup h1 h2) k⟩
    | int i => exact iteF ⟨_, rfl, _, rfl, go (.int i) k⟩
abbrev nWrong : List Str := ["kinds", "measures", "ways", "deep", "tall", "free"]
theorem scWrong : FnScope nWrong nWrong (defScope sWrong) := ⟨rfl, rfl, rfl, by decide +kernel, rfl, by decide +kernel, by decide +kernel⟩
/-- the defs that wrong_part calls -/
structure Df (K : PySem.W.Frag) (mg : Str → Option Value) (fk fm fy fl fw fo fi fv : Addr) (dk dm dy dl dw do_ di dv : FuncData) : Prop where
  Fk : Fun K "are_kinds" "are_kinds" sKinds fk dk
  gk : mg "are_kinds" = some (.ref fk)
  bk : Binds K dk ["value"] []
  Fm : Fun K "are_measures" "are_measures" sMeas fm dm
  gm : mg "are_measures" = some (.ref fm)
  bm : Binds K dm ["value"] []
  Fy : Fun K "are_ways" "are_ways" sWays fy dy
  gy : mg "are_ways" = some (.ref fy)
  by_ : Binds K dy ["value", "kinds", "many"] []
  Fl : Fun K "is_limit" "is_limit" sLimit fl dl
  gl : mg "is_limit" = some (.ref fl)
  bl : Binds K dl ["value", "least"] []
  Fw : Fun K "is_word" "is_word" sWord fw dw
  gw : mg "is_word" = some (.ref fw)
  bw : Binds K dw ["value"] []
  Fo : Fun K "is_one_of" "is_one_of" sOne fo do_
  go : mg "is_one_of" = some (.ref fo)
  bo : Binds K do_ ["value", "names"] []
  Fi : Fun K "is_integer" "is_integer" sInt fi di
  gi : mg "is_integer" = some (.ref fi)
  bi : Binds K di ["value"] []
  nb : ∃ fb db, Fun K "is_between" "is_between" sBtw fb db ∧ mg "is_between" = some (.ref fb) ∧ Binds K db ["value", "least", "greatest"] []
  Fv : Fun K "is_way" "is_way" sWay fv dv
  gv : mg "is_way" = some (.ref fv)
  bv : Binds K dv ["value", "kinds", "many"] []
theorem ok_wrong {fk fm fy fl fw fo fi fv : Addr} {dk dm dy dl dw do_ di dv : FuncData} (F : Fun K "wrong_part" "wrong_part" sWrong f fd) (T : Pk mg K w) (D : Df K mg fk fm fy fl fw fo fi fv dk dm dy dl dw do_ di dv) : FnOk P w K mg base CX0 4 f fd nWrong (spWrong K) := by
  have Gk : FnOk P w K mg base CX0 2 fk dk ["value"] (spKinds K) := ok_kinds D.Fk T D.Fw D.gw D.bw
  have Gm : FnOk P w K mg base CX0 2 fm dm ["value"] (spMeas K) := ok_meas D.Fm T D.Fw D.gw D.bw
  have Gy : FnOk P w K mg base CX0 3 fy dy ["value", "kinds", "many"] (spWays K) := ok_ways D.Fy T D.Fv D.gv D.bv D.Fo D.go D.bo
  obtain ⟨fb, db, Fb, gb, bb⟩ := D.nb
  have Gl : FnOk P w K mg base CX0 3 fl dl ["value", "least"] (spLimit K) := ok_limit D.Fl T Fb gb bb D.Fi D.gi D.bi
  refine F.ok scWrong (fun vs H Q E h => ?_) (fun cdv A outer s H vs Q E hr h => ?_)
  · obtain ⟨k, m, y, d, t, f', kd, md, yd, dd, td, fd', rfl, _⟩ := h
    rfl
  · obtain ⟨k, m, y, d, t, f', kd, md, yd, dd, td, fd', rfl, hk, ko, hm, hy, yo, hd, ht, hf, q⟩ := h
    refine ⟨_, pss_cons (ps_if (pt_not (pt_val (pe_call Gk (hr.mono (by decide)) rfl D.gk D.Fk.kp D.bk .nil pass0 (pa_cons (pv 0) pa_nil)))) (pss_one (ps_ret pe_str)) pss_nil)
      (pss_cons (ps_if (pt_not (pt_val (pe_call Gm (hr.mono (by decide)) rfl D.gm D.Fm.kp D.bm .nil pass0 (pa_cons (pv 1) pa_nil)))) (pss_one (ps_ret pe_str)) pss_nil)
      (pss_cons (ps_if (pt_not (pt_val (pe_call Gy hr rfl D.gy D.Fy.kp D.by_ .nil pass0 (pa_cons (pv 2) (pa_cons (pv 0) (pa_cons (pe_callB call_lenD rfl T.len boot_len (pa_cons (pv 1) pa_nil)) pa_nil)))))) (pss_one (ps_ret pe_str)) pss_nil)
      (pss_cons (ps_if (pt_not (pt_val (pe_call Gl (hr.mono (by decide)) rfl D.gl D.Fl.kp D.bl .nil pass0 (pa_cons (pv 3) (pa_cons pe_int pa_nil))))) (pss_one (ps_ret pe_str)) pss_nil)
      (pss_cons (ps_if (pt_not (pt_val (pe_call Gl (hr.mono (by decide)) rfl D.gl D.Fl.kp D.bl .nil pass0 (pa_cons (pv 4) (pa_cons pe_int pa_nil))))) (pss_one (ps_ret pe_str)) pss_nil)
      (pss_cons (ps_if (pt_not (pt_val (pe_callB call_isi rfl T.isi boot_isinstance (pa_cons (pv 5) (pa_cons (pe_bltn (v := .ty "bool") rfl T.bool PyProof.Rows.boot_bool rfl) pa_nil))))) (pss_one (ps_ret pe_str)) pss_nil)
      (pss_one (ps_ret pe_non))))))), ?_⟩
    refine ⟨_, rfl, _, kd, rfl, hk, ko, fun H1 s1 => ⟨_, rfl, ?_⟩⟩
    cases ek : kindsD kd with
    | false =>
      refine iteT ?_
      have q' := q H1 s1
      rw [wrong1 ek] at q'
      exact q'
    | true =>
    refine iteF ⟨_, rfl, _, md, rfl, hm.same s1, fun H2 s2 => ⟨_, rfl, ?_⟩⟩
    cases em : measD md with
    | false =>
      refine iteT ?_
      have q' := q H2 (s1.trans s2)
      rw [wrong2 ek em] at q'
      exact q'
    | true =>
    have s12 := s1.trans s2
    cases hm with
    | other h nd => cases em
    | @dict a kvs e h hz nd fl kz =>
    subst e
    obtain ⟨l, a2, ekd, ekv, hkl⟩ := kinds_at hk ek
    subst ekv
    refine iteF ⟨_, rfl, _, rfl, _, rfl, a, kvs, rfl, s12 _ _ h, _, yd, a2, l, kvs.length, rfl, dp_same s12 _ _ hy, yo, .inl (s12.seq hkl), fun H3 s3 => ⟨_, rfl, ?_⟩⟩
    have s13 := s12.trans s3
    cases ey : waysD l kvs.length yd with
    | false =>
      refine iteT ?_
      have q' := q H3 s13
      rw [wrong3 ek em (by rw [ekd]; exact ey)] at q'
      exact q'
    | true =>
    have ey' : waysD (names kd) (manyD (.dict kvs)) yd = true := by rw [ekd]; exact ey
    refine iteF ⟨_, rfl, _, dd, 0, rfl, dp_same s13 _ _ hd, _, rfl, ?_⟩
    cases ed : limitD 0 dd with
    | false =>
      refine iteT ?_
      have q' := q H3 s13
      rw [wrong4 ek em ey' ed] at q'
      exact q'
    | true =>
    refine iteF ⟨_, rfl, _, td, 1, rfl, dp_same s13 _ _ ht, _, rfl, ?_⟩
    cases et : limitD 1 td with
    | false =>
      refine iteT ?_
      have q' := q H3 s13
      rw [wrong5 ek em ey' ed et] at q'
      exact q'
    | true =>
    refine iteF ⟨_, rfl, _, _, _, _, _, rfl, .ty _, dp_ty (dp_same s13 _ _ hf), kit_ty (kit_bool fd'), _, rfl, ?_⟩
    have q' := q H3 s13
    cases ef : boolB fd' with
    | false =>
      refine iteT ?_
      rw [wrong6 ek em ey' ed et ef] at q'
      exact q'
    | true =>
      refine iteF ?_
      rw [wrong7 ek em ey' ed et ef] at q'
      exact q'
end
end K02

set_option Elab.async false
set_option linter.all false
set_option maxRecDepth 100000
set_option maxHeartbeats 1000000
namespace K02
open PySem PySem.Spec PyProof.Rows L2 RK EX
def bodyOf : Stmt → List Stmt
  | .ClassDef (body := b) .. => b
  | _ => []
abbrev sInit : Stmt := (bodyOf (top 23)).getD 0 (.Pass ⟨0, 0, 0, 0⟩)
abbrev nInit : List Str := ["self", "kinds", "measures", "ways", "deep", "tall", "free", "part", "plain", "measure", "kind", "base_kind", "signs"]
abbrev pInit : List Str := ["self", "kinds", "measures", "ways", "deep", "tall", "free"]
theorem scInit : FnScope nInit pInit (defScope sInit) := ⟨rfl, rfl, rfl, by decide +kernel, rfl, by decide +kernel, by decide +kernel⟩
/-- the class Rule and its error -/
structure Ru (P : Program) (w : World) (K : PySem.W.Frag) (mg : Str → Option Value) (base : Heap) (C cB fB : Addr) : Prop where
  cl : Cls K C
  nk : NoAttr K C "_kinds"
  nm : NoAttr K C "_measures"
  ny : NoAttr K C "_ways"
  nd : NoAttr K C "_deep"
  nt : NoAttr K C "_tall"
  nf : NoAttr K C "_free"
  xB : XI P w K mg base 1 "BadRule" "part" cB fB
  tyB : PySem.W.typeIn K (.ref cB) = some (.type "type")
section
variable {P : Program} {w : World} {K : PySem.W.Frag} {mg : Str → Option Value} {base : Heap} {f fW C cB fB : Addr} {fd fdW : FuncData} {dvs : List V} {kws : List (Str × V)}
theorem ok_init {fk fm fy fl fw fo fi fv : Addr} {dk dm dy dl dw do_ di dv : FuncData} (F : FunD K "__init__" "Rule.__init__" (defArgs sInit) (defBody sInit) (defScope sInit) dvs kws f fd) (T : Pk mg K w) (R : Ru P w K mg base C cB fB)
    (FW : Fun K "wrong_part" "wrong_part" sWrong fW fdW) (gW : mg "wrong_part" = some (.ref fW)) (bW : Binds K fdW nWrong []) (D : Df K mg fk fm fy fl fw fo fi fv dk dm dy dl dw do_ di dv) : G.FnG P w K mg base (L2.CX P w) 5 f fd pInit (spInit K C cB) := by
  have GW : FnOk P w K mg base CX0 4 fW fdW nWrong (spWrong K) := ok_wrong FW T D
  refine G.okD F scInit (fun vs H Q E h => ?_) (fun cdv A outer s H vs Q E hr hG h => ?_)
  · obtain ⟨a, dx, k, m, y, d, t, f', kd, md, yd, dd, td, fd', rfl, _⟩ := h
    rfl
  · obtain ⟨a, dx, k, m, y, d, t, f', kd, md, yd, dd, td, fd', rfl, ha, hk, ko, hm, hy, yo, hd, ht, hf, qE, qN⟩ := h
    have sorted : ∀ {e : Expr} {te : TE} {p p1 p2 p3 : Pos}, True := fun {_ _ _ _ _ _} => trivial
    refine ⟨_, pss_cons (ps_set (i := 7) scInit.nd rfl (.inl rfl) (pe_call GW hr rfl gW FW.kp bW .nil pass0 (pa_cons (pv 1) (pa_cons (pv 2) (pa_cons (pv 3) (pa_cons (pv 4) (pa_cons (pv 5) (pa_cons (pv 6) pa_nil))))))))
      (pss_cons (ps_if (pt_cmp (pc_notN (pv 7))) (pss_one (ps_raise rfl (takes_of rfl rfl rfl rfl) (pmk_xi R.xB R.tyB (hr.mono (by decide)) rfl (pa_cons (pv 7) pa_nil)))) pss_nil)
      (pss_cons (ps_fld (pv 0) (pe_callTy call_tuple_of rfl T.tup PyProof.Rows.boot_tuple (pa_cons (pe_callBK (SK.cr_sortedStr rfl hG hr.units) rfl T.sorted boot_sorted (pa_cons (pv 1) pa_nil) (pk_cons (pe_bltn (v := .ty "str") rfl T.str PyProof.Rows.boot_str rfl) pk_nil)) pa_nil)) rfl)
      (pss_cons (ps_fld (pv 0) (pe_dc (own := [("measure", 9)]) (g := gName 9) (tt := tYes) rfl scInit.nd (pi_list (pe_callBK (SK.cr_sortedStr rfl hG hr.units) rfl T.sorted boot_sorted (pa_cons (pv 2) pa_nil) (pk_cons (pe_bltn (v := .ty "str") rfl T.str PyProof.Rows.boot_str rfl) pk_nil)))
          (blkOk_by (N := nInit) (sc := defScope sInit) (by decide +kernel)) (fun _ _ _ _ _ => pg_name (i := 9) scInit.nd rfl (.inl rfl)) (fun _ _ _ _ _ => pts_nil) (fun _ _ _ _ _ => pv 9) (fun _ _ _ _ _ => pe_dget (hu_of hr) (pv 2) (pv 9) (fun _ _ => rfl))) rfl)
      (pss_cons (ps_setLc (i := 8) (own := [("kind", 10), ("base_kind", 11), ("signs", 12)]) (g := gTup K 3 (gCons (gName 10) (gCons (gName 11) (gCons (gName 12) gNil)))) (tt := tYes) rfl scInit.nd rfl rfl (sw_true rfl rfl rfl (by decide +kernel)) (pi_list (pv 3))
          (blkOk_by (N := nInit) (sc := defScope sInit) (by decide +kernel)) (fun _ _ _ _ _ => pg_tup rfl (pgs_cons (pg_name (i := 10) scInit.nd rfl (.inl rfl)) (pgs_cons (pg_name (i := 11) scInit.nd rfl (.inl rfl)) (pgs_cons (pg_name (i := 12) scInit.nd rfl (.inl rfl)) pgs_nil)))) (fun _ _ _ _ _ => pts_nil)
          (fun _ _ _ _ _ => pe_tup (pa_cons (pv 10) (pa_cons (pv 11) (pa_cons (pe_callTy (r := rTupT K) cr_tupT rfl T.tup PyProof.Rows.boot_tuple (pa_cons (pv 12) pa_nil)) pa_nil)))))
      (pss_cons (ps_fld (pv 0) (pe_callTy call_tuple_of rfl T.tup PyProof.Rows.boot_tuple (pa_cons (pe_callBK (SK.cr_sortedStr rfl hG hr.units) rfl T.sorted boot_sorted (pa_cons (pv 8) pa_nil) (pk_cons (pe_bltn (v := .ty "str") rfl T.str PyProof.Rows.boot_str rfl) pk_nil)) pa_nil)) rfl)
      (pss_cons (ps_fld (pv 0) (pv 4) rfl)
      (pss_cons (ps_fld (pv 0) (pv 5) rfl)
      (pss_one (ps_fld (pv 0) (pv 6) rfl))))))))), ?_⟩
    refine ⟨_, rfl, _, rfl, _, rfl, _, rfl, _, rfl, _, rfl, k, m, y, d, t, f', kd, md, yd, dd, td, fd', rfl, hk, ko, hm, hy, yo, hd, ht, hf, fun H1 s1 => ?_⟩
    cases ew : wrongD kd md yd dd td fd' with
    | some z =>
      refine ⟨_, rfl, _, rfl, iteT ?_⟩
      refine ⟨_, rfl, _, rfl, fun e he => ?_⟩
      exact qE z H1 e ew s1 he
    | none =>
    refine ⟨_, rfl, _, rfl, iteF ?_⟩
    obtain ⟨ek, em, ey, _, _, _⟩ := none_all ew
    obtain ⟨l0, ka, el, eka, hkl⟩ := kinds_at hk ek
    subst eka
    obtain ⟨kw, knd, k5⟩ := kinds_words ek
    rw [el] at kw knd k5
    cases hm with
    | other h nd => cases em
    | @dict ma kvs e hma hz nd fl kz =>
    subst e
    obtain ⟨m3, mk⟩ := meas_parts em
    obtain ⟨es, rfl, y12, yw, ynd⟩ := ways_parts ey
    cases hy with
    | @lst wa xs _ hws hwd =>
    have hl := dps_len hwd
    -- self._kinds
    have h1a : H1 a = some (.ins C dx []) := s1 _ _ ha
    refine ⟨_, rfl, ka, l0.map V.str, unS, rfl, rfl, .inl (s1.seq hkl), by rw [List.length_map]; omega, shows_strs l0, fun ys p so sb hp => ?_⟩
    obtain ⟨ey1, ep1⟩ := strs_perm sb.perm
    refine ⟨p, ys, rfl, .inl ⟨SqL.of upd_same, fun kt hkt => ?_⟩⟩
    have s2 : Same H1 (upd (upd H1 p (.lst ys)) kt (.tup ys)) := (same_put hp).trans (same_put hkt)
    generalize hH2 : upd (upd H1 p (.lst ys)) kt (.tup ys) = H2 at s2 ⊢
    have h2k : H2 kt = some (.tup ((ys.map unS).map V.str)) := by rw [← hH2, upd_same, ← ey1]
    have h2a := s2 _ _ h1a
    refine ⟨_, rfl, a, C, dx, [], rfl, h2a, R.cl, R.nk, by show 0 < 1000; decide, ?_⟩
    have o2 : Off a H H2 := (Off.of s1).trans (Off.of s2)
    generalize hH3 : upd H2 a (.ins C dx (putF (Str.ofString "_kinds") (.ref kt) [])) = H3
    have k3 : ∀ b o, b ≠ a → H2 b = some o → H3 b = some o := fun b o hb e => by rw [← hH3, upd_ne hb]; exact e
    have o3 : Off a H H3 := fun b o hb e => k3 b o hb (o2 b o hb e)
    have h3a : H3 a = some (.ins C dx [("_kinds", .ref kt)]) := by rw [← hH3, upd_same]; rfl
    have nkt : kt ≠ a := ne_of h2k h2a (by intro z; cases z)
    have h3k : H3 kt = some (.tup ((ys.map unS).map V.str)) := k3 _ _ nkt h2k
    have nma : ma ≠ a := ne_of hma ha (by intro z; cases z)
    have h3m : H3 ma = some (.dK kvs) := o3 _ _ nma hma
    -- self._measures
    refine ⟨_, rfl, ma, kvs.map (fun kv => L2.kV kv.1), unS, rfl, rfl, .inr ⟨kvs, .inl h3m, rfl⟩, by rw [List.length_map]; omega, by rw [keys_texts mk]; exact shows_strs _, fun ys2 p2 so2 sb2 hp2 => ?_⟩
    have pp2 : ys2.Perm ((kvs.map fun kv => unS (L2.kV kv.1)).map V.str) := by rw [← keys_texts mk]; exact sb2.perm
    obtain ⟨ey2, ep2⟩ := strs_perm pp2
    obtain ⟨dp, dn, dv⟩ := dict_perm mk nd ep2
    have s3m : upd H3 p2 (.lst ys2) ma = some (.dK kvs) := (same_put hp2) _ _ h3m
    refine ⟨p2, rfl, ⟨ys2, SqL.of upd_same⟩, fun D hD => ?_⟩
    refine dc_strs (K := K) (l := ys2.map unS) (val := valS kvs) (by rw [← ey2]; exact SqL.of upd_same) dn (by rw [ep2.length_eq, List.length_map]; omega) hD (fun y Hx Qx hy smx kx => ?_) fun H4 sm4 hD4 => ?_
    · exact ⟨rfl, _, rfl, _, rfl, _, rfl, ma, _, rfl, .inl ⟨kvs, .inr y, .inl (smx _ _ s3m), rfl, (dv y hy).symm⟩, kx⟩
    have s34 : Same H3 H4 := (same_put hp2).trans sm4
    have h4a := s34 _ _ h3a
    refine ⟨_, rfl, a, C, dx, _, rfl, h4a, R.cl, R.nm, by show 1 < 1000; decide, ?_⟩
    have nDa : D ≠ a := ne_of hD4 h4a (by intro z; cases z)
    generalize hH5 : upd H4 a (.ins C dx (putF (Str.ofString "_measures") (.ref D) [("_kinds", .ref kt)])) = H5
    have k5' : ∀ b o, b ≠ a → H4 b = some o → H5 b = some o := fun b o hb e => by rw [← hH5, upd_ne hb]; exact e
    have o5 : Off a H H5 := fun b o hb e => k5' b o hb (s34 _ _ (o3 b o hb e))
    have h5a : H5 a = some (.ins C dx [("_kinds", .ref kt), ("_measures", .ref D)]) := by rw [← hH5, upd_same]; rfl
    have h5k : H5 kt = some (.tup ((ys.map unS).map V.str)) := k5' _ _ nkt (s34 _ _ h3k)
    have h5m : H5 D = some (.dK ((ys2.map unS).map fun y => (.inr y, valS kvs y))) := k5' _ _ nDa hD4
    -- plain
    have nl := ways_noL yw
    have offD : ∀ {d : PyData} {v : V}, noL d = true → Dp K H v d → Dp K H5 v d := fun {d v} n h => dp_ins ha (fun b o hb e => o5 b o hb e) d v n h
    have hxa : SqL K H5 wa xs := sq_ins ha (fun b o hb e => o5 b o hb e) hws
    refine ⟨_, rfl, wa, rfl, ⟨xs, hxa⟩, fun D2 hD2 => ?_⟩
    refine lc_new (K := K) (ds := es) hxa hl (by omega) hD2 nl (fun i x d H6 Q6 hx hd6 sm6 k6 => ?_) fun H6 ys3 sm6 hD6 hda6 => ?_
    · obtain ⟨d', hd', hdx⟩ := dps_at hwd hx
      obtain rfl : d' = d := Option.some.inj (hd'.symm.trans hd6)
      have wd := List.all_eq_true.mp yw d' (List.mem_of_getElem? hd')
      have hdx5 := dp_same sm6 _ _ (offD (noLs_at nl hd') hdx)
      obtain ⟨kk, bb, ss, rfl, _, _, _, hss⟩ := way_shape wd
      cases hdx5 with
      | @tup tw vs3 _ hsw haw =>
      cases haw with
      | cons w1 haw =>
      cases haw with
      | cons w2 haw =>
      cases haw with
      | cons w3 haw =>
      cases haw
      cases w1
      cases w2
      cases w3 with
      | @tup ta2 zs _ hsz haz =>
      refine ⟨tw, _, rfl, hsw, rfl, _, _, rfl, _, _, rfl, _, _, rfl, rfl, rfl, ?_⟩
      refine ⟨_, rfl, _, rfl, _, rfl, ta2, zs, rfl, hsz, by show 3 ≤ sizeLine; rw [sizeLine_eq]; decide, fun q hq => ?_⟩
      refine k6 _ _ (same_put hq) (.tup (SqT.of upd_same) (.cons (.str kk) (.cons (.str bb) (.cons ?_ .nil))))
      exact .tup (same_seqT (same_put hq) hsz) (dps_same (same_put hq) _ _ haz)
    have h6a := sm6 _ _ h5a
    -- self._ways
    have yz : ys3.length ≤ 1000 := by rw [← dps_len hda6]; omega
    refine ⟨_, rfl, D2, ys3, keyIn ys3 es, rfl, rfl, .inl (SqL.of hD6), yz, fun v hv => ?_, fun ys4 p4 so4 sb4 hp4 => ?_⟩
    · obtain ⟨d', hd', hdv, e⟩ := keyIn_at hda6 hv
      have wd := List.all_eq_true.mp yw d' hd'
      obtain ⟨q1, q2, q3⟩ := way_plain wd
      have q4 := way_short (fun y hy => kw y (by rw [← el]; exact hy)) (by show kvs.length ≤ 1000; omega) wd
      obtain ⟨kk, bb, ss, rfl, _⟩ := way_shape wd
      rw [e]
      cases hdv with
      | @tup tw vs3 _ hsw haw => exact .data (.tup hsw haw) q1 q2 q3 q4
    obtain ⟨fs, ef, hf4⟩ := dps_perm sb4.perm hda6
    refine ⟨p4, ys4, rfl, .inl ⟨SqL.of upd_same, fun wt hwt => ?_⟩⟩
    have s67 : Same H6 (upd (upd H6 p4 (.lst ys4)) wt (.tup ys4)) := (same_put hp4).trans (same_put hwt)
    generalize hH7 : upd (upd H6 p4 (.lst ys4)) wt (.tup ys4) = H7 at s67 ⊢
    have h7w : H7 wt = some (.tup ys4) := by rw [← hH7, upd_same]
    have h7a := s67 _ _ h6a
    refine ⟨_, rfl, a, C, dx, _, rfl, h7a, R.cl, R.ny, by show 2 < 1000; decide, ?_⟩
    refine ⟨_, rfl, _, rfl, a, C, dx, _, rfl, upd_same, R.cl, R.nd, by show 3 < 1000; decide, ?_⟩
    refine ⟨_, rfl, _, rfl, a, C, dx, _, rfl, upd_same, R.cl, R.nt, by show 4 < 1000; decide, ?_⟩
    refine ⟨_, rfl, _, rfl, a, C, dx, _, rfl, upd_same, R.cl, R.nf, by show 5 < 1000; decide, ?_⟩
    have nwt : wt ≠ a := ne_of h7w h7a (by intro z; cases z)
    have o57 : Off a H5 H7 := (Off.of sm6).trans (Off.of s67)
    have last : Off a H7 (upd (upd (upd (upd H7 a (.ins C dx (putF (Str.ofString "_ways") (.ref wt) [("_kinds", .ref kt), ("_measures", .ref D)]))) a (.ins C dx (putF (Str.ofString "_deep") d (putF (Str.ofString "_ways") (.ref wt) [("_kinds", .ref kt), ("_measures", .ref D)])))) a
        (.ins C dx (putF (Str.ofString "_tall") t (putF (Str.ofString "_deep") d (putF (Str.ofString "_ways") (.ref wt) [("_kinds", .ref kt), ("_measures", .ref D)]))))) a (.ins C dx (putF (Str.ofString "_free") f' (putF (Str.ofString "_tall") t (putF (Str.ofString "_deep") d (putF (Str.ofString "_ways") (.ref wt) [("_kinds", .ref kt), ("_measures", .ref D)])))))) :=
      ((Off.put.trans Off.put).trans Off.put).trans Off.put
    have fin : DpAll K (upd (upd (upd (upd H7 a (.ins C dx (putF (Str.ofString "_ways") (.ref wt) [("_kinds", .ref kt), ("_measures", .ref D)]))) a (.ins C dx (putF (Str.ofString "_deep") d (putF (Str.ofString "_ways") (.ref wt) [("_kinds", .ref kt), ("_measures", .ref D)])))) a
        (.ins C dx (putF (Str.ofString "_tall") t (putF (Str.ofString "_deep") d (putF (Str.ofString "_ways") (.ref wt) [("_kinds", .ref kt), ("_measures", .ref D)]))))) a (.ins C dx (putF (Str.ofString "_free") f' (putF (Str.ofString "_tall") t (putF (Str.ofString "_deep") d (putF (Str.ofString "_ways") (.ref wt) [("_kinds", .ref kt), ("_measures", .ref D)])))))) ys4 fs :=
      dps_ins h7a last fs ys4 (noLs_perm ef nl) (dps_same s67 _ _ hf4)
    exact qN _ (ys.map unS) ((ys2.map unS).map fun y => (.inr y, valS kvs y)) kvs fs es ew rfl rfl ((o5.trans o57).trans last) (by rw [el]; exact ep1) (strs_asc so) dp ef
      ⟨dx, kt, D, wt, ys4, upd_same, last _ _ nkt (o57 _ _ nkt h5k), last _ _ nDa (o57 _ _ nDa h5m), last _ _ nwt h7w, fin⟩
end
end K02

set_option Elab.async false
set_option linter.all false
set_option maxRecDepth 100000
set_option maxHeartbeats 1000000
namespace K02
open PySem PySem.Spec PyProof.Rows L2 RK EX
abbrev sLimited : Stmt := (bodyOf (top 23)).getD 9 (.Pass ⟨0, 0, 0, 0⟩)
abbrev sMade : Stmt := top 34
abbrev sAsked : Stmt := top 35
abbrev sLim : Stmt := top 36
/-- what is known of the class for its calls -/
structure Rc (P : Program) (w : World) (K : PySem.W.Frag) (mg : Str → Option Value) (base : Heap) (C cB cA cP fB fI fL : Addr) (dI dL : FuncData) : Prop where
  ru : Ru P w K mg base C cB fB
  gC : mg "Rule" = some (.ref C)
  mC : Mk K C fI
  bI : KBn K dI pInit 4 ["deep", "tall", "free"] (fun us ws => us ++ ws) (fun vs zs => vs ++ zs)
  gI : G.FnG P w K mg base (L2.CX P w) 5 fI dI pInit (spInit K C cB)
  gB : mg "BadRule" = some (.ref cB)
  gA : mg "BadArgument" = some (.ref cA)
  gP : mg "PackError" = some (.ref cP)
  kcl : KCl K
  kB : PySem.W.kitOne K (.ref cB) (.ref cB) = some true
  kA : PySem.W.kitOne K (.ref cB) (.ref cA) = some false
  ex : PySem.W.exmOne K (.ref cB) (.ref cP) = some true
  np : NoF K cB "part"
  mL : Meth K C "limited" fL
  bL : KBn K dL ["self", "deep", "tall", "free"] 1 ["deep", "tall", "free"] (fun us ws => us ++ ws) (fun vs zs => vs ++ zs)
section
variable {P : Program} {w : World} {K : PySem.W.Frag} {mg : Str → Option Value} {base : Heap} {f C cB cA cP fB fI fL : Addr} {fd dI dL : FuncData} {dvs : List V} {kws : List (Str × V)}
abbrev nAsked : List Str := ["parts", "e"]
theorem scAsked : FnScope nAsked ["parts"] (defScope sAsked) := ⟨rfl, rfl, rfl, by decide +kernel, rfl, by decide +kernel, by decide +kernel⟩
theorem ok_asked (F : Fun K "_law_asked" "_law_asked" sAsked f fd) (T : Pk mg K w) (R : Rc P w K mg base C cB cA cP fB fI fL dI dL) : G.FnG P w K mg base CX0 7 f fd ["parts"] (spAsked K) := by
  refine G.ok F scAsked (fun vs H Q E h => ?_) (fun cdv A outer s H vs Q E hr hG h => ?_)
  · obtain ⟨q, k, m, y, d, t, f', kd, md, yd, dd, td, fd', rfl, _⟩ := h
    rfl
  · obtain ⟨q, k, m, y, d, t, f', kd, md, yd, dd, td, fd', rfl, hq, hk, ko, hm, hy, yo, hd, ht, hf, kk⟩ := h
    refine ⟨_, pss_cons (ps_try_as (i := 1) rfl rfl scAsked.nd rfl rfl ⟨rfl, by decide, .inl R.gP⟩ takes0
        (fun W pn xe tk _ => pss_one (ps_expr (G.pe_makeNS R.mC R.gI hr hG rfl R.gC R.bI (fun σ => passAt tk σ)
          (pa_cons (pe_ix (r := rIxL K) ix_list (pv 0) pe_int (fun _ _ => rfl)) (pa_cons (pe_ix (r := rIxL K) ix_list (pv 0) pe_int (fun _ _ => rfl)) (pa_cons (pe_ix (r := rIxL K) ix_list (pv 0) pe_int (fun _ _ => rfl)) pa_nil)))
          (pk_cons (pe_ix (r := rIxL K) ix_list (pv 0) pe_int (fun _ _ => rfl)) (pk_cons (pe_ix (r := rIxL K) ix_list (pv 0) pe_int (fun _ _ => rfl)) (pk_cons (pe_ix (r := rIxL K) ix_list (pv 0) pe_int (fun _ _ => rfl)) pk_nil))))))
        (fun a oe cls d pn hz hf => pss_one (ps_ret (pe_and (pe_callB (call_isS hz hf) rfl T.isi boot_isinstance (pa_cons (pv 1) (pa_cons (pe_glob (v := .ref cB) rfl R.gB rfl) pa_nil)))
          (pe_and (pe_not (pe_callB (call_isS hz hf) rfl T.isi boot_isinstance (pa_cons (pv 1) (pa_cons (pe_glob (v := .ref cA) rfl R.gA rfl) pa_nil))))
            (pe_one (pe_xf (C := cB) R.ru.xB.cls.xf R.np.no hz hf (pv 1))))))))
      (pss_one (ps_ret pe_non)), ?_⟩
    have at_ : ∀ (j : Nat) v, [k, m, y, d, t, f'][j]? = some v → ∀ (i : Int), i = (j : Int) → atI [k, m, y, d, t, f'] i = some v := fun j v hj i hi => by
      rw [hi]
      exact atI_nat hj
    refine ⟨_, rfl, q, _, _, k, rfl, rfl, hq, at_ 0 k rfl 0 rfl, _, rfl, q, _, _, m, rfl, rfl, hq, at_ 1 m rfl 1 rfl, _, rfl, q, _, _, y, rfl, rfl, hq, at_ 2 y rfl 2 rfl, ?_⟩
    refine ⟨_, rfl, q, _, _, d, rfl, rfl, hq, at_ 3 d rfl 3 rfl, _, rfl, q, _, _, t, rfl, rfl, hq, at_ 4 t rfl 4 rfl, _, rfl, q, _, _, f', rfl, rfl, hq, at_ 5 f' rfl 5 rfl, ?_⟩
    refine ⟨rfl, rfl, fun x dx hx hdx hne => ?_⟩
    have s0 : Same H (upd (upd H dx (.own x)) x (.ins C dx [])) := fun b o e => by rw [upd_ne (ne_of_none e hx), upd_ne (ne_of_none e hdx)]; exact e
    refine ⟨x, dx, k, m, y, d, t, f', kd, md, yd, dd, td, fd', rfl, upd_same, dp_same s0 _ _ hk, ko, hm.same s0, dp_same s0 _ _ hy, yo, dp_same s0 _ _ hd, dp_same s0 _ _ ht, dp_same s0 _ _ hf, fun z H' e hw s' he => ?_, fun H' l kvs kvs0 ds es hw _ _ off _ _ _ _ _ => ?_⟩
    · refine ⟨true, R.ex, fun _ a ha => ?_, fun q => Bool.noConfusion q⟩
      have hx' : upd H' e (.xd [("part", .str z)]) e = some (.xd [("part", .str z)]) := upd_same
      refine ⟨_, rfl, cB, e, _, _, _, true, rfl, rfl, rfl, hx', .own cB, R.ru.xB.cls, R.kcl, R.kB, _, rfl, iteT ?_⟩
      refine ⟨_, rfl, cB, e, _, _, _, false, rfl, rfl, rfl, hx', .own cA, R.ru.xB.cls, R.kcl, R.kA, _, rfl, _, rfl, iteT ?_⟩
      refine ⟨_, rfl, rfl, rfl, e, _, .str z, rfl, hx', rfl, ?_⟩
      have q := kk (upd H' e (.xd [("part", .str z)])) ((s0.trans s').trans (same_put he))
      rw [hw] at q
      exact q
    · refine ⟨rfl, ?_⟩
      have q := kk H' (fun b o e => off b o (ne_of_none e hx) (s0 b o e))
      rw [hw] at q
      exact q
theorem scLimited : FnScope ["self", "deep", "tall", "free"] ["self", "deep", "tall", "free"] (defScope sLimited) := ⟨rfl, rfl, rfl, by decide +kernel, rfl, by decide +kernel, by decide +kernel⟩
theorem ok_limited (F : FunD K "limited" "Rule.limited" (defArgs sLimited) (defBody sLimited) (defScope sLimited) dvs kws f fd) (T : Pk mg K w) (R : Rc P w K mg base C cB cA cP fB fI fL dI dL) : G.FnG P w K mg base (L2.CX P w) 7 f fd ["self", "deep", "tall", "free"] (spLimited K C cB) := by
  refine G.okD F scLimited (fun vs H Q E h => ?_) (fun cdv A outer s H vs Q E hr hG h => ?_)
  · obtain ⟨a, d, t, f', d0, t0, f0, l, kvs, ds, dd, td, fd', z, rfl, _⟩ := h
    rfl
  · obtain ⟨a, d, t, f', d0, t0, f0, l, kvs, ds, dd, td, fd', z, rfl, ro, g, hd, ht, hf, hz, kk⟩ := h
    refine ⟨_, pss_one (ps_ret (G.pe_makeNS (E := fun _ => E) R.mC R.gI hr hG rfl R.gC R.bI (fun σ => passAt (takes_of rfl rfl rfl rfl) σ)
      (pa_cons (pe_callTy call_list_of rfl T.list PyProof.Rows.boot_list (pa_cons (pe_fld (pv 0) rfl) pa_nil)) (pa_cons (pe_fld (pv 0) rfl) (pa_cons (pe_callTy call_list_of rfl T.list PyProof.Rows.boot_list (pa_cons (pe_fld (pv 0) rfl) pa_nil)) pa_nil)))
      (pk_cons (pv 1) (pk_cons (pv 2) (pk_cons (pv 3) pk_nil))))), ?_⟩
    obtain ⟨dx, kt, md, wt, ws, ha, hkt, hmd, hwt, hda⟩ := ro.ex
    refine ⟨_, rfl, a, C, dx, _, .ref kt, rfl, ha, R.ru.cl, R.ru.nk, rfl, kt, _, rfl, .inr (SqT.of hkt), fun kl hkl => ?_⟩
    have s1 : Same H (upd H kl (.lst (l.map V.str))) := same_put hkl
    refine ⟨_, rfl, a, C, dx, _, .ref md, rfl, s1 _ _ ha, R.ru.cl, R.ru.nm, rfl, ?_⟩
    refine ⟨_, rfl, a, C, dx, _, .ref wt, rfl, s1 _ _ ha, R.ru.cl, R.ru.ny, rfl, wt, ws, rfl, .inr (SqT.of (s1 _ _ hwt)), fun wl hwl => ?_⟩
    have s2 : Same H (upd (upd H kl (.lst (l.map V.str))) wl (.lst ws)) := s1.trans (same_put hwl)
    have h2k : upd (upd H kl (.lst (l.map V.str))) wl (.lst ws) kl = some (.lst (l.map V.str)) := (same_put hwl) _ _ upd_same
    have h2w : upd (upd H kl (.lst (l.map V.str))) wl (.lst ws) wl = some (.lst ws) := upd_same
    generalize upd (upd H kl (.lst (l.map V.str))) wl (.lst ws) = H2 at s2 h2k h2w ⊢
    refine ⟨_, rfl, _, rfl, _, rfl, rfl, rfl, fun x dx2 hx hdx hne => ?_⟩
    have s0 : Same H2 (upd (upd H2 dx2 (.own x)) x (.ins C dx2 [])) := fun b o e => by rw [upd_ne (ne_of_none e hx), upd_ne (ne_of_none e hdx)]; exact e
    have s3 := s2.trans s0
    refine ⟨x, dx2, .ref kl, .ref md, .ref wl, d, t, f', strD l, .dict kvs, .list ds, dd, td, fd', rfl, upd_same, .lst (SqL.of (s0 _ _ h2k)) (dps_of_strs l), g.kok, g.mat (s3 _ _ hmd), .lst (SqL.of (s0 _ _ h2w)) (dps_same s3 _ _ hda), g.yok,
      dp_same s3 _ _ hd, dp_same s3 _ _ ht, dp_same s3 _ _ hf, fun z' H' e hw s' he => ?_, fun H' l' kvs' kvs0 ds' es hw _ _ _ _ _ _ _ _ => ?_⟩
    · rw [g.wrong, hz] at hw
      obtain rfl := Option.some.inj hw
      exact kk H' e (s3.trans s') he
    · rw [g.wrong, hz] at hw
      cases hw
abbrev nLim : List Str := ["ruled", "parts", "e"]
theorem scLim : FnScope nLim ["ruled", "parts"] (defScope sLim) := ⟨rfl, rfl, rfl, by decide +kernel, rfl, by decide +kernel, by decide +kernel⟩
theorem ok_lim (F : Fun K "_law_limited" "_law_limited" sLim f fd) (T : Pk mg K w) (R : Rc P w K mg base C cB cA cP fB fI fL dI dL) (FL : FunD K "limited" "Rule.limited" (defArgs sLimited) (defBody sLimited) (defScope sLimited) dvs kws fL dL) :
    G.FnG P w K mg base CX0 8 f fd ["ruled", "parts"] (spLim K C) := by
  have GL := ok_limited (P := P) (base := base) FL T R
  refine G.ok F scLim (fun vs H Q E h => ?_) (fun cdv A outer s H vs Q E hr hG h => ?_)
  · obtain ⟨a, q, d, t, f', d0, t0, f0, l, kvs, ds, dd, td, fd', z, rfl, _⟩ := h
    rfl
  · obtain ⟨a, q, d, t, f', d0, t0, f0, l, kvs, ds, dd, td, fd', z, rfl, hq, ro, g, hd, ht, hf, hz, kk⟩ := h
    refine ⟨_, pss_cons (ps_try_as (i := 2) rfl rfl scLim.nd rfl rfl ⟨rfl, by decide, .inl R.gP⟩ takes0
        (fun W pn xe tk _ => pss_one (ps_expr (G.pe_methKS (pv 0) R.ru.cl R.mL GL hr hG R.bL (fun σ => passAt tk σ)
          (pk_cons (pe_ix (r := rIxL K) ix_list (pv 1) pe_int (fun _ _ => rfl)) (pk_cons (pe_ix (r := rIxL K) ix_list (pv 1) pe_int (fun _ _ => rfl)) (pk_cons (pe_ix (r := rIxL K) ix_list (pv 1) pe_int (fun _ _ => rfl)) pk_nil))))))
        (fun a oe cls d pn hz hf => pss_one (ps_ret (pe_and (pe_callB (call_isS hz hf) rfl T.isi boot_isinstance (pa_cons (pv 2) (pa_cons (pe_glob (v := .ref cB) rfl R.gB rfl) pa_nil)))
            (pe_one (pe_xf (C := cB) R.ru.xB.cls.xf R.np.no hz hf (pv 2)))))))
      (pss_one (ps_ret pe_non)), ?_⟩
    have at_ : ∀ (j : Nat) v, [d, t, f'][j]? = some v → ∀ (i : Int), i = (j : Int) → atI [d, t, f'] i = some v := fun j v hj i hi => by
      rw [hi]
      exact atI_nat hj
    have ro' := ro.ex
    obtain ⟨dx, kt, md, wt, ws, ha, _⟩ := ro'
    refine ⟨_, rfl, a, dx, _, rfl, ha, rfl, ?_⟩
    refine ⟨_, rfl, q, _, _, d, rfl, rfl, hq, at_ 0 d rfl 0 rfl, _, rfl, q, _, _, t, rfl, rfl, hq, at_ 1 t rfl 1 rfl, _, rfl, q, _, _, f', rfl, rfl, hq, at_ 2 f' rfl 2 rfl, rfl, ?_⟩
    refine ⟨a, d, t, f', d0, t0, f0, l, kvs, ds, dd, td, fd', z, rfl, ro, g, hd, ht, hf, hz, fun H' e s' he => ?_⟩
    refine ⟨true, R.ex, fun _ a ha => ?_, fun q => Bool.noConfusion q⟩
    have hx' : upd H' e (.xd [("part", .str z)]) e = some (.xd [("part", .str z)]) := upd_same
    refine ⟨_, rfl, cB, e, _, _, _, true, rfl, rfl, rfl, hx', .own cB, R.ru.xB.cls, R.kcl, R.kB, _, rfl, iteT ?_⟩
    exact ⟨_, rfl, rfl, rfl, e, _, .str z, rfl, hx', rfl, kk _ (s'.trans (same_put he))⟩
end
end K02

set_option Elab.async false
set_option linter.all false
set_option maxRecDepth 100000
set_option maxHeartbeats 4000000
namespace K02
open PySem PySem.Spec PyProof.Rows L2 RK EX

/-! ### the text -/
abbrev sNum : Stmt := top 28
abbrev sPool : Stmt := top 29
abbrev sDraw : Stmt := top 30
abbrev sPick : Stmt := top 31
abbrev sOpen : Stmt := top 32
/-! ### drawn numbers: what a pool is -/
def Small (zs : List Int) : Prop := zs.length ≤ 500 ∧ ∀ z ∈ zs, 0 ≤ z ∧ z < 420
def PoolAt (H : Hp) (q p : Addr) (zs : List Int) (n : Nat) : Prop := p ≠ q ∧ H q = some (.lst [.ref p, .int n]) ∧ H p = some (.lst (zs.map V.int)) ∧ Small zs
/-- the pool behind one more draw -/
def drawn (H : Hp) (q p : Addr) (n : Nat) : Hp := upd H q (.lst [.ref p, .int ((n + 1 : Nat) : Int)])
theorem PoolAt.drawn {H : Hp} {q p : Addr} {zs : List Int} {n : Nat} (h : PoolAt H q p zs n) : PoolAt (drawn H q p n) q p zs (n + 1) :=
  ⟨h.1, upd_same, by unfold K02.drawn; rw [upd_ne h.1]; exact h.2.2.1, h.2.2.2⟩
theorem PoolAt.off {H H' : Hp} {q p : Addr} {zs : List Int} {n : Nat} (h : PoolAt H q p zs n) (s : Same H H') : PoolAt H' q p zs n := ⟨h.1, s _ _ h.2.1, s _ _ h.2.2.1, h.2.2.2⟩
/-! ### promises -/
def spNum (K : PySem.W.Frag) : Sp := fun vs H Q _ => ∃ (c z : Int) (a : Addr) (n : Nat), vs = [.int c, .int z, .ref a] ∧ SqL K H a (List.replicate n (V.int 420)) ∧ n ≤ 500 ∧ 0 ≤ z ∧ z ≤ 100 ∧
  ∀ H' p zs, Same H H' → H p = none → H' p = some (.lst (zs.map V.int)) → Small zs → Q (.ref p) H'
def spPool : Sp := fun vs H Q _ => ∃ (c z : Int) (n : Nat), vs = [.int c, .int z, .int n] ∧ n ≤ 500 ∧ 0 ≤ z ∧ z ≤ 100 ∧ ∀ H' q p zs, Same H H' → H q = none → H p = none → PoolAt H' q p zs 0 → Q (.ref q) H'
def spDraw : Sp := fun vs H Q _ => ∃ (q p : Addr) (zs : List Int) (n : Nat) (m : Int), vs = [.ref q, .int m] ∧ PoolAt H q p zs n ∧ 0 < m ∧ m ≤ 500 ∧ ∀ d : Int, 0 ≤ d → d < m → Q (.int d) (drawn H q p n)
def spPick (K : PySem.W.Frag) : Sp := fun vs H Q _ => ∃ (q p s : Addr) (zs : List Int) (n : Nat) (xs : List V), vs = [.ref q, .ref s] ∧ PoolAt H q p zs n ∧ SqL K H s xs ∧ s ≠ q ∧ xs ≠ [] ∧ xs.length ≤ 500 ∧
  ∀ (j : Nat) x, xs[j]? = some x → Q x (drawn H q p n)
def spOpen (K : PySem.W.Frag) : Sp := fun vs H Q _ => ∃ (a : Addr) (ns : List Int) (k n : Nat), vs = [.ref a, .int k, .int n] ∧ SqL K H a (ns.map V.int) ∧ (ns = [] ∨ k < ns.length) ∧ k ≤ 100 ∧ n ≤ 500 ∧
  ∀ H' q p zs, Same H H' → H q = none → H p = none → PoolAt H' q p zs 0 → Q (.ref q) H'
/-- the names of the built-ins are free, those of the defs stand -/
structure Dn (mg : Str → Option Value) : Prop where
  max : mg "max" = none
  min : mg "min" = none
  int : mg "int" = none
  rng : mg "range" = none
  len : mg "len" = none
theorem emod_small (x : Int) : 0 ≤ x % 420 ∧ x % 420 < 420 := ⟨Int.emod_nonneg _ (by decide), Int.emod_lt_of_pos _ (by decide)⟩
theorem pos420 : (0 : Int) < 420 := by decide
theorem posA : (0 : Int) < 2147483629 := by decide
theorem posB : (0 : Int) < 2147483647 := by decide
theorem pw3 (x : Int) {z : Int} (h0 : 0 ≤ z) (h1 : z ≤ 100) : (x % 2147483629 + 7919 * z + 1).natAbs < 2 ^ 64 := by
  have a := Int.emod_nonneg x (show (2147483629 : Int) ≠ 0 by decide)
  have b := Int.emod_lt_of_pos x (show (0 : Int) < 2147483629 by decide)
  omega
theorem pw5 (x : Int) : (x % 2147483629).natAbs < 2 ^ 64 := by
  have a := Int.emod_nonneg x (show (2147483629 : Int) ≠ 0 by decide)
  have b := Int.emod_lt_of_pos x (show (0 : Int) < 2147483629 by decide)
  omega
section
variable {P : Program} {w : World} {K : PySem.W.Frag} {mg : Str → Option Value} {base : Heap} {f fN fP fD : Addr} {fd fdN fdP fdD : FuncData}
theorem scNum : FnScope ["cell", "salt", "sizes", "whole", "left", "result", "k", "one"] ["cell", "salt", "sizes"] (defScope sNum) := ⟨rfl, rfl, rfl, by decide +kernel, rfl, by decide +kernel, by decide +kernel⟩
def numW (c : Int) : Int := if -1 - c > c then -1 - c else c
theorem lst_get {n i : Nat} (h : i < n) : (List.replicate n (V.int 420))[i]? = some (V.int 420) := by rw [List.getElem?_replicate, if_pos h]
theorem ok_num (F : Fun K "_law_numbers" "_law_numbers" sNum f fd) (T : Dn mg) : FnOk P w K mg base CX0 1 f fd ["cell", "salt", "sizes"] (spNum K) := by
  refine F.ok scNum (fun vs H Q E h => ?_) (fun cdv A outer s H vs Q E hr h => ?_)
  · obtain ⟨c, z, a, n, rfl, _⟩ := h
    rfl
  · obtain ⟨c, z, a, n, rfl, hS, hn, hz0, hz1, k⟩ := h
    refine ⟨_, pss_cons (ps_set (i := 3) scNum.nd rfl (.inl rfl) (pe_callB (call_max2 rfl) rfl T.max boot_max (pa_cons (pe_callTy call_int1 rfl T.int PyProof.Rows.boot_int (pa_cons (pv 0) pa_nil)) (pa_cons (pe_callTy call_int1 rfl T.int PyProof.Rows.boot_int (pa_cons (pe_op op_sub (pe_un un_neg pe_int) (pv 0)) pa_nil)) pa_nil))))
      (pss_cons (ps_set (i := 4) scNum.nd rfl (.inl rfl) (pv 3))
      (pss_cons (ps_set (i := 5) scNum.nd rfl (.inl rfl) (pe_lst pa_nil))
      (pss_cons (ps_for PassesOwn.never rfl (pi_range1 rfl T.rng (pa_cons (pe_callB call_len_seq rfl T.len boot_len (pa_cons (pv 2) pa_nil)) pa_nil)) (pg_name (i := 6) scNum.nd rfl (.inl rfl))
        (pss_one (ps_if (PW.pt (pw_and (pt_cmpR op_ge (pv 3) (pe_op op_pow pe_int pe_int) (nomark _)) (pw_and1 (pt_cmpR op_gt (pv 4) pe_int (nomark _)))))
          (pss_cons (ps_expr (pe_bm PySem.F.plainAttrs_list PySem.F.slot_list_append PySem.F.type_list_append mt_append (pv 5) (pa_cons (pe_op op_mod (pe_callTy call_int1 rfl T.int PyProof.Rows.boot_int (pa_cons (pv 4) pa_nil)) (pe_ix ix_list (pv 2) (pv 6) (fun _ _ => rfl))) pa_nil)))
            (pss_one (ps_set (i := 4) scNum.nd rfl (.inl rfl) (pe_op op_fdivN (pv 4) (pe_ix ix_list (pv 2) (pv 6) (fun _ _ => rfl))))))
          (pss_cons (ps_set (i := 7) scNum.nd rfl (.inl rfl) (pe_op op_pow (pe_op op_add (pe_op op_add (pe_op op_mod (pe_callTy call_int1 rfl T.int PyProof.Rows.boot_int (pa_cons (pv 3) pa_nil)) pe_int) (pe_op op_mul pe_int (pv 1))) pe_int) pe_int))
          (pss_cons (ps_set (i := 7) scNum.nd rfl (.inl rfl) (pe_op op_mul (pe_op op_add (pe_op op_mod (pe_callTy call_int1 rfl T.int PyProof.Rows.boot_int (pa_cons (pv 7) pa_nil)) pe_int) (pe_op op_mul pe_int (pe_op op_add (pv 6) pe_int))) (pe_op op_add (pv 6) pe_int)))
          (pss_cons (ps_set (i := 7) scNum.nd rfl (.inl rfl) (pe_op op_mod (pe_callTy call_int1 rfl T.int PyProof.Rows.boot_int (pa_cons (pv 7) pa_nil)) pe_int))
          (pss_cons (ps_set (i := 7) scNum.nd rfl (.inl rfl) (pe_op op_mul (pe_op op_mod (pe_callTy call_int1 rfl T.int PyProof.Rows.boot_int (pa_cons (pe_op op_pow (pv 7) pe_int) pa_nil)) pe_int) pe_int))
          (pss_cons (ps_set (i := 7) scNum.nd rfl (.inl rfl) (pe_op op_mod (pe_callTy call_int1 rfl T.int PyProof.Rows.boot_int (pa_cons (pv 7) pa_nil)) pe_int))
          (pss_one (ps_expr (pe_bm PySem.F.plainAttrs_list PySem.F.slot_list_append PySem.F.type_list_append mt_append (pv 5) (pa_cons (pe_op op_mod (pe_callTy call_int1 rfl T.int PyProof.Rows.boot_int (pa_cons (pe_op op_fdivN (pv 7) pe_int) pa_nil)) (pe_ix ix_list (pv 2) (pv 6) (fun _ _ => rfl))) pa_nil))))))))))))
      (pss_one (ps_ret (pv 5)))))), ?_⟩
    -- whole = max(int(cell), int(-1 - cell)); left = whole; result = []
    refine ⟨_, rfl, .inl ⟨_, rfl, _, rfl, _, rfl, _, _, rfl, rfl, .inl ⟨_, rfl, _, _, rfl, _, rfl, Nat.zero_le _, fun r hr' => ?_⟩⟩⟩
    have sm0 : Same H (upd H r (.lst [])) := fun b o e => by rw [upd_ne (ne_of_none e hr')]; exact e
    refine ⟨_, rfl, a, _, rfl, .inl (sm0.seq hS), _, rfl, ?_, ?_, ?_⟩
    · rw [List.length_replicate]
      omega
    · rw [List.length_replicate]
      omega
    refine for_range (lo := 0) (Pv := fun i σ H' => ∃ (L : Int) (zs : List Int) (v1 v2 : Option V), σ = [some (.int c), some (.int z), some (.ref a), some (.int (if -1 - c > c then -1 - c else c)), some (.int L), some (.ref r), v1, v2] ∧
      Same H H' ∧ H' r = some (.lst (zs.map V.int)) ∧ zs.length = i ∧ ∀ y ∈ zs, 0 ≤ y ∧ y < 420) ?_ ?_ ?_
    · exact ⟨_, [], none, none, rfl, sm0, upd_same, rfl, fun y hy => by cases hy⟩
    · rintro i σ H' hi ⟨L, zs, v1, v2, rfl, sm, hr1, hl, hb⟩
      have hin : i < n := by
        rw [List.length_replicate] at hi
        omega
      have hix : atI (List.replicate n (V.int 420)) ((0 : Int) + (i : Int)) = some (V.int 420) := at_of (by omega) (lst_get hin)
      have put : ∀ (y : Int) (L' : Int) (v2' : Option V), 0 ≤ y → y < 420 → ∃ (L : Int) (zs' : List Int) (v1 v2 : Option V),
          ([some (.int c), some (.int z), some (.ref a), some (.int (if -1 - c > c then -1 - c else c)), some (.int L'), some (.ref r), some (.int ((0 : Int) + (i : Int))), v2'] : List (Option V)) = [some (.int c), some (.int z), some (.ref a), some (.int (if -1 - c > c then -1 - c else c)), some (.int L), some (.ref r), v1, v2] ∧
          Same H (upd H' r (.lst (zs.map V.int ++ [.int y]))) ∧ (upd H' r (.lst (zs.map V.int ++ [.int y]))) r = some (.lst (zs'.map V.int)) ∧ zs'.length = i + 1 ∧ ∀ u ∈ zs', 0 ≤ u ∧ u < 420 := fun y L' v2' h0 h1 => by
        refine ⟨L', zs ++ [y], _, v2', rfl, fun b o e => ?_, ?_, ?_, fun u hu => ?_⟩
        · rw [upd_ne (ne_of_none e hr')]
          exact sm b o e
        · rw [upd_same, List.map_append, List.map_singleton]
        · rw [List.length_append, List.length_singleton, hl]
        · rcases List.mem_append.mp hu with hu | hu
          · exact hb u hu
          · rw [List.mem_singleton.mp hu]
            exact ⟨h0, h1⟩
      have sm2 : ∀ {o : HO}, Same H (upd H' r o) := fun {o} b u e => by
        rw [upd_ne (ne_of_none e hr')]
        exact sm b u e
      have room : (zs.map V.int).length < sizeLine := by
        rw [List.length_map, hl]
        exact small1000 (by omega)
      refine ⟨_, rfl, _, _, rfl, rfl, ⟨by decide, by decide, by decide⟩, _, _, rfl, rfl, _, rfl, ?_⟩
      refine ite2 (fun _ => ?_) (fun _ => ?_)
      · refine ⟨_, rfl, _, _, rfl, rfl, _, rfl, ?_⟩
        refine ite2 (fun _ => ?_) (fun _ => ?_)
        · refine ⟨_, rfl, .inl ⟨rfl, _, SqL.of hr1⟩, _, rfl, .inl ⟨_, rfl, _, rfl, _, rfl, a, _, _, _, rfl, rfl, sm.seq hS, hix, _, _, rfl, rfl, pos420, ?_⟩⟩
          refine ⟨r, _, _, rfl, rfl, hr1, room, ?_⟩
          refine ⟨_, rfl, _, rfl, _, rfl, a, _, _, _, rfl, rfl, sm2.seq hS, hix, _, _, rfl, rfl, ⟨by decide, by decide⟩, ?_⟩
          exact put _ _ _ (emod_small _).1 (emod_small _).2
        · -- one = ..
          refine ⟨_, rfl, .inl ⟨_, rfl, _, _, rfl, rfl, posA, _, rfl, _, _, rfl, rfl, .inl ⟨by decide, by decide⟩, _, _, rfl, rfl, _, _, rfl, rfl, _, _, rfl, rfl, ⟨by decide, by decide, pw3 _ hz0 hz1⟩, ?_⟩⟩
          refine ⟨_, rfl, .inl ⟨_, rfl, _, _, rfl, rfl, posB, _, rfl, _, _, rfl, rfl, _, _, rfl, rfl, .inl ⟨by decide, by decide⟩, _, _, rfl, rfl, _, rfl, _, _, rfl, rfl, _, _, rfl, rfl, .inr ⟨by omega, by omega⟩, ?_⟩⟩
          refine ⟨_, rfl, .inl ⟨_, rfl, _, _, rfl, rfl, posA, ?_⟩⟩
          refine ⟨_, rfl, _, _, rfl, rfl, ⟨by decide, by decide, pw5 _⟩, .inl ⟨_, rfl, _, _, rfl, rfl, posB, _, _, rfl, rfl, .inr ⟨by decide, by decide⟩, ?_⟩⟩
          refine ⟨_, rfl, .inl ⟨_, rfl, _, _, rfl, rfl, posA, ?_⟩⟩
          refine ⟨_, rfl, .inl ⟨rfl, _, SqL.of hr1⟩, _, rfl, _, _, rfl, rfl, ⟨by decide, by decide⟩, .inl ⟨_, rfl, _, rfl, _, rfl, a, _, _, _, rfl, rfl, sm.seq hS, hix, _, _, rfl, rfl, pos420, r, _, _, rfl, rfl, hr1, room, ?_⟩⟩
          exact put _ _ _ (emod_small _).1 (emod_small _).2
      · refine iteF ?_
        -- one = ..
        refine ⟨_, rfl, .inl ⟨_, rfl, _, _, rfl, rfl, posA, _, rfl, _, _, rfl, rfl, .inl ⟨by decide, by decide⟩, _, _, rfl, rfl, _, _, rfl, rfl, _, _, rfl, rfl, ⟨by decide, by decide, pw3 _ hz0 hz1⟩, ?_⟩⟩
        refine ⟨_, rfl, .inl ⟨_, rfl, _, _, rfl, rfl, posB, _, rfl, _, _, rfl, rfl, _, _, rfl, rfl, .inl ⟨by decide, by decide⟩, _, _, rfl, rfl, _, rfl, _, _, rfl, rfl, _, _, rfl, rfl, .inr ⟨by omega, by omega⟩, ?_⟩⟩
        refine ⟨_, rfl, .inl ⟨_, rfl, _, _, rfl, rfl, posA, ?_⟩⟩
        refine ⟨_, rfl, _, _, rfl, rfl, ⟨by decide, by decide, pw5 _⟩, .inl ⟨_, rfl, _, _, rfl, rfl, posB, _, _, rfl, rfl, .inr ⟨by decide, by decide⟩, ?_⟩⟩
        refine ⟨_, rfl, .inl ⟨_, rfl, _, _, rfl, rfl, posA, ?_⟩⟩
        refine ⟨_, rfl, .inl ⟨rfl, _, SqL.of hr1⟩, _, rfl, _, _, rfl, rfl, ⟨by decide, by decide⟩, .inl ⟨_, rfl, _, rfl, _, rfl, a, _, _, _, rfl, rfl, sm.seq hS, hix, _, _, rfl, rfl, pos420, r, _, _, rfl, rfl, hr1, room, ?_⟩⟩
        exact put _ _ _ (emod_small _).1 (emod_small _).2
    · rintro σ H' ⟨L, zs, v1, v2, rfl, sm, hr1, hl, hb⟩
      refine ⟨_, rfl, k H' r zs sm hr' hr1 ⟨?_, hb⟩⟩
      rw [hl, List.length_replicate]
      omega
theorem scPool : FnScope ["cell", "salt", "many"] ["cell", "salt", "many"] (defScope sPool) := ⟨rfl, rfl, rfl, by decide +kernel, rfl, by decide +kernel, by decide +kernel⟩
theorem ok_pool (F : Fun K "_law_pool" "_law_pool" sPool f fd) (FN : Fun K "_law_numbers" "_law_numbers" sNum fN fdN) (gN : mg "_law_numbers" = some (.ref fN)) (bN : Binds K fdN ["cell", "salt", "sizes"] []) (T : Dn mg) :
    FnOk P w K mg base CX0 2 f fd ["cell", "salt", "many"] spPool := by
  have GN : FnOk P w K mg base CX0 1 fN fdN ["cell", "salt", "sizes"] (spNum K) := ok_num FN T
  refine F.ok scPool (fun vs H Q E h => ?_) (fun cdv A outer s H vs Q E hr h => ?_)
  · obtain ⟨c, z, n, rfl, _⟩ := h
    rfl
  · obtain ⟨c, z, n, rfl, hn, hz0, hz1, k⟩ := h
    refine ⟨_, pss_one (ps_ret (pe_lst (pa_cons (pe_call GN hr rfl gN FN.kp bN .nil pass0 (pa_cons (pv 0) (pa_cons (pv 1) (pa_cons (pe_op op_rep (pe_lst (pa_cons pe_int pa_nil)) (pv 2)) pa_nil)))) (pa_cons pe_int pa_nil)))), ?_⟩
    refine ⟨_, rfl, _, rfl, (by show 1 ≤ sizeLine; decide), fun l hl => ?_⟩
    refine ⟨_, rfl, l, n, [.int 420], rfl, rfl, upd_same, by omega, by omega, ?_, fun r hr2 => ?_⟩
    · show 1 * (n : Int).toNat ≤ sizeLine
      exact Nat.le_of_lt (small1000 (by omega))
    have e1 : (List.replicate (n : Int).toNat [V.int 420]).flatten = List.replicate n (V.int 420) := by
      rw [show (n : Int).toNat = n by omega]
      clear hl hr2 k hn
      induction n with
      | zero => rfl
      | succ n ih => rw [List.replicate_succ, List.flatten_cons, ih, List.replicate_succ, List.singleton_append]
    have hl2 : H r = none := by
      by_cases e : r = l
      · rw [e]; exact hl
      · rw [upd_ne e] at hr2; exact hr2
    have nrl : r ≠ l := fun e => by rw [e, upd_same] at hr2; cases hr2
    refine ⟨c, z, r, n, rfl, SqL.of (by rw [upd_same, e1]), hn, hz0, hz1, fun H' p zs sm hp hp' hsm => ?_⟩
    have hp0 : H p = none ∧ p ≠ r ∧ p ≠ l := by
      have n1 : p ≠ r := fun e => by rw [e, upd_same] at hp; cases hp
      rw [upd_ne n1] at hp
      have n2 : p ≠ l := fun e => by rw [e, upd_same] at hp; cases hp
      rw [upd_ne n2] at hp
      exact ⟨hp, n1, n2⟩
    refine ⟨(by show 2 ≤ sizeLine; decide), fun q hq => ?_⟩
    have npq : p ≠ q := fun e => by rw [← e, hp'] at hq; cases hq
    have sm3 : Same H (upd H' q (.lst [.ref p, .int 0])) := fun b o e => by
      have e2 : H' b = some o := sm b o (by rw [upd_ne (ne_of_none e hl2), upd_ne (ne_of_none e hl)]; exact e)
      rw [upd_ne (ne_of_none e2 hq)]
      exact e2
    exact k _ q p zs sm3 (show H q = none from (Same.free (fun b o e => sm b o (by rw [upd_ne (ne_of_none e hl2), upd_ne (ne_of_none e hl)]; exact e)) hq)) hp0.1 ⟨npq, upd_same, by rw [upd_ne npq]; exact hp', hsm⟩
theorem scDraw : FnScope ["pool", "many", "at"] ["pool", "many"] (defScope sDraw) := ⟨rfl, rfl, rfl, by decide +kernel, rfl, by decide +kernel, by decide +kernel⟩
theorem ok_draw (F : Fun K "_law_draw" "_law_draw" sDraw f fd) (T : Dn mg) : FnOk P w K mg base CX0 1 f fd ["pool", "many"] spDraw := by
  refine F.ok scDraw (fun vs H Q E h => ?_) (fun cdv A outer s H vs Q E hr h => ?_)
  · obtain ⟨q, p, zs, n, m, rfl, _⟩ := h
    rfl
  · obtain ⟨q, p, zs, n, m, rfl, hP, hm0, hm1, k⟩ := h
    obtain ⟨npq, hq, hp, hz, hb⟩ := id hP
    refine ⟨_, pss_cons (ps_set (i := 2) scDraw.nd rfl (.inl rfl) (pe_ix ix_list (pv 0) pe_int (fun _ _ => rfl)))
      (pss_cons (ps_asg (pe_op op_add (pv 2) pe_int) (pg_sub (pv 0) pe_int set_list))
      (pss_one (ps_ret (pe_ifExp (pt_cmpR op_lt (pv 2) (pe_callB call_len_seq rfl T.len boot_len (pa_cons (pe_ix ix_list (pv 0) pe_int (fun _ _ => rfl)) pa_nil)) (nomark _))
        (pe_op op_mod (pe_callTy call_int1 rfl T.int PyProof.Rows.boot_int (pa_cons (pe_ix ix_list (pe_ix ix_list (pv 0) pe_int (fun _ _ => rfl)) (pv 2) (fun _ _ => rfl)) pa_nil)) (pv 1)) pe_int)))), ?_⟩
    refine ⟨_, rfl, q, _, _, _, rfl, rfl, SqL.of hq, (rfl : atI [V.ref p, V.int (n : Int)] 1 = some (V.int (n : Int))), ?_⟩
    refine ⟨_, rfl, _, _, rfl, rfl, _, rfl, q, _, _, 1, rfl, rfl, hq, rfl, ?_⟩
    have h2 : PoolAt (drawn H q p n) q p zs (n + 1) := hP.drawn
    have hq2 : drawn H q p n q = some (.lst [.ref p, .int ((n + 1 : Nat) : Int)]) := h2.2.1
    refine ⟨_, rfl, _, rfl, q, _, _, _, rfl, rfl, SqL.of hq2, (rfl : atI [V.ref p, V.int ((n + 1 : Nat) : Int)] 0 = some (V.ref p)), p, _, rfl, .inl (SqL.of h2.2.2.1), _, _, rfl, rfl, _, rfl, ?_⟩
    refine ite2 (fun hlt => ?_) (fun _ => ?_)
    · have hlt2 : n < zs.length := by
        have e := of_decide_eq_true hlt
        rw [List.length_map] at e
        omega
      have hget : (zs.map V.int)[n]? = some (V.int zs[n]) := by rw [List.getElem?_map, List.getElem?_eq_getElem hlt2]; rfl
      refine ⟨_, rfl, q, _, _, _, rfl, rfl, SqL.of hq2, (rfl : atI [V.ref p, V.int ((n + 1 : Nat) : Int)] 0 = some (V.ref p)), _, rfl, p, _, _, _, rfl, rfl, SqL.of h2.2.2.1, atI_nat hget, .inl ⟨_, rfl, _, rfl, _, _, rfl, rfl, hm0, ?_⟩⟩
      exact k _ (Int.emod_nonneg _ (by omega)) (Int.emod_lt_of_pos _ hm0)
    · exact k 0 (by omega) hm0
theorem scPick : FnScope ["pool", "some"] ["pool", "some"] (defScope sPick) := ⟨rfl, rfl, rfl, by decide +kernel, rfl, by decide +kernel, by decide +kernel⟩
theorem ok_pick (F : Fun K "_law_pick" "_law_pick" sPick f fd) (FD : Fun K "_law_draw" "_law_draw" sDraw fD fdD) (gD : mg "_law_draw" = some (.ref fD)) (bD : Binds K fdD ["pool", "many"] []) (T : Dn mg) : FnOk P w K mg base CX0 2 f fd ["pool", "some"] (spPick K) := by
  have GD : FnOk P w K mg base CX0 1 fD fdD ["pool", "many"] spDraw := ok_draw FD T
  refine F.ok scPick (fun vs H Q E h => ?_) (fun cdv A outer s H vs Q E hr h => ?_)
  · obtain ⟨q, p, t, zs, n, xs, rfl, _⟩ := h
    rfl
  · obtain ⟨q, p, t, zs, n, xs, rfl, hP, hS, nq, hne, hl, k⟩ := h
    refine ⟨_, pss_one (ps_ret (pe_ix ix_list (pv 1) (pe_call GD hr rfl gD FD.kp bD .nil pass0 (pa_cons (pv 0) (pa_cons (pe_callB call_len_seq rfl T.len boot_len (pa_cons (pv 1) pa_nil)) pa_nil))) (fun _ _ => rfl))), ?_⟩
    have hpos : 0 < xs.length := List.length_pos_iff.mpr hne
    refine ⟨_, rfl, _, rfl, _, rfl, t, _, rfl, .inl hS, q, p, zs, n, _, rfl, hP, by omega, by omega, fun d d0 d1 => ?_⟩
    have hd : d.toNat < xs.length := by omega
    have hS2 : SqL K (drawn H q p n) t xs := by
      rcases hS with (h | ⟨o, h⟩) | h
      · exact .inl (.inl (by unfold drawn; rw [upd_ne nq]; exact h))
      · exact .inl (.inr ⟨o, by unfold drawn; rw [upd_ne nq]; exact h⟩)
      · exact .inr h
    exact ⟨t, xs, d, _, rfl, rfl, hS2, at_of (j := d.toNat) (by omega) (List.getElem?_eq_getElem hd), k d.toNat _ (List.getElem?_eq_getElem hd)⟩
theorem scOpen : FnScope ["script", "k", "many", "cell"] ["script", "k", "many"] (defScope sOpen) := ⟨rfl, rfl, rfl, by decide +kernel, rfl, by decide +kernel, by decide +kernel⟩
theorem dp_ints {H : Hp} : ∀ ns : List Int, DpAll K H (ns.map V.int) (ns.map PyData.int)
  | [] => .nil
  | n :: r => .cons (.int n) (dp_ints r)
theorem ok_open (F : Fun K "_law_opened" "_law_opened" sOpen f fd) (FP : Fun K "_law_pool" "_law_pool" sPool fP fdP) (gP : mg "_law_pool" = some (.ref fP)) (bP : Binds K fdP ["cell", "salt", "many"] [])
    (FN : Fun K "_law_numbers" "_law_numbers" sNum fN fdN) (gN : mg "_law_numbers" = some (.ref fN)) (bN : Binds K fdN ["cell", "salt", "sizes"] []) (T : Dn mg) :
    FnOk P w K mg base CX0 3 f fd ["script", "k", "many"] (spOpen K) := by
  have GP : FnOk P w K mg base CX0 2 fP fdP ["cell", "salt", "many"] spPool := ok_pool FP FN gN bN T
  refine F.ok scOpen (fun vs H Q E h => ?_) (fun cdv A outer s H vs Q E hr h => ?_)
  · obtain ⟨a, ns, k, n, rfl, _⟩ := h
    rfl
  · obtain ⟨a, ns, k, n, rfl, hS, hk, hk1, hn, kk⟩ := h
    refine ⟨_, pss_cons (ps_set (i := 3) scOpen.nd rfl (.inl rfl) (pe_ifExp (pt_cmpR (op_neD hr.units) (pv 0) (pe_lst pa_nil) (nomark _)) (pe_ix ix_list (pv 0) (pv 1) (fun _ _ => rfl)) pe_int))
      (pss_one (ps_ret (pe_call GP hr rfl gP FP.kp bP .nil pass0 (pa_cons (pv 3) (pa_cons (pv 1) (pa_cons (pv 2) pa_nil)))))), ?_⟩
    refine ⟨_, rfl, Nat.zero_le _, fun l hl => ?_⟩
    have sm : Same H (upd H l (.lst [])) := fun b o e => by rw [upd_ne (ne_of_none e hl)]; exact e
    refine ⟨_, _, .lst (sm.seq hS) (dp_ints ns), .lst (SqL.of upd_same) .nil, PySem.W.ke_shaped_ints ns, PySem.W.ke_shaped_ints [], _, rfl, ?_⟩
    have fin : ∀ c : Int, spPool [.int c, .int k, .int n] (upd H l (.lst [])) Q E0 := fun c =>
      ⟨c, k, n, rfl, hn, by omega, by omega, fun H' q p zs s2 hq hp hP => kk H' q p zs (sm.trans s2) (sm.free hq) (sm.free hp) hP⟩
    cases ns with
    | nil => exact iteF ⟨_, rfl, _, rfl, _, rfl, fin _⟩
    | cons x r =>
      refine iteT ?_
      have hk2 : k < (x :: r).length := by
        rcases hk with h | h
        · cases h
        · exact h
      have hget : ((x :: r).map V.int)[k]? = some (V.int (x :: r)[k]) := by rw [List.getElem?_map, List.getElem?_eq_getElem hk2]; rfl
      exact ⟨_, rfl, _, rfl, a, _, _, _, rfl, rfl, sm.seq hS, atI_nat hget, _, rfl, _, rfl, _, rfl, fin _⟩
end
end K02

set_option Elab.async false
set_option linter.all false
set_option maxRecDepth 100000
set_option maxHeartbeats 1000000
namespace K02
open PySem PySem.Spec PyProof.Rows L2 RK EX
section
variable {P : Program} {w : World} {K : PySem.W.Frag} {mg : Str → Option Value} {base : Heap} {f C cB cA cP fB fI fL : Addr} {fd dI dL : FuncData}
abbrev six (kl md wl : Addr) (d t f : V) : List (Key × V) := [(.inr "kinds", .ref kl), (.inr "measures", .ref md), (.inr "ways", .ref wl), (.inr "deep", d), (.inr "tall", t), (.inr "free", f)]
theorem dget {H : Hp} {r kl md wl : Addr} {d t f : V} {x : Str} {v : V} (h : H r = some (.dK (six kl md wl d t f))) (e : valV (six kl md wl d t f) (.inr x) = some v) : DGet H r (.str x) (some v) := .inl ⟨_, .inr x, .inl h, rfl, e.symm⟩
abbrev nMade : List Str := ["rule", "ways", "measures", "one"]
theorem scMade : FnScope nMade ["rule"] (defScope sMade) := ⟨rfl, rfl, rfl, by decide +kernel, rfl, by decide +kernel, by decide +kernel⟩
theorem ok_made (F : Fun K "_law_made" "_law_made" sMade f fd) (T : Pk mg K w) (R : Rc P w K mg base C cB cA cP fB fI fL dI dL) : G.FnG P w K mg base CX0 7 f fd ["rule"] (spMade K C) := by
  refine G.ok F scMade (fun vs H Q E h => ?_) (fun cdv A outer s H vs Q E hr hG h => ?_)
  · obtain ⟨r, l, kvs, ds, d, t, f', dd, td, fd', rfl, _⟩ := h
    rfl
  · obtain ⟨r, l, kvs, ds, d, t, f', dd, td, fd', rfl, lr, g, hd, ht, hf, hz, kk⟩ := h
    refine ⟨_, pss_cons (ps_set (i := 1) scMade.nd rfl (.inl rfl) (pe_callTy call_list_of rfl T.list PyProof.Rows.boot_list (pa_cons (pe_dget (hu_of hr) (pv 0) pe_str (fun _ _ => rfl)) pa_nil)))
      (pss_cons (ps_set (i := 2) scMade.nd rfl (.inl rfl) (pe_callTy (call_dictP rfl) rfl T.dict PyProof.Rows.boot_dict (pa_cons
        (pe_lock (pe_lc (own := [("one", 3)]) (g := gName 3) (tt := tYes) rfl scMade.nd (pi_keys (pe_dget (hu_of hr) (pv 0) pe_str (fun _ _ => rfl))) (blkOk_by (N := nMade) (sc := defScope sMade) (by decide +kernel)) (fun _ _ _ _ _ => pg_name (i := 3) scMade.nd rfl (.inl rfl)) (fun _ _ _ _ _ => pts_nil)
          (fun _ _ _ _ _ => pe_tup (pa_cons (pv 3) (pa_cons (pe_dget (hu_of hr) (pe_dget (hu_of hr) (pv 0) pe_str (fun _ _ => rfl)) (pv 3) (fun _ _ => rfl)) pa_nil))))) pa_nil)))
      (pss_one (ps_ret (G.pe_makeN R.mC R.gI hr hG rfl R.gC R.bI passL
        (pa_cons (pe_callTy call_list_of rfl T.list PyProof.Rows.boot_list (pa_cons (pe_dget (hu_of hr) (pv 0) pe_str (fun _ _ => rfl)) pa_nil)) (pa_cons (pv 2) (pa_cons (pv 1) pa_nil)))
        (pk_cons (pe_dget (hu_of hr) (pv 0) pe_str (fun _ _ => rfl)) (pk_cons (pe_dget (hu_of hr) (pv 0) pe_str (fun _ _ => rfl)) (pk_cons (pe_dget (hu_of hr) (pv 0) pe_str (fun _ _ => rfl)) pk_nil))))))), ?_⟩
    obtain ⟨kl, md, wl, ws, hr0, hkl, hmd, hwl, hda⟩ := lr.ex
    obtain ⟨ms, rfl⟩ := g.ms
    refine ⟨_, rfl, r, .ref wl, rfl, dget hr0 rfl, wl, ws, rfl, .inl (SqL.of hwl), fun w1 hw1 => ?_⟩
    have s1 : Same H (upd H w1 (.lst ws)) := same_put hw1
    have h1w : upd H w1 (.lst ws) w1 = some (.lst ws) := upd_same
    generalize upd H w1 (.lst ws) = H1 at s1 h1w ⊢
    have h1r := s1 _ _ hr0
    have h1m := s1 _ _ hmd
    refine ⟨md, _, h1m, trivial, fun od => ?_⟩
    have nrm : r ≠ md := fun z => by
      rw [z, hmd] at hr0
      have e := HO.dK.inj (Option.some.inj hr0)
      have e3 := congrArg List.length e
      have q := g.ways.1
      have e4 : (mkv ms).length = ms.length := List.length_map ..
      have e6 : (mkv ms).length = 6 := e3
      omega
    have hlk : upd H1 md (.frz od (.dK (mkv ms))) r = some (.dK (six kl md wl d t f')) := by rw [upd_ne nrm]; exact h1r
    refine ⟨_, rfl, r, .ref md, rfl, dget hlk rfl, md, od, rfl, .inl ⟨_, upd_same, fun D hD => ?_⟩⟩
    have hms : ms.length ≤ 3 := by
      have q := g.ways.1
      have e4 : (mkv ms).length = ms.length := List.length_map ..
      omega
    refine new_keys (K := K) upd_same (by omega) hD (fun y b H2 Q2 hy sm2 k2 => ?_) fun H2 ys sm2 hD2 hda2 => ?_
    · have hm2 : H2 md = some (.frz od (.dK (mkv ms))) := sm2 _ _ upd_same
      obtain ⟨i, hi⟩ := List.mem_iff_getElem?.mp hy
      have hv : valV (mkv ms) (.inr y) = some (.bl b) := valV_at g.nd (i := i) (by
        show (ms.map fun p => ((.inr p.1, .bl p.2) : Key × V))[i]? = _
        rw [List.getElem?_map, hi]
        rfl)
      refine ⟨rfl, _, rfl, _, rfl, r, .ref md, rfl, dget (sm2 _ _ hlk) rfl, _, rfl, md, .bl b, rfl, .inl ⟨_, .inr y, .inr ⟨od, hm2⟩, rfl, hv.symm⟩, by show 2 ≤ sizeLine; rw [sizeLine_eq]; decide, fun q hq => ?_⟩
      exact k2 _ _ (same_put hq) (.tup (SqT.of upd_same) (.cons (.str y) (.cons (.bl b) .nil)))
    have hm2 : H2 md = some (.frz od (.dK (mkv ms))) := sm2 _ _ upd_same
    have s12 : Same H1 (upd H2 md (.dK (mkv ms))) := same_unlock h1m sm2
    have nDm : D ≠ md := ne_of hD2 hm2 (by intro z; cases z)
    have hD3 : upd H2 md (.dK (mkv ms)) D = some (.lst ys) := by rw [upd_ne nDm]; exact hD2
    have hda3 : DpAll K (upd H2 md (.dK (mkv ms))) ys (mpd ms) := dps_frz hm2 (fun b o hb e => by rw [upd_ne hb]; exact e) _ _ (noLs_mpd ms) hda2
    refine ⟨hm2, ?_⟩
    generalize upd H2 md (.dK (mkv ms)) = H3 at s12 hD3 hda3 ⊢
    obtain ⟨ps, rfl, hps⟩ := pairs_of hda3
    refine ⟨D, ps, mkv ms, rfl, SqL.of hD3, hps, fun m2 hm2' => ?_⟩
    have e0 : mergeK [] (mkv ms) = mkv ms := merge_all g.nd
    rw [e0]
    have s13 : Same H1 (upd H3 m2 (.dK (mkv ms))) := s12.trans (same_put hm2')
    have h4m : upd H3 m2 (.dK (mkv ms)) m2 = some (.dK (mkv ms)) := upd_same
    generalize upd H3 m2 (.dK (mkv ms)) = H4 at s13 h4m ⊢
    have s04 := s1.trans s13
    refine ⟨_, rfl, r, .ref kl, rfl, dget (s04 _ _ hr0) rfl, kl, _, rfl, .inl (SqL.of (s04 _ _ hkl)), fun k1 hk1 => ?_⟩
    have s5 : Same H4 (upd H4 k1 (.lst (l.map V.str))) := same_put hk1
    have h5k : upd H4 k1 (.lst (l.map V.str)) k1 = some (.lst (l.map V.str)) := upd_same
    generalize upd H4 k1 (.lst (l.map V.str)) = H5 at s5 h5k ⊢
    have s05 := s04.trans s5
    have h5r := s05 _ _ hr0
    refine ⟨_, rfl, _, rfl, ?_⟩
    refine ⟨_, rfl, r, d, rfl, dget h5r rfl, _, rfl, r, t, rfl, dget h5r rfl, _, rfl, r, f', rfl, dget h5r rfl, rfl, rfl, fun x dx hx hdx hne => ?_⟩
    have s6 : Same H5 (upd (upd H5 dx (.own x)) x (.ins C dx [])) := fun b o e => by rw [upd_ne (ne_of_none e hx), upd_ne (ne_of_none e hdx)]; exact e
    have s06 := s05.trans s6
    refine ⟨x, dx, .ref k1, .ref m2, .ref w1, d, t, f', strD l, .dict (mkv ms), .list ds, dd, td, fd', rfl, upd_same, .lst (SqL.of (s6 _ _ h5k)) (dps_of_strs l), g.kok, g.mat (s6 _ _ (s5 _ _ h4m)), .lst (SqL.of (s6 _ _ (s5 _ _ (s13 _ _ h1w)))) (dps_same s06 _ _ hda), g.yok,
      dp_same s06 _ _ hd, dp_same s06 _ _ ht, dp_same s06 _ _ hf, fun z' H' e hw s' he => ?_, fun H' l' kvs' kvs0 ds' es hw e1 e2 off hl' ha' hk' hd' ro => ?_⟩
    · rw [g.wrong, hz] at hw
      cases hw
    · cases e1
      cases e2
      refine ⟨rfl, kk H' x l' kvs' ds' (fun b o e => ?_) (by rw [names_strD] at hl'; exact hl') ha' hk' hd' ro⟩
      exact off b o (ne_of_none (s05 _ _ e) hx) (s06 _ _ e)
end
end K02

set_option Elab.async false
set_option linter.all false
set_option maxRecDepth 100000
set_option maxHeartbeats 1000000
namespace K02
open PySem PySem.Spec PyProof.Rows L2 RK EX
abbrev sRule : Stmt := top 33
theorem lt65 {A : Around} {k : Nat} (r : Room k A) : A.units + 65 < cLine := by have := r.un; omega
theorem off_drawn {H : Hp} {q p : Addr} {n : Nat} : Off q H (drawn H q p n) := Off.put
theorem sm2 : ([.str "", .bl true] : List V).length ≤ sizeLine := by rw [sizeLine_eq]; decide
def spRule (K : PySem.W.Frag) : Sp := fun vs H Q _ => ∃ (q p : Addr) (zs : List Int) (n : Nat) (ka wa : Int), vs = [.ref q, .int ka, .int wa] ∧ PoolAt H q p zs n ∧ 1 ≤ ka ∧ ka ≤ 3 ∧ 1 ≤ wa ∧ wa ≤ 12 ∧
  ∀ (H' : Hp) (r : Addr) (n' : Nat) (l : List Str) (kvs : List (Key × V)) (ds : List PyData) (d t f : V) (dd td fd : PyData), Off q H H' → PoolAt H' q p zs n' → H r = none → LR K H' r l kvs ds d t f → Good l kvs ds → (∀ y ∈ l, y ∈ n4) → (ds.length : Int) ≤ wa → Dp K H' d dd → Dp K H' t td → Dp K H' f fd →
    limD dd td fd = none → Q (.ref r) H'
theorem PoolAt.put {H : Hp} {q p a : Addr} {zs : List Int} {n : Nat} {u : HO} (h : PoolAt H q p zs n) (h1 : a ≠ q) (h2 : a ≠ p) : PoolAt (upd H a u) q p zs n :=
  ⟨h.1, by rw [upd_ne (Ne.symm h1)]; exact h.2.1, by rw [upd_ne (Ne.symm h2)]; exact h.2.2.1, h.2.2.2⟩
theorem off_unlock {q a : Addr} {H H2 : Hp} {o : Obj} {u : HO} (h : H a = some u) (s : Off q (upd H a (.frz o u)) H2) : Off q H (upd H2 a u) := fun b v hb e => by
  by_cases z : b = a
  · subst z
    rw [upd_same]
    rw [h] at e
    exact e
  · rw [upd_ne z]
    exact s b v hb (by rw [upd_ne z]; exact e)
theorem kd_drawn {H : Hp} {q p : Addr} {n : Nat} : ∀ b o, b ≠ q → H b = some o → drawn H q p n b = some o := fun b o hb e => by
  show upd _ q _ b = _
  rw [upd_ne hb]
  exact e
mutual
theorem dp_tups {K : PySem.W.Frag} {H H' : Hp} (k : ∀ b o, ((∃ xs, o = HO.tup xs) ∨ ∃ ob xs, o = .frz ob (.tup xs)) → H b = some o → H' b = some o) : ∀ (d : PyData) (v : V), noL d = true → Dp K H v d → Dp K H' v d
  | .none, _, _, h => by cases h; exact .non
  | .bool b, _, _, h => by cases h; exact .bl b
  | .int i, _, _, h => by cases h; exact .int i
  | .str x, _, _, h => by cases h; exact .str x
  | .list ds, _, n, _ => by cases n
  | .tuple ds, _, n, h => by
    cases h with
    | @tup b xs _ hs hd =>
      refine .tup ?_ (dps_tups k ds _ n hd)
      rcases hs with (h | ⟨o2, h⟩) | h
      · exact .inl (.inl (k _ _ (.inl ⟨_, rfl⟩) h))
      · exact .inl (.inr ⟨o2, k _ _ (.inr ⟨_, _, rfl⟩) h⟩)
      · exact .inr h
  | .dict _, _, _, h => by cases h
theorem dps_tups {K : PySem.W.Frag} {H H' : Hp} (k : ∀ b o, ((∃ xs, o = HO.tup xs) ∨ ∃ ob xs, o = .frz ob (.tup xs)) → H b = some o → H' b = some o) : ∀ (ds : List PyData) (vs : List V), noLs ds = true → DpAll K H vs ds → DpAll K H' vs ds
  | [], _, _, h => by cases h; exact .nil
  | d :: ds, _, n, h => by
    have n' : (noL d && noLs ds) = true := n
    rw [Bool.and_eq_true] at n'
    cases h with
    | cons h1 h2 => exact .cons (dp_tups k d _ n'.1 h1) (dps_tups k ds _ n'.2 h2)
end
theorem pick5 (K : PySem.W.Frag) {e : Int} (e0 : 0 ≤ e) (e1 : e < 5) : ∃ v dd, atI [V.non, .non, .int 0, .int 1, .int 2] e = some v ∧ (∀ H, Dp K H v dd) ∧ limitD 0 dd = true := by
  have h : e = 0 ∨ e = 1 ∨ e = 2 ∨ e = 3 ∨ e = 4 := by omega
  rcases h with rfl | rfl | rfl | rfl | rfl
  · exact ⟨.non, .none, rfl, fun H => .non, rfl⟩
  · exact ⟨.non, .none, rfl, fun H => .non, rfl⟩
  · exact ⟨.int 0, .int 0, rfl, fun H => .int 0, by decide⟩
  · exact ⟨.int 1, .int 1, rfl, fun H => .int 1, by decide⟩
  · exact ⟨.int 2, .int 2, rfl, fun H => .int 2, by decide⟩
theorem pick6 (K : PySem.W.Frag) {e : Int} (e0 : 0 ≤ e) (e1 : e < 6) : ∃ v dd, atI [V.non, .non, .int 1, .int 2, .int 3, .int 5] e = some v ∧ (∀ H, Dp K H v dd) ∧ limitD 1 dd = true := by
  have h : e = 0 ∨ e = 1 ∨ e = 2 ∨ e = 3 ∨ e = 4 ∨ e = 5 := by omega
  rcases h with rfl | rfl | rfl | rfl | rfl | rfl
  · exact ⟨.non, .none, rfl, fun H => .non, rfl⟩
  · exact ⟨.non, .none, rfl, fun H => .non, rfl⟩
  · exact ⟨.int 1, .int 1, rfl, fun H => .int 1, by decide⟩
  · exact ⟨.int 2, .int 2, rfl, fun H => .int 2, by decide⟩
  · exact ⟨.int 3, .int 3, rfl, fun H => .int 3, by decide⟩
  · exact ⟨.int 5, .int 5, rfl, fun H => .int 5, by decide⟩
section
variable {P : Program} {w : World} {K : PySem.W.Frag} {mg : Str → Option Value} {base : Heap} {f fD fP : Addr} {fd fdD fdP : FuncData}
abbrev nRule : List Str := ["pool", "kinds", "ways", "names", "menu", "measures", "signs", "found", "turn", "way", "one"]
theorem scRule : FnScope nRule ["pool", "kinds", "ways"] (defScope sRule) := ⟨rfl, rfl, rfl, by decide +kernel, rfl, by decide +kernel, by decide +kernel⟩
theorem ok_rule (F : Fun K "_law_rule" "_law_rule" sRule f fd) (T : Pk mg K w) (N : Dn mg) (FD : Fun K "_law_draw" "_law_draw" sDraw fD fdD) (gD : mg "_law_draw" = some (.ref fD)) (bD : Binds K fdD ["pool", "many"] [])
    (FP : Fun K "_law_pick" "_law_pick" sPick fP fdP) (gP : mg "_law_pick" = some (.ref fP)) (bP : Binds K fdP ["pool", "some"] []) : FnOk P w K mg base CX0 3 f fd ["pool", "kinds", "ways"] (spRule K) := by
  have GD : FnOk P w K mg base CX0 1 fD fdD ["pool", "many"] spDraw := ok_draw FD N
  have GP : FnOk P w K mg base CX0 2 fP fdP ["pool", "some"] (spPick K) := ok_pick FP FD gD bD N
  refine F.ok scRule (fun vs H Q E h => ?_) (fun cdv A outer s H vs Q E hr h => ?_)
  · obtain ⟨q, p, zs, n, ka, wa, rfl, _⟩ := h
    rfl
  · obtain ⟨q, p, zs, n, ka, wa, rfl, hP, ka1, ka3, wa1, wa12, kk⟩ := h
    have drawE : ∀ {e : Expr}, True := trivial
    refine ⟨_, pss_cons (ps_set (i := 3) scRule.nd rfl (.inl rfl) (pe_slice sl_list (pe_slice sl_list (pe_lst (pa_cons pe_str (pa_cons pe_str (pa_cons pe_str (pa_cons pe_str pa_nil))))) (po_some (pe_call GD (hr.mono (by decide)) rfl gD FD.kp bD .nil pass0 (pa_cons (pv 0) (pa_cons pe_int pa_nil)))) po_none)
          po_none (po_some (pe_op op_add pe_int (pe_call GD (hr.mono (by decide)) rfl gD FD.kp bD .nil pass0 (pa_cons (pv 0) (pa_cons (pv 1) pa_nil)))))))
      (pss_cons (ps_set (i := 4) scRule.nd rfl (.inl rfl) (pe_lst (pa_cons (pe_lst (pa_cons (pe_tup (pa_cons pe_str (pa_cons pe_bl pa_nil))) pa_nil)) (pa_cons (pe_lst (pa_cons (pe_tup (pa_cons pe_str (pa_cons pe_bl pa_nil))) (pa_cons (pe_tup (pa_cons pe_str (pa_cons pe_bl pa_nil))) pa_nil))) (pa_cons (pe_lst (pa_cons (pe_tup (pa_cons pe_str (pa_cons pe_bl pa_nil))) (pa_cons (pe_tup (pa_cons pe_str (pa_cons pe_bl pa_nil))) pa_nil))) (pa_cons (pe_lst (pa_cons (pe_tup (pa_cons pe_str (pa_cons pe_bl pa_nil))) (pa_cons (pe_tup (pa_cons pe_str (pa_cons pe_bl pa_nil))) (pa_cons (pe_tup (pa_cons pe_str (pa_cons pe_bl pa_nil))) pa_nil)))) (pa_cons (pe_lst (pa_cons (pe_tup (pa_cons pe_str (pa_cons pe_bl pa_nil))) pa_nil)) pa_nil)))))))
      (pss_cons (ps_set (i := 5) scRule.nd rfl (.inl rfl) (pe_callTy (call_dictP rfl) rfl T.dict PyProof.Rows.boot_dict (pa_cons (pe_call GP hr rfl gP FP.kp bP .nil pass0 (pa_cons (pv 0) (pa_cons (pv 4) pa_nil))) pa_nil)))
      (pss_cons (ps_set (i := 6) scRule.nd rfl (.inr rfl) (pe_lst (pa_cons pe_str (pa_cons pe_str (pa_cons pe_str (pa_cons pe_str (pa_cons pe_str (pa_cons pe_str (pa_cons pe_str pa_nil)))))))))
      (pss_cons (ps_set (i := 7) scRule.nd rfl (.inl rfl) (pe_lst pa_nil))
      (pss_cons (ps_for PassesOwn.never rfl (pi_range1 rfl N.rng (pa_cons (pe_op op_add pe_int (pe_call GD (hr.mono (by decide)) rfl gD FD.kp bD .nil pass0 (pa_cons (pv 0) (pa_cons (pv 2) pa_nil)))) pa_nil)) (pg_name (i := 8) scRule.nd rfl (.inl rfl))
        (pss_cons (ps_set (i := 9) scRule.nd rfl (.inl rfl) (pe_tup (pa_cons (pe_call GP hr rfl gP FP.kp bP .nil pass0 (pa_cons (pv 0) (pa_cons (pv 3) pa_nil))) (pa_cons (pe_call GP hr rfl gP FP.kp bP .nil pass0 (pa_cons (pv 0) (pa_cons (pv 3) pa_nil)))
            (pa_cons (pe_callTy call_tuple_of rfl T.tup PyProof.Rows.boot_tuple (pa_cons (pe_lock (pe_lc (own := [("one", 10)]) (g := gName 10) (tt := tYes) rfl scRule.nd (pi_keys (pv 5)) (blkOk_by (N := nRule) (sc := defScope sRule) (by decide +kernel))
              (fun _ _ _ _ _ => pg_name (i := 10) scRule.nd rfl (.inl rfl)) (fun _ _ _ _ _ => pts_nil) (fun _ _ _ _ _ => pe_call GP hr rfl gP FP.kp bP .nil pass0 (pa_cons (pv 0) (pa_cons (pv 6) pa_nil))))) pa_nil)) pa_nil)))))
        (pss_one (ps_if (pt_cmpR (op_notInD (lt65 hr)) (pv 9) (pv 7) rfl) (pss_one (ps_expr (pe_bm PySem.F.plainAttrs_list PySem.F.slot_list_append PySem.F.type_list_append mt_append (pv 7) (pa_cons (pv 9) pa_nil)))) pss_nil))))
      (pss_one (ps_ret (pe_disp (pps_cons pe_str (pv 3) (pps_cons pe_str (pv 5) (pps_cons pe_str (pv 7)
        (pps_cons pe_str (pe_ix ix_list (pe_lst (pa_cons pe_non (pa_cons pe_non (pa_cons pe_int (pa_cons pe_int (pa_cons pe_int pa_nil)))))) (pe_call GD (hr.mono (by decide)) rfl gD FD.kp bD .nil pass0 (pa_cons (pv 0) (pa_cons pe_int pa_nil))) (fun _ _ => rfl))
        (pps_cons pe_str (pe_ix ix_list (pe_lst (pa_cons pe_non (pa_cons pe_non (pa_cons pe_int (pa_cons pe_int (pa_cons pe_int (pa_cons pe_int pa_nil))))))) (pe_call GD (hr.mono (by decide)) rfl gD FD.kp bD .nil pass0 (pa_cons (pv 0) (pa_cons pe_int pa_nil))) (fun _ _ => rfl))
        (pps_cons pe_str (pe_cmp (pc_eqI (pe_call GD (hr.mono (by decide)) rfl gD FD.kp bD .nil pass0 (pa_cons (pv 0) (pa_cons pe_int pa_nil))) pe_int) rfl) pps_nil)))))) rfl rfl (fun z => by cases z) (by decide))))))))), ?_⟩
    have sm3 : ∀ {k : Nat}, k ≤ 1000 → k ≤ sizeLine := fun {k} hk => Nat.le_trans hk (by rw [sizeLine_eq]; decide)
    have qn : ∀ {H' : Hp} {a : Addr} {n' : Nat}, PoolAt H' q p zs n' → H' a = none → a ≠ q := fun {H' a n'} hp hn z => by rw [z, hp.2.1] at hn; cases hn
    -- names
    refine ⟨sm3 (by simp), fun a1 h1 => ?_⟩
    have hP1 : PoolAt (upd H a1 (.lst L4)) q p zs n := hP.off (same_put h1)
    refine ⟨_, rfl, q, p, zs, n, 2, rfl, hP1, by decide, by decide, fun c c0 c1 => ?_⟩
    have n1 := qn hP h1
    have e1 : drawn (upd H a1 (.lst L4)) q p n a1 = some (.lst L4) := by show upd _ q _ a1 = _; rw [upd_ne n1, upd_same]
    have hP2 := hP1.drawn
    have o2 : Off q H (drawn (upd H a1 (.lst L4)) q p n) := (Off.of (same_put h1)).trans off_drawn
    generalize drawn (upd H a1 (.lst L4)) q p n = H2 at e1 hP2 o2 ⊢
    refine ⟨c, rfl, a1, L4, rfl, SqL.of e1, fun a2 h2 => ?_⟩
    have n2 := qn hP2 h2
    have hP3 := hP2.off (same_put (u := .lst (cutV L4 (some c) none)) h2)
    refine ⟨_, rfl, _, rfl, q, p, zs, n + 1, ka, rfl, hP3, by omega, by omega, fun e e0 e1' => ?_⟩
    have e2 : drawn (upd H2 a2 (.lst (cutV L4 (some c) none))) q p (n + 1) a2 = some (.lst (cutV L4 (some c) none)) := by show upd _ q _ a2 = _; rw [upd_ne n2, upd_same]
    have hP4 := hP3.drawn
    have o4 : Off q H (drawn (upd H2 a2 (.lst (cutV L4 (some c) none))) q p (n + 1)) := (o2.trans (Off.of (same_put h2))).trans off_drawn
    generalize drawn (upd H2 a2 (.lst (cutV L4 (some c) none))) q p (n + 1) = H4 at e2 hP4 o4 ⊢
    refine ⟨_, _, rfl, rfl, _, rfl, a2, _, rfl, SqL.of e2, fun nm hnm => ?_⟩
    obtain ⟨l, el, lk, lin⟩ := names_cut c0 c1 e0 (by omega : e < 3)
    rw [el]
    have nnm := qn hP4 hnm
    have eG : upd H4 nm (.lst (l.map V.str)) nm = some (.lst (l.map V.str)) := upd_same
    have hPG := hP4.off (same_put (u := .lst (l.map V.str)) hnm)
    have oG : Off q H (upd H4 nm (.lst (l.map V.str))) := o4.trans (Off.of (same_put hnm))
    generalize upd H4 nm (.lst (l.map V.str)) = G0 at eG hPG oG ⊢
    refine ⟨sm3 (by simp), fun t0_0 ht0_0 => ?_⟩
    have sG1 : Same G0 (upd G0 t0_0 (.tup [.str "age", .bl true])) := same_put ht0_0
    have ft0_0 : Dp K (upd G0 t0_0 (.tup [.str "age", .bl true])) (.ref t0_0) (.tuple [.str "age", .bool true]) := .tup (SqT.of upd_same) (.cons (.str _) (.cons (.bl _) .nil))
    generalize (upd G0 t0_0 (.tup [.str "age", .bl true])) = G1 at sG1 ft0_0 ⊢
    refine ⟨sm3 (by simp), fun l0 hl0 => ?_⟩
    have sG2 : Same G1 (upd G1 l0 (.lst [.ref t0_0])) := same_put hl0
    have el0 : (upd G1 l0 (.lst [.ref t0_0])) l0 = some (.lst [.ref t0_0]) := upd_same
    have dl0 : DpAll K (upd G1 l0 (.lst [.ref t0_0])) [.ref t0_0] (mpd (menuM.getD 0 [])) := (.cons (dp_same sG2 _ _ ft0_0) .nil)
    generalize (upd G1 l0 (.lst [.ref t0_0])) = G2 at sG2 el0 dl0 ⊢
    have S0 := (sG1.trans sG2)
    refine ⟨sm3 (by simp), fun t1_0 ht1_0 => ?_⟩
    have sG3 : Same G2 (upd G2 t1_0 (.tup [.str "age", .bl true])) := same_put ht1_0
    have ft1_0 : Dp K (upd G2 t1_0 (.tup [.str "age", .bl true])) (.ref t1_0) (.tuple [.str "age", .bool true]) := .tup (SqT.of upd_same) (.cons (.str _) (.cons (.bl _) .nil))
    generalize (upd G2 t1_0 (.tup [.str "age", .bl true])) = G3 at sG3 ft1_0 ⊢
    refine ⟨sm3 (by simp), fun t1_1 ht1_1 => ?_⟩
    have sG4 : Same G3 (upd G3 t1_1 (.tup [.str "use", .bl false])) := same_put ht1_1
    have ft1_1 : Dp K (upd G3 t1_1 (.tup [.str "use", .bl false])) (.ref t1_1) (.tuple [.str "use", .bool false]) := .tup (SqT.of upd_same) (.cons (.str _) (.cons (.bl _) .nil))
    generalize (upd G3 t1_1 (.tup [.str "use", .bl false])) = G4 at sG4 ft1_1 ⊢
    have ft1_0 := dp_same sG4 _ _ ft1_0
    refine ⟨sm3 (by simp), fun l1 hl1 => ?_⟩
    have sG5 : Same G4 (upd G4 l1 (.lst [.ref t1_0, .ref t1_1])) := same_put hl1
    have el1 : (upd G4 l1 (.lst [.ref t1_0, .ref t1_1])) l1 = some (.lst [.ref t1_0, .ref t1_1]) := upd_same
    have dl1 : DpAll K (upd G4 l1 (.lst [.ref t1_0, .ref t1_1])) [.ref t1_0, .ref t1_1] (mpd (menuM.getD 1 [])) := (.cons (dp_same sG5 _ _ ft1_0) (.cons (dp_same sG5 _ _ ft1_1) .nil))
    generalize (upd G4 l1 (.lst [.ref t1_0, .ref t1_1])) = G5 at sG5 el1 dl1 ⊢
    have S1 := ((sG3.trans sG4).trans sG5)
    have el0 := S1 _ _ el0
    have dl0 := dps_same S1 _ _ dl0
    refine ⟨sm3 (by simp), fun t2_0 ht2_0 => ?_⟩
    have sG6 : Same G5 (upd G5 t2_0 (.tup [.str "size", .bl true])) := same_put ht2_0
    have ft2_0 : Dp K (upd G5 t2_0 (.tup [.str "size", .bl true])) (.ref t2_0) (.tuple [.str "size", .bool true]) := .tup (SqT.of upd_same) (.cons (.str _) (.cons (.bl _) .nil))
    generalize (upd G5 t2_0 (.tup [.str "size", .bl true])) = G6 at sG6 ft2_0 ⊢
    refine ⟨sm3 (by simp), fun t2_1 ht2_1 => ?_⟩
    have sG7 : Same G6 (upd G6 t2_1 (.tup [.str "age", .bl true])) := same_put ht2_1
    have ft2_1 : Dp K (upd G6 t2_1 (.tup [.str "age", .bl true])) (.ref t2_1) (.tuple [.str "age", .bool true]) := .tup (SqT.of upd_same) (.cons (.str _) (.cons (.bl _) .nil))
    generalize (upd G6 t2_1 (.tup [.str "age", .bl true])) = G7 at sG7 ft2_1 ⊢
    have ft2_0 := dp_same sG7 _ _ ft2_0
    refine ⟨sm3 (by simp), fun l2 hl2 => ?_⟩
    have sG8 : Same G7 (upd G7 l2 (.lst [.ref t2_0, .ref t2_1])) := same_put hl2
    have el2 : (upd G7 l2 (.lst [.ref t2_0, .ref t2_1])) l2 = some (.lst [.ref t2_0, .ref t2_1]) := upd_same
    have dl2 : DpAll K (upd G7 l2 (.lst [.ref t2_0, .ref t2_1])) [.ref t2_0, .ref t2_1] (mpd (menuM.getD 2 [])) := (.cons (dp_same sG8 _ _ ft2_0) (.cons (dp_same sG8 _ _ ft2_1) .nil))
    generalize (upd G7 l2 (.lst [.ref t2_0, .ref t2_1])) = G8 at sG8 el2 dl2 ⊢
    have S2 := ((sG6.trans sG7).trans sG8)
    have el0 := S2 _ _ el0
    have dl0 := dps_same S2 _ _ dl0
    have el1 := S2 _ _ el1
    have dl1 := dps_same S2 _ _ dl1
    refine ⟨sm3 (by simp), fun t3_0 ht3_0 => ?_⟩
    have sG9 : Same G8 (upd G8 t3_0 (.tup [.str "size", .bl true])) := same_put ht3_0
    have ft3_0 : Dp K (upd G8 t3_0 (.tup [.str "size", .bl true])) (.ref t3_0) (.tuple [.str "size", .bool true]) := .tup (SqT.of upd_same) (.cons (.str _) (.cons (.bl _) .nil))
    generalize (upd G8 t3_0 (.tup [.str "size", .bl true])) = G9 at sG9 ft3_0 ⊢
    refine ⟨sm3 (by simp), fun t3_1 ht3_1 => ?_⟩
    have sG10 : Same G9 (upd G9 t3_1 (.tup [.str "age", .bl true])) := same_put ht3_1
    have ft3_1 : Dp K (upd G9 t3_1 (.tup [.str "age", .bl true])) (.ref t3_1) (.tuple [.str "age", .bool true]) := .tup (SqT.of upd_same) (.cons (.str _) (.cons (.bl _) .nil))
    generalize (upd G9 t3_1 (.tup [.str "age", .bl true])) = G10 at sG10 ft3_1 ⊢
    have ft3_0 := dp_same sG10 _ _ ft3_0
    refine ⟨sm3 (by simp), fun t3_2 ht3_2 => ?_⟩
    have sG11 : Same G10 (upd G10 t3_2 (.tup [.str "use", .bl false])) := same_put ht3_2
    have ft3_2 : Dp K (upd G10 t3_2 (.tup [.str "use", .bl false])) (.ref t3_2) (.tuple [.str "use", .bool false]) := .tup (SqT.of upd_same) (.cons (.str _) (.cons (.bl _) .nil))
    generalize (upd G10 t3_2 (.tup [.str "use", .bl false])) = G11 at sG11 ft3_2 ⊢
    have ft3_0 := dp_same sG11 _ _ ft3_0
    have ft3_1 := dp_same sG11 _ _ ft3_1
    refine ⟨sm3 (by simp), fun l3 hl3 => ?_⟩
    have sG12 : Same G11 (upd G11 l3 (.lst [.ref t3_0, .ref t3_1, .ref t3_2])) := same_put hl3
    have el3 : (upd G11 l3 (.lst [.ref t3_0, .ref t3_1, .ref t3_2])) l3 = some (.lst [.ref t3_0, .ref t3_1, .ref t3_2]) := upd_same
    have dl3 : DpAll K (upd G11 l3 (.lst [.ref t3_0, .ref t3_1, .ref t3_2])) [.ref t3_0, .ref t3_1, .ref t3_2] (mpd (menuM.getD 3 [])) := (.cons (dp_same sG12 _ _ ft3_0) (.cons (dp_same sG12 _ _ ft3_1) (.cons (dp_same sG12 _ _ ft3_2) .nil)))
    generalize (upd G11 l3 (.lst [.ref t3_0, .ref t3_1, .ref t3_2])) = G12 at sG12 el3 dl3 ⊢
    have S3 := (((sG9.trans sG10).trans sG11).trans sG12)
    have el0 := S3 _ _ el0
    have dl0 := dps_same S3 _ _ dl0
    have el1 := S3 _ _ el1
    have dl1 := dps_same S3 _ _ dl1
    have el2 := S3 _ _ el2
    have dl2 := dps_same S3 _ _ dl2
    refine ⟨sm3 (by simp), fun t4_0 ht4_0 => ?_⟩
    have sG13 : Same G12 (upd G12 t4_0 (.tup [.str "use", .bl false])) := same_put ht4_0
    have ft4_0 : Dp K (upd G12 t4_0 (.tup [.str "use", .bl false])) (.ref t4_0) (.tuple [.str "use", .bool false]) := .tup (SqT.of upd_same) (.cons (.str _) (.cons (.bl _) .nil))
    generalize (upd G12 t4_0 (.tup [.str "use", .bl false])) = G13 at sG13 ft4_0 ⊢
    refine ⟨sm3 (by simp), fun l4 hl4 => ?_⟩
    have sG14 : Same G13 (upd G13 l4 (.lst [.ref t4_0])) := same_put hl4
    have el4 : (upd G13 l4 (.lst [.ref t4_0])) l4 = some (.lst [.ref t4_0]) := upd_same
    have dl4 : DpAll K (upd G13 l4 (.lst [.ref t4_0])) [.ref t4_0] (mpd (menuM.getD 4 [])) := (.cons (dp_same sG14 _ _ ft4_0) .nil)
    generalize (upd G13 l4 (.lst [.ref t4_0])) = G14 at sG14 el4 dl4 ⊢
    have S4 := (sG13.trans sG14)
    have el0 := S4 _ _ el0
    have dl0 := dps_same S4 _ _ dl0
    have el1 := S4 _ _ el1
    have dl1 := dps_same S4 _ _ dl1
    have el2 := S4 _ _ el2
    have dl2 := dps_same S4 _ _ dl2
    have el3 := S4 _ _ el3
    have dl3 := dps_same S4 _ _ dl3
    refine ⟨sm3 (by simp), fun me hme => ?_⟩
    have s99 : Same G14 (upd G14 me (.lst [.ref l0, .ref l1, .ref l2, .ref l3, .ref l4])) := same_put hme
    have eme : (upd G14 me (.lst [.ref l0, .ref l1, .ref l2, .ref l3, .ref l4])) me = some (.lst [.ref l0, .ref l1, .ref l2, .ref l3, .ref l4]) := upd_same
    generalize (upd G14 me (.lst [.ref l0, .ref l1, .ref l2, .ref l3, .ref l4])) = G99 at s99 eme ⊢
    have el0 := s99 _ _ el0
    have dl0 := dps_same s99 _ _ dl0
    have el1 := s99 _ _ el1
    have dl1 := dps_same s99 _ _ dl1
    have el2 := s99 _ _ el2
    have dl2 := dps_same s99 _ _ dl2
    have el3 := s99 _ _ el3
    have dl3 := dps_same s99 _ _ dl3
    have el4 := s99 _ _ el4
    have dl4 := dps_same s99 _ _ dl4
    have SG : Same G0 G99 := (((((S0.trans S1).trans S2).trans S3).trans S4).trans s99)
    have hPM := hPG.off SG
    have oM : Off q H G99 := oG.trans (Off.of SG)
    have eN := SG _ _ eG
    have off_list : ∀ {a : Addr} {ys : List V}, G99 a = some (.lst ys) → ys ≠ [.ref p, .int ((n + 1 + 1 : Nat) : Int)] → a ≠ q := fun {a ys} e ne z => by
      rw [z, hPM.2.1] at e
      exact ne (HO.lst.inj (Option.some.inj e)).symm
    have nme : me ≠ q := off_list eme (by intro z; cases z)
    have hmenu : ∀ (j : Nat) x, [V.ref l0, .ref l1, .ref l2, .ref l3, .ref l4][j]? = some x → ∃ ms ∈ menuM, ∃ a ys, x = V.ref a ∧ a ≠ q ∧ G99 a = some (.lst ys) ∧ DpAll K G99 ys (mpd ms) := fun j x hx => by
      match j, hx with
      | 0, hx => exact ⟨_, by decide +kernel, l0, _, (Option.some.inj hx).symm, off_list el0 (by intro z; cases z), el0, dl0⟩
      | 1, hx => exact ⟨_, by decide +kernel, l1, _, (Option.some.inj hx).symm, off_list el1 (by intro z; cases z), el1, dl1⟩
      | 2, hx => exact ⟨_, by decide +kernel, l2, _, (Option.some.inj hx).symm, off_list el2 (by intro z; cases z), el2, dl2⟩
      | 3, hx => exact ⟨_, by decide +kernel, l3, _, (Option.some.inj hx).symm, off_list el3 (by intro z; cases z), el3, dl3⟩
      | 4, hx => exact ⟨_, by decide +kernel, l4, _, (Option.some.inj hx).symm, off_list el4 (by intro z; cases z), el4, dl4⟩
      | j + 5, hx => simp at hx
    -- measures
    refine ⟨_, rfl, _, rfl, q, p, me, zs, n + 1 + 1, _, rfl, hPM, SqL.of eme, nme, by simp, by simp, fun j x hx => ?_⟩
    obtain ⟨ms, hms, am, ys, rfl, nam, eam, dam⟩ := hmenu j x hx
    obtain ⟨mm, mnd, m1, m3⟩ := menu_good ms hms
    have kd : ∀ b o, b ≠ q → G99 b = some o → drawn G99 q p (n + 1 + 1) b = some o := fun b o hb e => by show upd _ q _ b = _; rw [upd_ne hb]; exact e
    have eam5 := kd _ _ nam eam
    have dam5 := dps_off hPM.2.1 kd _ _ (noLs_mpd ms) dam
    have eN5 := kd _ _ nnm eN
    have hP5 := hPM.drawn
    have o5 := oM.trans (off_drawn (H := G99) (q := q) (p := p) (n := n + 1 + 1))
    generalize drawn G99 q p (n + 1 + 1) = H5 at eam5 dam5 eN5 hP5 o5 ⊢
    obtain ⟨ps, rfl, hps⟩ := pairs_of dam5
    refine ⟨am, ps, mkv ms, rfl, SqL.of eam5, hps, fun mz hmz => ?_⟩
    rw [merge_all mnd]
    have nmz := qn hP5 hmz
    have emz : upd H5 mz (.dK (mkv ms)) mz = some (.dK (mkv ms)) := upd_same
    have eN6 := (same_put (u := .dK (mkv ms)) hmz) _ _ eN5
    have hP6 := hP5.off (same_put (u := .dK (mkv ms)) hmz)
    have o6 := o5.trans (Off.of (same_put (u := .dK (mkv ms)) hmz))
    generalize upd H5 mz (.dK (mkv ms)) = H6 at emz eN6 hP6 o6 ⊢
    -- signs, found
    refine ⟨sm3 (by simp), fun sg hsg => ?_⟩
    have nsg := qn hP6 hsg
    have esg : upd H6 sg (.lst (s7.map V.str)) sg = some (.lst (s7.map V.str)) := upd_same
    have eN7 := (same_put (u := .lst (s7.map V.str)) hsg) _ _ eN6
    have emz7 := (same_put (u := .lst (s7.map V.str)) hsg) _ _ emz
    have hP7 := hP6.off (same_put (u := .lst (s7.map V.str)) hsg)
    have o7 := o6.trans (Off.of (same_put (u := .lst (s7.map V.str)) hsg))
    show tSeq _ _ _ _ (upd H6 sg (.lst (s7.map V.str)))
    generalize upd H6 sg (.lst (s7.map V.str)) = H7 at esg eN7 emz7 hP7 o7 ⊢
    refine ⟨sm3 (by simp), fun fo hfo => ?_⟩
    have nfo := qn hP7 hfo
    have nfp : fo ≠ p := Ne.symm (ne_of_none hP7.2.2.1 hfo)
    have hHfo : H fo = none := by
      cases z : H fo with
      | none => rfl
      | some v =>
        have e := o7 _ _ nfo z
        rw [hfo] at e
        cases e
    have efo : upd H7 fo (.lst []) fo = some (.lst []) := upd_same
    have eN8 := (same_put (u := .lst []) hfo) _ _ eN7
    have emz8 := (same_put (u := .lst []) hfo) _ _ emz7
    have esg8 := (same_put (u := .lst []) hfo) _ _ esg
    have hP8 := hP7.off (same_put (u := .lst []) hfo)
    have o8 := o7.trans (Off.of (same_put (u := .lst []) hfo))
    have nf1 : nm ≠ fo := ne_of_none eN7 hfo
    have nf2 : mz ≠ fo := ne_of_none emz7 hfo
    have nf3 : sg ≠ fo := ne_of_none esg hfo
    generalize upd H7 fo (.lst []) = H8 at efo eN8 emz8 esg8 hP8 o8 ⊢
    refine ⟨_, rfl, _, rfl, q, p, zs, n + 1 + 1 + 1, wa, rfl, hP8, by omega, by omega, fun u u0 u1 => ?_⟩
    have kd8 : ∀ b o, b ≠ q → H8 b = some o → drawn H8 q p (n + 1 + 1 + 1) b = some o := fun b o hb e => by show upd _ q _ b = _; rw [upd_ne hb]; exact e
    have efo9 := kd8 _ _ nfo efo
    have eN9 := kd8 _ _ nnm eN8
    have emz9 := kd8 _ _ nmz emz8
    have esg9 := kd8 _ _ nsg esg8
    have hP9 := hP8.drawn
    have o9 := o8.trans (off_drawn (H := H8) (q := q) (p := p) (n := n + 1 + 1 + 1))
    generalize drawn H8 q p (n + 1 + 1 + 1) = H9 at efo9 eN9 emz9 esg9 hP9 o9 ⊢
    refine ⟨_, _, rfl, rfl, 1 + u, rfl, by omega, by omega, ?_⟩
    have ly : Lay l := fun y hy => n4_lay y (lin y hy)
    have lw := kinds_words lk
    rw [names_strD] at lw
    have l1' : 1 ≤ l.length := by
      have e' : ((decide (1 ≤ (l.map PyData.str).length) && decide ((l.map PyData.str).length ≤ 5)) && _) = true := lk
      rw [Bool.and_eq_true, Bool.and_eq_true, decide_eq_true_eq, List.length_map] at e'
      exact e'.1.1
    have lne : l.map V.str ≠ [] := fun z => by
      have e := congrArg List.length z
      rw [List.length_map] at e
      have : l.length = 0 := e
      omega
    have llen : (l.map V.str).length ≤ 500 := by
      rw [List.length_map]
      have := lw.2.2
      omega
    have inl : ∀ (j : Nat) x, (l.map V.str)[j]? = some x → ∃ y ∈ l, x = .str y := fun j x hx => by
      rw [List.getElem?_map] at hx
      obtain ⟨y, hy, rfl⟩ := Option.map_eq_some_iff.mp hx
      exact ⟨y, List.mem_of_getElem? hy, rfl⟩
    refine for_range (lo := 0) (Pv := fun i σ H' => ∃ (n' : Nat) (ws : List V) (ds : List PyData) (v8 v9 v10 : Option V), σ = [some (.ref q), some (.int ka), some (.int wa), some (.ref nm), some (.ref me), some (.ref mz), some (.ref sg), some (.ref fo), v8, v9, v10] ∧
      Off q H H' ∧ PoolAt H' q p zs n' ∧ H' nm = some (.lst (l.map V.str)) ∧ H' mz = some (.dK (mkv ms)) ∧ H' sg = some (.lst (s7.map V.str)) ∧ H' fo = some (.lst ws) ∧ DpAll K H' ws ds ∧ ds.all (wayD l ms.length) = true ∧ (ds.map nk).Nodup ∧ ds.length ≤ i ∧ (1 ≤ i → 1 ≤ ds.length)) ?_ ?_ ?_
    · exact ⟨_, [], [], none, none, none, rfl, o9, hP9, eN9, emz9, esg9, efo9, .nil, rfl, List.nodup_nil, Nat.le_refl _, fun z => absurd z (by decide)⟩
    · rintro i σ H' hi ⟨n', ws, ds, v8, v9, v10, rfl, o, hp, hnm', hmz', hsg', hfo', hda, hw, hnd, hle, hge⟩
      have noq : ∀ {a : Addr} {o : HO} {HH : Hp} {nn : Nat}, PoolAt HH q p zs nn → HH a = some o → (∀ ys, o ≠ .lst ys) → a ≠ q ∧ a ≠ p := fun {a o HH nn} hP e ne => ⟨fun z => by rw [z, hP.2.1] at e; exact ne _ (Option.some.inj e).symm, fun z => by rw [z, hP.2.2.1] at e; exact ne _ (Option.some.inj e).symm⟩
      obtain ⟨nmz1, nmz2⟩ := noq hp hmz' (fun ys z => by cases z)
      refine ⟨_, rfl, _, rfl, q, p, nm, zs, n', _, rfl, hp, SqL.of hnm', nnm, lne, llen, fun j1 x1 hx1 => ?_⟩
      obtain ⟨k1, hk1, rfl⟩ := inl j1 x1 hx1
      have a1 := kd_drawn (p := p) (n := n') _ _ nnm hnm'
      have a2 := kd_drawn (p := p) (n := n') _ _ nmz hmz'
      have a3 := kd_drawn (p := p) (n := n') _ _ nsg hsg'
      have a4 := kd_drawn (p := p) (n := n') _ _ nfo hfo'
      have a5 := dps_off hp.2.1 (kd_drawn (p := p) (n := n')) _ _ (ways_noL hw) hda
      have a6 := hp.drawn
      have a7 : Off q H' (drawn H' q p n') := off_drawn
      generalize drawn H' q p n' = K1 at a1 a2 a3 a4 a5 a6 a7 ⊢
      refine ⟨_, rfl, _, rfl, q, p, nm, zs, n' + 1, _, rfl, a6, SqL.of a1, nnm, lne, llen, fun j2 x2 hx2 => ?_⟩
      obtain ⟨k2, hk2, rfl⟩ := inl j2 x2 hx2
      have b1 := kd_drawn (p := p) (n := n' + 1) _ _ nnm a1
      have b2 := kd_drawn (p := p) (n := n' + 1) _ _ nmz a2
      have b3 := kd_drawn (p := p) (n := n' + 1) _ _ nsg a3
      have b4 := kd_drawn (p := p) (n := n' + 1) _ _ nfo a4
      have b5 := dps_off a6.2.1 (kd_drawn (p := p) (n := n' + 1)) _ _ (ways_noL hw) a5
      have b6 := a6.drawn
      have b7 : Off q H' (drawn K1 q p (n' + 1)) := a7.trans off_drawn
      generalize drawn K1 q p (n' + 1) = K2 at b1 b2 b3 b4 b5 b6 b7 ⊢
      refine ⟨mz, _, b2, trivial, fun od => ⟨_, rfl, mz, od, rfl, .inl ⟨mkv ms, upd_same, fun D hD => ?_⟩⟩⟩
      have pL : PoolAt (upd K2 mz (.frz od (.dK (mkv ms)))) q p zs (n' + 1 + 1) := b6.put nmz1 nmz2
      have sL : upd K2 mz (.frz od (.dK (mkv ms))) sg = some (.lst (s7.map V.str)) := by
        rw [upd_ne (ne_of b3 b2 (by intro z; cases z))]
        exact b3
      have mL : upd K2 mz (.frz od (.dK (mkv ms))) mz = some (.frz od (.dK (mkv ms))) := upd_same
      have nD := qn pL hD
      refine lc_gen (J := Itk mz od (mkv ms)) ms.length (fun i HH => Off q (upd K2 mz (.frz od (.dK (mkv ms)))) HH ∧ (∃ n'', PoolAt HH q p zs n'') ∧ ∃ ss : List Str, ss.length = i ∧ (∀ y ∈ ss, y ∈ signL) ∧ HH D = some (.lst (ss.map V.str)))
        ⟨Off.of (same_put hD), ⟨_, pL.off (same_put hD)⟩, [], rfl, (fun y hy => absurd hy List.not_mem_nil), upd_same⟩ (fun HH h => ⟨h.1 _ _ nmz1 mL, by rw [mkv_len]; exact Nat.le_refl _⟩) (fun i HH hlt h => ⟨h.1 _ _ nmz1 mL, by rw [mkv_len]; exact hlt⟩) ?_ ?_
      · rintro i x HH H2 hlt ⟨oo, ⟨n2, hp2⟩, ss, hl, hs, hDD⟩ ⟨rfl, kk2, v, hk, rfl⟩
        refine ⟨rfl, _, rfl, _, rfl, q, p, sg, zs, n2, _, rfl, hp2, SqL.of (oo _ _ nsg sL), nsg, by simp, by simp, fun j y hy => ?_⟩
        have hy' : ∃ z ∈ s7, y = V.str z := by
          rw [List.getElem?_map] at hy
          obtain ⟨z, hz, rfl⟩ := Option.map_eq_some_iff.mp hy
          exact ⟨z, List.mem_of_getElem? hz, rfl⟩
        obtain ⟨z, hz, rfl⟩ := hy'
        refine ⟨ss.map V.str, kd_drawn _ _ nD hDD, ?_, ?_, ⟨n2 + 1, ?_⟩, ss ++ [z], ?_, fun y hy => ?_, ?_⟩
        · rw [List.length_map, hl]
          exact Nat.lt_of_lt_of_le (by omega : i < 1000) (sm3 (Nat.le_refl 1000))
        · exact fun b o hb e => by
            rw [upd_ne (ne_of_none e hD)]
            exact kd_drawn _ _ hb (oo b o hb e)
        · exact hp2.drawn.put nD (Ne.symm (ne_of_none pL.2.2.1 hD))
        · rw [List.length_append, hl]
          rfl
        · rcases List.mem_append.mp hy with hy | hy
          · exact hs y hy
          · rw [List.mem_singleton.mp hy]
            exact s7_signs z hz
        · rw [upd_same, List.map_append]
          rfl
      · rintro HH ⟨oo, ⟨n2, hp2⟩, ss, hl, hs, hDD⟩
        have mH := oo _ _ nmz1 mL
        have nDm : D ≠ mz := ne_of hDD mH (by intro z; cases z)
        refine ⟨mH, ?_⟩
        have oU : Off q K2 (upd HH mz (.dK (mkv ms))) := off_unlock b2 oo
        have pU : PoolAt (upd HH mz (.dK (mkv ms))) q p zs n2 := hp2.put nmz1 nmz2
        have dU : upd HH mz (.dK (mkv ms)) D = some (.lst (ss.map V.str)) := by rw [upd_ne nDm]; exact hDD
        generalize upd HH mz (.dK (mkv ms)) = KU at oU pU dU ⊢
        refine ⟨D, _, rfl, .inl ⟨SqL.of dU, fun tq htq => ?_⟩⟩
        refine ⟨sm3 (by simp), fun wq hwq => ?_⟩
        have sZ : Same KU (upd (upd KU tq (.tup (ss.map V.str))) wq (.tup [.str k1, .str k2, .ref tq])) := (same_put htq).trans (same_put hwq)
        have eT : upd (upd KU tq (.tup (ss.map V.str))) wq (.tup [.str k1, .str k2, .ref tq]) tq = some (.tup (ss.map V.str)) := (same_put hwq) _ _ upd_same
        have eW : upd (upd KU tq (.tup (ss.map V.str))) wq (.tup [.str k1, .str k2, .ref tq]) wq = some (.tup [.str k1, .str k2, .ref tq]) := upd_same
        generalize upd (upd KU tq (.tup (ss.map V.str))) wq (.tup [.str k1, .str k2, .ref tq]) = Z at sZ eT eW ⊢
        have oZ : Off q K2 Z := oU.trans (Off.of sZ)
        have pZ := pU.off sZ
        have z1 := oZ _ _ nnm b1
        have z2 := oZ _ _ nmz b2
        have z3 := oZ _ _ nsg b3
        have z4 := oZ _ _ nfo b4
        have z5 := dps_off b6.2.1 oZ _ _ (ways_noL hw) b5
        have dW : Dp K Z (.ref wq) (.tuple [.str k1, .str k2, .tuple (ss.map PyData.str)]) := .tup (SqT.of eW) (.cons (.str k1) (.cons (.str k2) (.cons (.tup (SqT.of eT) (dps_of_strs ss)) .nil)))
        have wd : wayD l ms.length (.tuple [.str k1, .str k2, .tuple (ss.map PyData.str)]) = true := by
          have o1 : oneD l (.str k1) = true := by show l.contains k1 = true; rw [List.contains_eq_mem]; exact decide_eq_true hk1
          have o2 : oneD l (.str k2) = true := by show l.contains k2 = true; rw [List.contains_eq_mem]; exact decide_eq_true hk2
          rw [way_end o1 o2 (by rw [List.length_map]; exact hl)]
          refine List.all_eq_true.mpr fun d hd => ?_
          obtain ⟨y, hy, rfl⟩ := List.mem_map.mp hd
          show signL.contains y = true
          rw [List.contains_eq_mem]
          exact decide_eq_true (hs y hy)
        refine ⟨_, rfl, _, rfl, _, ds, dW, .lst (SqL.of z4) z5, way_shaped ly wd, ways_shaped ly hw, _, rfl, ?_⟩
        refine ite2 (fun hb => ?_) (fun hb => ?_)
        · have hb' : (ds.any fun z => PyData.eqv z (.tuple [.str k1, .str k2, .tuple (ss.map PyData.str)])) = false := by
            cases z : ds.any fun z => PyData.eqv z (.tuple [.str k1, .str k2, .tuple (ss.map PyData.str)]) with
            | false => rfl
            | true => rw [z] at hb; cases hb
          have fresh := way_fresh ly hw wd hb'
          have wl : ws.length = ds.length := (dps_len z5).symm
          refine ⟨_, rfl, .inl ⟨rfl, _, SqL.of z4⟩, _, rfl, fo, ws, _, rfl, rfl, z4, ?_, ?_⟩
          · rw [wl]
            have hi' : i < (1 + u).toNat := hi
            exact Nat.lt_of_lt_of_le (by omega : ds.length < 1000) (sm3 (Nat.le_refl 1000))
          · have kf : ∀ b o, b ≠ fo → Z b = some o → upd Z fo (.lst (ws ++ [.ref wq])) b = some o := fun b o hb e => by rw [upd_ne hb]; exact e
            refine ⟨n2, ws ++ [.ref wq], ds ++ [.tuple [.str k1, .str k2, .tuple (ss.map PyData.str)]], _, _, _, rfl, fun b v hb e => ?_, ?_, kf _ _ nf1 z1, kf _ _ nf2 z2, kf _ _ nf3 z3, upd_same, ?_, ?_, ?_, ?_, fun _ => ?_⟩
            · rw [upd_ne (ne_of_none e hHfo)]
              exact oZ b v hb (b7 b v hb (o b v hb e))
            · exact pZ.put nfo nfp
            · exact dps_snoc (dps_off z4 kf _ _ (ways_noL hw) z5) (dp_off z4 kf _ _ (noLs_at (i := 0) (ways_noL (ds := [.tuple [.str k1, .str k2, .tuple (ss.map PyData.str)]]) (by rw [List.all_cons, wd]; rfl)) rfl) dW)
            · rw [List.all_append, hw, List.all_cons, wd]
              rfl
            · rw [List.map_append]
              refine List.nodup_append.mpr ⟨hnd, List.nodup_cons.mpr ⟨List.not_mem_nil, List.nodup_nil⟩, fun a ha b hb => ?_⟩
              rw [List.mem_singleton.mp hb]
              exact fun z => fresh (z ▸ ha)
            · rw [List.length_append]
              exact Nat.succ_le_succ hle
            · rw [List.length_append]
              exact Nat.le_add_left _ _
        · have hb' : (ds.any fun z => PyData.eqv z (.tuple [.str k1, .str k2, .tuple (ss.map PyData.str)])) = true := by
            cases z : ds.any fun z => PyData.eqv z (.tuple [.str k1, .str k2, .tuple (ss.map PyData.str)]) with
            | true => rfl
            | false => exact absurd (by rw [z]; rfl) hb
          obtain ⟨dz, hdz, _⟩ := List.any_eq_true.mp hb'
          exact ⟨n2, ws, ds, _, _, _, rfl, (o.trans b7).trans oZ, pZ, z1, z2, z3, z4, z5, hw, hnd, Nat.le_succ_of_le hle, fun _ => List.length_pos_of_mem hdz⟩
    · rintro σ H' ⟨n', ws, ds, v8, v9, v10, rfl, o, hp, hnm', hmz', hsg', hfo', hda, hw, hnd, hle, hge⟩
      refine fun r hr' => ?_
      have nr := qn hp hr'
      have c1 := (same_put (u := .dK []) hr') _ _ hnm'
      have c2 := (same_put (u := .dK []) hr') _ _ hmz'
      have c4 := (same_put (u := .dK []) hr') _ _ hfo'
      have c5 := dps_same (same_put (u := .dK []) hr') _ _ hda
      have c6 := hp.off (same_put (u := .dK []) hr')
      have c7 : Off q H (upd H' r (.dK [])) := o.trans (Off.of (same_put hr'))
      have c8 : upd H' r (.dK []) r = some (.dK []) := upd_same
      have hHr : H r = none := by
        cases z : H r with
        | none => rfl
        | some v =>
          have e := o _ _ nr z
          rw [hr'] at e
          cases e
      generalize upd H' r (.dK []) = J1 at c1 c2 c4 c5 c6 c7 c8 ⊢
      refine ⟨_, rfl, _, rfl, _, rfl, ?_⟩
      -- deep
      refine ⟨sm3 (by simp), fun x1 hx1 => ?_⟩
      have nx1 := qn c6 hx1
      have sx1 : Same J1 (upd J1 x1 (.lst [.non, .non, .int 0, .int 1, .int 2])) := same_put hx1
      refine ⟨_, rfl, q, p, zs, n', 5, rfl, c6.off sx1, by decide, by decide, fun g g0 g1 => ?_⟩
      obtain ⟨dv, dd, ge, gd, gl⟩ := pick5 K g0 g1
      have x1' : drawn (upd J1 x1 (.lst [.non, .non, .int 0, .int 1, .int 2])) q p n' x1 = some (.lst [.non, .non, .int 0, .int 1, .int 2]) := kd_drawn _ _ nx1 upd_same
      have off1 : Off q J1 (drawn (upd J1 x1 (.lst [.non, .non, .int 0, .int 1, .int 2])) q p n') := (Off.of sx1).trans off_drawn
      have p1 := (c6.off sx1).drawn
      generalize drawn (upd J1 x1 (.lst [.non, .non, .int 0, .int 1, .int 2])) q p n' = J2 at x1' off1 p1 ⊢
      refine ⟨x1, _, g, dv, rfl, rfl, SqL.of x1', ge, ?_⟩
      -- tall
      refine ⟨sm3 (by simp), fun x2 hx2 => ?_⟩
      have nx2 := qn p1 hx2
      have sx2 : Same J2 (upd J2 x2 (.lst [.non, .non, .int 1, .int 2, .int 3, .int 5])) := same_put hx2
      refine ⟨_, rfl, q, p, zs, n' + 1, 6, rfl, p1.off sx2, by decide, by decide, fun t t0 t1 => ?_⟩
      obtain ⟨tv, td, te, tdp, tl⟩ := pick6 K t0 t1
      have x2' : drawn (upd J2 x2 (.lst [.non, .non, .int 1, .int 2, .int 3, .int 5])) q p (n' + 1) x2 = some (.lst [.non, .non, .int 1, .int 2, .int 3, .int 5]) := kd_drawn _ _ nx2 upd_same
      have off2 : Off q J1 (drawn (upd J2 x2 (.lst [.non, .non, .int 1, .int 2, .int 3, .int 5])) q p (n' + 1)) := (off1.trans (Off.of sx2)).trans off_drawn
      have p2 := (p1.off sx2).drawn
      generalize drawn (upd J2 x2 (.lst [.non, .non, .int 1, .int 2, .int 3, .int 5])) q p (n' + 1) = J3 at x2' off2 p2 ⊢
      refine ⟨x2, _, t, tv, rfl, rfl, SqL.of x2', te, ?_⟩
      -- free
      refine ⟨_, rfl, q, p, zs, n' + 1 + 1, 4, rfl, p2, by decide, by decide, fun fr fr0 fr1 => ?_⟩
      have off3 : Off q J1 (drawn J3 q p (n' + 1 + 1)) := off2.trans off_drawn
      have p3 := p2.drawn
      generalize drawn J3 q p (n' + 1 + 1) = J4 at off3 p3 ⊢
      refine ⟨_, _, rfl, rfl, ?_⟩
      have d8 := off3 _ _ nr c8
      refine ⟨d8, six nm mz fo dv tv (.bl (decide (fr = 0))), rfl, by show 6 ≤ 15; decide, ?_⟩
      have m6 : mergeK [] (six nm mz fo dv tv (.bl (decide (fr = 0)))) = six nm mz fo dv tv (.bl (decide (fr = 0))) := merge_all (by show ([.inr "kinds", .inr "measures", .inr "ways", .inr "deep", .inr "tall", .inr "free"] : List Key).Nodup; decide +kernel)
      rw [m6]
      have nfo' : fo ≠ r := ne_of c4 c8 (by intro z; cases z)
      have nnm' : nm ≠ r := ne_of c1 c8 (by intro z; cases z)
      have nmz' : mz ≠ r := fun z => by rw [z, hr'] at hmz'; cases hmz'
      have kr : ∀ b o, b ≠ r → J4 b = some o → upd J4 r (.dK (six nm mz fo dv tv (.bl (decide (fr = 0))))) b = some o := fun b' o hb e => by
        rw [upd_ne hb]
        exact e
      have j5 := dps_off c6.2.1 off3 _ _ (ways_noL hw) c5
      have f5 : DpAll K (upd J4 r (.dK (six nm mz fo dv tv (.bl (decide (fr = 0)))))) ws ds := dps_tups (fun b v hv e => kr b v (fun z => by
        rw [z, d8] at e
        rcases hv with ⟨xs, rfl⟩ | ⟨ob, xs, rfl⟩
        · cases e
        · cases e) e) _ _ (ways_noL hw) j5
      have hle' : ds.length ≤ (1 + u).toNat := hle
      have hge' : 1 ≤ (1 + u).toNat → 1 ≤ ds.length := hge
      have g : Good l (mkv ms) ds := by
        refine ⟨lk, mm, ?_, mnd, mkv_flat ms⟩
        show ((decide (1 ≤ ds.length) && decide (ds.length ≤ 12)) && (ds.all (wayD l (mkv ms).length) && decide (ds.map nk).Nodup)) = true
        rw [mkv_len, hw, decide_eq_true (hge' (by omega)), decide_eq_true (by omega : ds.length ≤ 12), decide_eq_true hnd]
        rfl
      exact kk _ r _ l (mkv ms) ds dv tv (.bl (decide (fr = 0))) dd td (.bool (decide (fr = 0))) (fun b v hb e => kr b v (ne_of_none e hHr) (off3 b v hb (c7 b v hb e))) (p3.put nr (Ne.symm (ne_of_none hp.2.2.1 hr'))) hHr
        ⟨nm, mz, fo, ws, upd_same, kr _ _ nnm' (off3 _ _ nnm c1), kr _ _ nmz' (off3 _ _ nmz c2), kr _ _ nfo' (off3 _ _ nfo c4), f5⟩ g lin (by omega) (gd _) (tdp _) (.bl _) (lim_none gl tl rfl)
end
end K02

set_option Elab.async false
set_option linter.all false
set_option maxRecDepth 100000
set_option maxHeartbeats 0
namespace K02
open PySem PySem.Spec PyProof.Rows L2 RK EX

abbrev sBends : Stmt := top 37
abbrev nBends : List Str := ["rule", "way", "kinds_here", "signs", "bad_ways", "found", "wide", "bad", "odd"]
theorem scBends : FnScope nBends ["rule"] (defScope sBends) := ⟨rfl, rfl, rfl, by decide +kernel, rfl, by decide +kernel, by decide +kernel⟩
def spBends (K : PySem.W.Frag) : Sp := fun vs H Q _ => ∃ (r P : Addr) (oP : HO) (l : List Str) (kvs : List (Key × V)) (ds : List PyData) (d t f : V), vs = [.ref r] ∧ LR K (hid P H) r l kvs ds d t f ∧ Good l kvs ds ∧ (∀ y ∈ l, y ∈ n4) ∧ H P = some oP ∧ ∀ (H' : Hp) (p : Addr), Same H H' → BL K (hid P H') l kvs.length p 53 → Q (.ref p) H'
section
variable {P : Program} {w : World} {K : PySem.W.Frag} {mg : Str → Option Value} {base : Heap} {f : Addr} {fd : FuncData}
theorem kinds_one {l : List Str} (h : kindsD (strD l) = true) : 1 ≤ l.length := by
  have e' : ((decide (1 ≤ (l.map PyData.str).length) && _) && _) = true := h
  rw [Bool.and_eq_true, Bool.and_eq_true, decide_eq_true_eq, List.length_map] at e'
  exact e'.1.1
theorem meas_one {kvs : List (Key × V)} (h : measD (.dict kvs) = true) : 1 ≤ kvs.length := by
  have e' : ((decide (1 ≤ kvs.length) && _) && _) = true := h
  rw [Bool.and_eq_true, Bool.and_eq_true, decide_eq_true_eq] at e'
  exact e'.1.1
theorem cut_ne {n : Nat} : ¬ HT.sIx (n + 1) 0 (some 1) = 0 := by
  unfold HT.sIx
  simp
theorem cut_one {y : Str} {yt : List Str} : cutV ((y :: yt).map V.str) (some 1) none = yt.map V.str := by
  unfold cutV HT.sIx
  simp
  exact List.take_of_length_le (by rw [List.length_map]; exact Nat.le_refl _)
theorem any_app {y : Str} {yt : List Str} : (y :: yt).map V.str ++ [.str "any"] = (((y :: yt) ++ ([("any" : Str)] : List Str)).map V.str) := by rw [List.map_append]; rfl
theorem kinds_app {y : Str} {yt : List Str} : ((y :: yt) ++ [y]).map V.str = (y :: yt).map V.str ++ [.str y] := by rw [List.map_append]; rfl
theorem kinds_twice {y : Str} {yt : List Str} : kindsD (strD ((y :: yt) ++ [y])) = false := by
  show (_ && (_ && decide (((((y :: yt) ++ [y]).map PyData.str).map txt).Nodup))) = false
  rw [decide_eq_false (p := ((((y :: yt) ++ [y]).map PyData.str).map txt).Nodup), Bool.and_false, Bool.and_false]
  rw [List.map_map]
  intro z
  have e : (List.map (txt ∘ PyData.str) (y :: yt ++ [y])) = y :: yt ++ [y] := List.map_id _
  rw [e] at z
  exact (List.nodup_cons.mp z).1 (List.mem_append_right _ List.mem_cons_self)
theorem upd_upd {H : Hp} {a : Addr} {u v : HO} : upd (upd H a u) a v = upd H a v := by
  funext b
  by_cases h : b = a
  · rw [h, upd_same, upd_same]
  · rw [upd_ne h, upd_ne h, upd_ne h]
theorem cat_small {K : PySem.W.Frag} {H : Hp} {P : Addr} {oP : HO} {x : V} {a b : Addr} {ys : List V} {Q : V → Hp → Prop} (hP : H P = some oP) (ha : SqT K (hid P H) a [x]) (hb : SqT K (hid P H) b ys) (hz : 1 + ys.length ≤ sizeLine) (h : ∀ (p : Addr) (H' : Hp), Same H H' → SqT K H' p (x :: ys) ∧ SqT K (hid P H') p (x :: ys) → Q (.ref p) H') : rCatA K (.ref a) (.ref b) H Q := by
  have ha' := same_seqT hid_le ha
  refine ⟨a, b, [x], ys, rfl, rfl, ha', same_seqT hid_le hb, hz, (fun z => by cases z), (fun _ z => ?_), (fun _ _ p hp => ?_)⟩
  · subst z
    exact h a H (Same.refl H) ⟨ha', ha⟩
  · have np := np_of hP (Same.refl H) hp
    exact h p _ (same_put hp) ⟨SqT.of upd_same, by rw [hid_upd np]; exact SqT.of upd_same⟩
theorem ok_bends (F : Fun K "_law_bends" "_law_bends" sBends f fd) (T : Pk mg K w) : FnOk P w K mg base CX0 1 f fd ["rule"] (spBends K) := by
  refine F.ok scBends (fun vs H Q E h => ?_) (fun cdv A outer s H vs Q E hr h => ?_)
  · obtain ⟨r, P, oP, l, kvs, ds, d, t, f', rfl, _⟩ := h
    rfl
  · obtain ⟨r, P, oP, l, kvs, ds, d, t, f', rfl, lr, g, lin, e_P, kk2⟩ := h
    refine ⟨_, pss_cons (ps_par (i := 1) (j := 2) rfl scBends.nd rfl rfl (by decide) rfl rfl (pa_cons (pe_ix ix_list (pe_dget (hu_of hr) (pv 0) pe_str (fun _ _ => rfl)) pe_int (fun _ _ => rfl)) (pa_cons (pe_dget (hu_of hr) (pv 0) pe_str (fun _ _ => rfl)) pa_nil)) rfl) (pss_cons (ps_set (i := 3) scBends.nd rfl (.inl rfl) (pe_ix ix_tup (pv 1) pe_int (fun _ _ => rfl))) (pss_cons (ps_set (i := 4) scBends.nd rfl (.inl rfl) (pe_lst (pa_cons pe_non (pa_cons (pe_tup pa_nil) (pa_cons (pe_slice sl_tupA (pv 1) po_none (po_some pe_int)) (pa_cons (pe_callTy call_list_of rfl T.list PyProof.Rows.boot_list (pa_cons (pv 1) pa_nil)) (pa_cons (pe_tup (pa_cons pe_str (pa_cons (pe_ix ix_tup (pv 1) pe_int (fun _ _ => rfl)) (pa_cons (pv 3) pa_nil)))) (pa_cons (pe_tup (pa_cons (pe_ix ix_tup (pv 1) pe_int (fun _ _ => rfl)) (pa_cons pe_str (pa_cons (pv 3) pa_nil)))) pa_nil)))))))) (pss_cons (ps_expr (pe_bm PySem.F.plainAttrs_list PySem.F.slot_list_append PySem.F.type_list_append mt_append (pv 4) (pa_cons (pe_tup (pa_cons (pe_ix ix_tup (pv 1) pe_int (fun _ _ => rfl)) (pa_cons (pe_ix ix_tup (pv 1) pe_int (fun _ _ => rfl)) (pa_cons (pe_callTy call_list_of rfl T.list PyProof.Rows.boot_list (pa_cons (pv 3) pa_nil)) pa_nil)))) pa_nil))) (pss_cons (ps_set (i := 4) scBends.nd rfl (.inl rfl) (pe_op op_cat (pv 4) (pe_lst (pa_cons (pe_tup (pa_cons (pe_ix ix_tup (pv 1) pe_int (fun _ _ => rfl)) (pa_cons (pe_ix ix_tup (pv 1) pe_int (fun _ _ => rfl)) (pa_cons (pe_op op_catA (pv 3) (pe_tup (pa_cons pe_str pa_nil))) pa_nil)))) (pa_cons (pe_tup (pa_cons (pe_ix ix_tup (pv 1) pe_int (fun _ _ => rfl)) (pa_cons (pe_ix ix_tup (pv 1) pe_int (fun _ _ => rfl)) (pa_cons (pe_slice sl_tupA (pv 3) (po_some pe_int) po_none) pa_nil)))) (pa_cons (pe_tup (pa_cons (pe_ix ix_tup (pv 1) pe_int (fun _ _ => rfl)) (pa_cons pe_non (pa_cons (pv 3) pa_nil)))) pa_nil)))))) (pss_cons (ps_set (i := 4) scBends.nd rfl (.inl rfl) (pe_op op_cat (pv 4) (pe_lst (pa_cons (pe_tup (pa_cons (pe_ix ix_tup (pv 1) pe_int (fun _ _ => rfl)) (pa_cons (pe_ix ix_tup (pv 1) pe_int (fun _ _ => rfl)) (pa_cons (pe_op op_catA (pe_tup (pa_cons pe_str pa_nil)) (pe_slice sl_tupA (pv 3) (po_some pe_int) po_none)) pa_nil)))) (pa_cons (pe_tup (pa_cons (pe_ix ix_tup (pv 1) pe_int (fun _ _ => rfl)) (pa_cons (pe_ix ix_tup (pv 1) pe_int (fun _ _ => rfl)) (pa_cons (pe_op op_catA (pe_tup (pa_cons pe_non pa_nil)) (pe_slice sl_tupA (pv 3) (po_some pe_int) po_none)) pa_nil)))) (pa_cons (pv 1) pa_nil)))))) (pss_cons (ps_set (i := 5) scBends.nd rfl (.inl rfl) (pe_op op_cat (pe_lc (own := [("bad", 7)]) (g := gName 7) (tt := tYes) rfl scBends.nd (pi_list (pv 4)) (blkOk_by (N := nBends) (sc := defScope sBends) (by decide +kernel)) (fun _ _ _ _ _ => pg_name (i := 7) scBends.nd rfl (.inl rfl)) (fun _ _ _ _ _ => pts_nil) (fun _ _ _ _ _ => (pe_tup (pa_cons pe_int (pa_cons (pe_op op_cat (pe_dget (hu_of hr) (pv 0) pe_str (fun _ _ => rfl)) (pe_lst (pa_cons (pv 7) pa_nil))) pa_nil))))) (pe_lc (own := [("odd", 8)]) (g := gName 8) (tt := tYes) rfl scBends.nd (pi_list (pe_lst (pa_cons pe_non (pa_cons (pe_lst pa_nil) (pa_cons (pe_callTy call_tuple_of rfl T.tup PyProof.Rows.boot_tuple (pa_cons (pe_dget (hu_of hr) (pv 0) pe_str (fun _ _ => rfl)) pa_nil)) (pa_cons pe_int pa_nil)))))) (blkOk_by (N := nBends) (sc := defScope sBends) (by decide +kernel)) (fun _ _ _ _ _ => pg_name (i := 8) scBends.nd rfl (.inl rfl)) (fun _ _ _ _ _ => pts_nil) (fun _ _ _ _ _ => (pe_tup (pa_cons pe_int (pa_cons (pv 8) pa_nil))))))) (pss_cons (ps_set (i := 5) scBends.nd rfl (.inl rfl) (pe_op op_cat (pv 5) (pe_lc (own := [("odd", 8)]) (g := gName 8) (tt := tYes) rfl scBends.nd (pi_list (pe_lst (pa_cons pe_non (pa_cons (pe_lst pa_nil) (pa_cons pe_str (pa_cons (pe_callTy call_tuple_of rfl T.tup PyProof.Rows.boot_tuple (pa_cons (pv 2) pa_nil)) (pa_cons (pe_op op_cat (pv 2) (pe_lst (pa_cons (pe_ix ix_list (pv 2) pe_int (fun _ _ => rfl)) pa_nil))) (pa_cons (pe_lst (pa_cons pe_str pa_nil)) (pa_cons (pe_lst (pa_cons pe_int pa_nil)) pa_nil))))))))) (blkOk_by (N := nBends) (sc := defScope sBends) (by decide +kernel)) (fun _ _ _ _ _ => pg_name (i := 8) scBends.nd rfl (.inl rfl)) (fun _ _ _ _ _ => pts_nil) (fun _ _ _ _ _ => (pe_tup (pa_cons pe_int (pa_cons (pv 8) pa_nil))))))) (pss_cons (ps_set (i := 5) scBends.nd rfl (.inl rfl) (pe_op op_cat (pv 5) (pe_lc (own := [("odd", 8)]) (g := gName 8) (tt := tYes) rfl scBends.nd (pi_list (pe_lst (pa_cons (pe_lst (pa_cons pe_str (pa_cons pe_str (pa_cons pe_str (pa_cons pe_str (pa_cons pe_str (pa_cons pe_str pa_nil))))))) (pa_cons (pe_lst (pa_cons pe_str pa_nil)) (pa_cons (pe_lst (pa_cons pe_str pa_nil)) (pa_cons (pe_lst (pa_cons pe_str (pa_cons pe_non pa_nil))) (pa_cons (pe_lst (pa_cons pe_str pa_nil)) pa_nil))))))) (blkOk_by (N := nBends) (sc := defScope sBends) (by decide +kernel)) (fun _ _ _ _ _ => pg_name (i := 8) scBends.nd rfl (.inl rfl)) (fun _ _ _ _ _ => pts_nil) (fun _ _ _ _ _ => (pe_tup (pa_cons pe_int (pa_cons (pv 8) pa_nil))))))) (pss_cons (ps_set (i := 6) scBends.nd rfl (.inl rfl) (pe_disp (pps_cons pe_str pe_bl (pps_cons pe_str pe_bl (pps_cons pe_str pe_bl (pps_cons pe_str pe_bl pps_nil)))) rfl rfl (fun z => by cases z) (by decide))) (pss_cons (ps_set (i := 5) scBends.nd rfl (.inl rfl) (pe_op op_cat (pv 5) (pe_lc (own := [("odd", 8)]) (g := gName 8) (tt := tYes) rfl scBends.nd (pi_list (pe_lst (pa_cons pe_non (pa_cons pe_dnewK (pa_cons (pv 6) (pa_cons (pe_disp (pps_cons pe_str pe_bl pps_nil) rfl rfl (fun z => by cases z) (by decide)) (pa_cons (pe_disp (pps_cons pe_str pe_int pps_nil) rfl rfl (fun z => by cases z) (by decide)) (pa_cons (pe_disp (pps_cons pe_str pe_non pps_nil) rfl rfl (fun z => by cases z) (by decide)) (pa_cons (pe_lst (pa_cons pe_str pa_nil)) (pa_cons (pe_disp (pps_cons pe_int pe_bl pps_nil) rfl rfl (fun z => by cases z) (by decide)) pa_nil)))))))))) (blkOk_by (N := nBends) (sc := defScope sBends) (by decide +kernel)) (fun _ _ _ _ _ => pg_name (i := 8) scBends.nd rfl (.inl rfl)) (fun _ _ _ _ _ => pts_nil) (fun _ _ _ _ _ => (pe_tup (pa_cons pe_int (pa_cons (pv 8) pa_nil))))))) (pss_cons (ps_set (i := 5) scBends.nd rfl (.inl rfl) (pe_op op_cat (pv 5) (pe_lc (own := [("odd", 8)]) (g := gName 8) (tt := tYes) rfl scBends.nd (pi_list (pe_lst (pa_cons (pe_un un_neg pe_int) (pa_cons pe_int (pa_cons pe_bl (pa_cons pe_str (pa_cons pe_bl (pa_cons (pe_op op_pow pe_int pe_int) pa_nil)))))))) (blkOk_by (N := nBends) (sc := defScope sBends) (by decide +kernel)) (fun _ _ _ _ _ => pg_name (i := 8) scBends.nd rfl (.inl rfl)) (fun _ _ _ _ _ => pts_nil) (fun _ _ _ _ _ => (pe_tup (pa_cons pe_int (pa_cons (pv 8) pa_nil))))))) (pss_cons (ps_set (i := 5) scBends.nd rfl (.inl rfl) (pe_op op_cat (pv 5) (pe_lc (own := [("odd", 8)]) (g := gName 8) (tt := tYes) rfl scBends.nd (pi_list (pe_lst (pa_cons pe_int (pa_cons pe_int (pa_cons pe_bl (pa_cons pe_str (pa_cons (pe_un un_neg pe_int) (pa_cons pe_bl pa_nil)))))))) (blkOk_by (N := nBends) (sc := defScope sBends) (by decide +kernel)) (fun _ _ _ _ _ => pg_name (i := 8) scBends.nd rfl (.inl rfl)) (fun _ _ _ _ _ => pts_nil) (fun _ _ _ _ _ => (pe_tup (pa_cons pe_int (pa_cons (pv 8) pa_nil))))))) (pss_one (ps_ret (pe_op op_cat (pv 5) (pe_lc (own := [("odd", 8)]) (g := gName 8) (tt := tYes) rfl scBends.nd (pi_list (pe_lst (pa_cons pe_non (pa_cons pe_int (pa_cons pe_int (pa_cons pe_str pa_nil)))))) (blkOk_by (N := nBends) (sc := defScope sBends) (by decide +kernel)) (fun _ _ _ _ _ => pg_name (i := 8) scBends.nd rfl (.inl rfl)) (fun _ _ _ _ _ => pts_nil) (fun _ _ _ _ _ => (pe_tup (pa_cons pe_int (pa_cons (pv 8) pa_nil)))))))))))))))))))), ?_⟩
    have sm3 : ∀ {k : Nat}, k ≤ 1000 → k ≤ sizeLine := fun {k} hk => Nat.le_trans hk (by rw [sizeLine_eq]; decide)
    obtain ⟨kl, md, wl, ws, z_r, z_kl, z_md, z_wl, hda0⟩ := lr.ex
    obtain ⟨m3, d12, d1, dall, _⟩ := g.ways
    obtain ⟨kw, _, k5⟩ := g.words
    have k1 : 1 ≤ l.length := kinds_one g.k
    have m1 : 1 ≤ kvs.length := meas_one g.m
    obtain ⟨d0, dr, rfl⟩ : ∃ d0 dr, ds = d0 :: dr := by
      cases ds with
      | nil => exact absurd d1 (by decide)
      | cons a b => exact ⟨a, b, rfl⟩
    obtain ⟨k0, lr2, rfl⟩ : ∃ k0 lr2, l = k0 :: lr2 := by
      cases l with
      | nil => exact absurd k1 (by decide)
      | cons a b => exact ⟨a, b, rfl⟩
    cases hda0 with
    | @cons w0 wr _ _ hw0 hwr =>
    have gw0 : wayD (k0 :: lr2) kvs.length d0 = true := List.all_eq_true.mp dall d0 List.mem_cons_self
    obtain ⟨wa, sa, k, b, ys, rfl, rfl, z_wa, z_sa, hm, hys, hk, hb⟩ := way_at hw0 gw0
    have hda : DpAll K (hid P H) (.ref wa :: wr) (.tuple [.str k, .str b, .tuple (tsD ys)] :: dr) := .cons hw0 hwr
    obtain ⟨y0, yt, rfl⟩ : ∃ y0 yt, ys = y0 :: yt := by
      cases ys with
      | nil => exact absurd (hm ▸ m1) (by decide)
      | cons a b => exact ⟨a, b, rfl⟩
    have e_r := hid_le _ _ z_r
    have e_kl := hid_le _ _ z_kl
    have e_md := hid_le _ _ z_md
    have e_wl := hid_le _ _ z_wl
    have e_wa := same_seqT hid_le z_wa
    have e_sa := same_seqT hid_le z_sa
    refine ⟨_, rfl, r, .ref wl, rfl, dget e_r rfl, wl, _, _, _, rfl, rfl, (SqL.of e_wl), (at_of (j := 0) rfl rfl), _, rfl, r, .ref kl, rfl, dget e_r rfl, _, _, rfl, _, rfl, wa, _, _, _, rfl, rfl, e_wa, rfl, ?_⟩
    show (_ : L2.St → Hp → Prop) [some (.ref r), some (.ref wa), some (.ref kl), some (.ref sa), none, none, none, none, none] _
    refine ⟨(sm3 (by simp)), fun u0 h_u0 => ?_⟩
    have sG1 : Same H (upd H u0 (.tup [])) := same_put h_u0
    have e_u0 : (upd H u0 (.tup [])) u0 = some (.tup []) := upd_same
    have z_u0 : hid P (upd H u0 (.tup [])) u0 = some (.tup []) := (hid_ne (np_of e_P (Same.refl _) h_u0)).trans e_u0
    generalize (upd H u0 (.tup [])) = G1 at sG1 e_u0 z_u0 ⊢
    have S0_1 := sG1
    refine ⟨_, rfl, _, rfl, wa, _, rfl, (same_seqT S0_1 e_wa), (fun z => absurd z.2 (by show ¬ HT.sIx 3 3 (some 2) = 3; decide)), fun _ u1 h_u1 => ?_⟩
    rw [show cutV [V.str k, V.str b, V.ref sa] none (some 2) = [V.str k, V.str b] from rfl]
    have sG2 : Same G1 (upd G1 u1 (.tup [.str k, .str b])) := same_put h_u1
    have e_u1 : (upd G1 u1 (.tup [.str k, .str b])) u1 = some (.tup [.str k, .str b]) := upd_same
    have z_u1 : hid P (upd G1 u1 (.tup [.str k, .str b])) u1 = some (.tup [.str k, .str b]) := (hid_ne (np_of e_P S0_1 h_u1)).trans e_u1
    generalize (upd G1 u1 (.tup [.str k, .str b])) = G2 at sG2 e_u1 z_u1 ⊢
    have S0_2 := S0_1.trans sG2
    refine ⟨_, rfl, wa, _, rfl, .inr (same_seqT S0_2 e_wa), fun u2 h_u2 => ?_⟩
    have sG3 : Same G2 (upd G2 u2 (.lst [.str k, .str b, .ref sa])) := same_put h_u2
    have e_u2 : (upd G2 u2 (.lst [.str k, .str b, .ref sa])) u2 = some (.lst [.str k, .str b, .ref sa]) := upd_same
    have z_u2 : hid P (upd G2 u2 (.lst [.str k, .str b, .ref sa])) u2 = some (.lst [.str k, .str b, .ref sa]) := (hid_ne (np_of e_P S0_2 h_u2)).trans e_u2
    generalize (upd G2 u2 (.lst [.str k, .str b, .ref sa])) = G3 at sG3 e_u2 z_u2 ⊢
    have S0_3 := S0_2.trans sG3
    refine ⟨_, rfl, wa, _, _, _, rfl, rfl, (same_seqT S0_3 e_wa), rfl, _, rfl, (sm3 (by simp)), fun u3 h_u3 => ?_⟩
    have sG4 : Same G3 (upd G3 u3 (.tup [.str "Q", .str b, .ref sa])) := same_put h_u3
    have e_u3 : (upd G3 u3 (.tup [.str "Q", .str b, .ref sa])) u3 = some (.tup [.str "Q", .str b, .ref sa]) := upd_same
    have z_u3 : hid P (upd G3 u3 (.tup [.str "Q", .str b, .ref sa])) u3 = some (.tup [.str "Q", .str b, .ref sa]) := (hid_ne (np_of e_P S0_3 h_u3)).trans e_u3
    generalize (upd G3 u3 (.tup [.str "Q", .str b, .ref sa])) = G4 at sG4 e_u3 z_u3 ⊢
    have S0_4 := S0_3.trans sG4
    refine ⟨_, rfl, wa, _, _, _, rfl, rfl, (same_seqT S0_4 e_wa), rfl, _, rfl, (sm3 (by simp)), fun u4 h_u4 => ?_⟩
    have sG5 : Same G4 (upd G4 u4 (.tup [.str k, .str "zzz", .ref sa])) := same_put h_u4
    have e_u4 : (upd G4 u4 (.tup [.str k, .str "zzz", .ref sa])) u4 = some (.tup [.str k, .str "zzz", .ref sa]) := upd_same
    have z_u4 : hid P (upd G4 u4 (.tup [.str k, .str "zzz", .ref sa])) u4 = some (.tup [.str k, .str "zzz", .ref sa]) := (hid_ne (np_of e_P S0_4 h_u4)).trans e_u4
    generalize (upd G4 u4 (.tup [.str k, .str "zzz", .ref sa])) = G5 at sG5 e_u4 z_u4 ⊢
    have S0_5 := S0_4.trans sG5
    refine ⟨(sm3 (by simp)), fun b0 h_b0 => ?_⟩
    have sG6 : Same G5 (upd G5 b0 (.lst [.non, .ref u0, .ref u1, .ref u2, .ref u3, .ref u4])) := same_put h_b0
    have e_b0 : (upd G5 b0 (.lst [.non, .ref u0, .ref u1, .ref u2, .ref u3, .ref u4])) b0 = some (.lst [.non, .ref u0, .ref u1, .ref u2, .ref u3, .ref u4]) := upd_same
    have z_b0 : hid P (upd G5 b0 (.lst [.non, .ref u0, .ref u1, .ref u2, .ref u3, .ref u4])) b0 = some (.lst [.non, .ref u0, .ref u1, .ref u2, .ref u3, .ref u4]) := (hid_ne (np_of e_P S0_5 h_b0)).trans e_b0
    generalize (upd G5 b0 (.lst [.non, .ref u0, .ref u1, .ref u2, .ref u3, .ref u4])) = G6 at sG6 e_b0 z_b0 ⊢
    have S0_6 := S0_5.trans sG6
    refine gn_st (σ' := [some (.ref r), some (.ref wa), some (.ref kl), some (.ref sa), some (.ref b0), none, none, none, none]) rfl ?_
    refine ⟨_, rfl, .inl ⟨rfl, _, (SqL.of e_b0)⟩, _, rfl, wa, _, _, _, rfl, rfl, (same_seqT S0_6 e_wa), rfl, _, rfl, wa, _, _, _, rfl, rfl, (same_seqT S0_6 e_wa), rfl, _, rfl, sa, _, rfl, .inr (same_seqT S0_6 e_sa), fun u5 h_u5 => ?_⟩
    have sG7 : Same G6 (upd G6 u5 (.lst ((y0 :: yt).map V.str))) := same_put h_u5
    have e_u5 : (upd G6 u5 (.lst ((y0 :: yt).map V.str))) u5 = some (.lst ((y0 :: yt).map V.str)) := upd_same
    have z_u5 : hid P (upd G6 u5 (.lst ((y0 :: yt).map V.str))) u5 = some (.lst ((y0 :: yt).map V.str)) := (hid_ne (np_of e_P S0_6 h_u5)).trans e_u5
    generalize (upd G6 u5 (.lst ((y0 :: yt).map V.str))) = G7 at sG7 e_u5 z_u5 ⊢
    have S0_7 := S0_6.trans sG7
    refine ⟨(sm3 (by simp)), fun u6 h_u6 => ?_⟩
    have sG8 : Same G7 (upd G7 u6 (.tup [.str k, .str b, .ref u5])) := same_put h_u6
    have e_u6 : (upd G7 u6 (.tup [.str k, .str b, .ref u5])) u6 = some (.tup [.str k, .str b, .ref u5]) := upd_same
    have z_u6 : hid P (upd G7 u6 (.tup [.str k, .str b, .ref u5])) u6 = some (.tup [.str k, .str b, .ref u5]) := (hid_ne (np_of e_P S0_7 h_u6)).trans e_u6
    generalize (upd G7 u6 (.tup [.str k, .str b, .ref u5])) = G8 at sG8 e_u6 z_u6 ⊢
    have S0_8 := S0_7.trans sG8
    have S6_8 := sG7.trans sG8
    refine ⟨b0, _, _, rfl, rfl, (S6_8 _ _ e_b0), Nat.lt_of_lt_of_le (by decide : 6 < 1000) (sm3 (Nat.le_refl 1000)), ?_⟩
    rw [show (([V.non, V.ref u0, V.ref u1, V.ref u2, V.ref u3, V.ref u4] : List V) ++ [V.ref u6]) = [V.non, V.ref u0, V.ref u1, V.ref u2, V.ref u3, V.ref u4, V.ref u6] from rfl]
    have n5 : u5 ≠ b0 := Ne.symm (ne_of_none e_b0 h_u5)
    have n6 : u6 ≠ b0 := Ne.symm (ne_of_none (sG7 _ _ e_b0) h_u6)
    have S5_7 := sG6.trans sG7
    have S5_8 := S5_7.trans sG8
    have sA : Same G5 (upd G8 b0 (.lst [.non, .ref u0, .ref u1, .ref u2, .ref u3, .ref u4, .ref u6])) := same_new S5_8 h_b0
    have e_b0 : (upd G8 b0 (.lst [.non, .ref u0, .ref u1, .ref u2, .ref u3, .ref u4, .ref u6])) b0 = some (.lst [.non, .ref u0, .ref u1, .ref u2, .ref u3, .ref u4, .ref u6]) := upd_same
    have e_u5 : (upd G8 b0 (.lst [.non, .ref u0, .ref u1, .ref u2, .ref u3, .ref u4, .ref u6])) u5 = _ := (upd_ne n5).trans (sG8 _ _ e_u5)
    have e_u6 : (upd G8 b0 (.lst [.non, .ref u0, .ref u1, .ref u2, .ref u3, .ref u4, .ref u6])) u6 = _ := (upd_ne n6).trans e_u6
    have e_P1 := S0_5 _ _ e_P
    have nb0 := np_of e_P1 (Same.refl _) h_b0
    have z_b0 := (hid_ne nb0).trans e_b0
    have z_u5 := (hid_ne (np_of e_P1 (sG6) h_u5)).trans e_u5
    have z_u6 := (hid_ne (np_of e_P1 (S5_7) h_u6)).trans e_u6
    have S1_3 := sG2.trans sG3
    have S1_4 := S1_3.trans sG4
    have S1_5 := S1_4.trans sG5
    have e_u0 := sA _ _ (S1_5 _ _ e_u0)
    have z_u0 := hidS sA _ _ (hidS S1_5 _ _ z_u0)
    have S2_4 := sG3.trans sG4
    have S2_5 := S2_4.trans sG5
    have e_u1 := sA _ _ (S2_5 _ _ e_u1)
    have z_u1 := hidS sA _ _ (hidS S2_5 _ _ z_u1)
    have S3_5 := sG4.trans sG5
    have e_u2 := sA _ _ (S3_5 _ _ e_u2)
    have z_u2 := hidS sA _ _ (hidS S3_5 _ _ z_u2)
    have e_u3 := sA _ _ (sG5 _ _ e_u3)
    have z_u3 := hidS sA _ _ (hidS sG5 _ _ z_u3)
    have e_u4 := sA _ _ ((Same.refl _) _ _ e_u4)
    have z_u4 := hidS sA _ _ (hidS (Same.refl _) _ _ z_u4)
    have S0_A := S0_5.trans sA
    have e_r := S0_A _ _ e_r
    have z_r := hidS S0_A _ _ z_r
    have e_kl := S0_A _ _ e_kl
    have z_kl := hidS S0_A _ _ z_kl
    have e_wl := S0_A _ _ e_wl
    have z_wl := hidS S0_A _ _ z_wl
    have e_md := S0_A _ _ e_md
    have z_md := hidS S0_A _ _ z_md
    have e_wa := same_seqT S0_A e_wa
    have z_wa := same_seqT (hidS S0_A) z_wa
    have e_sa := same_seqT S0_A e_sa
    have z_sa := same_seqT (hidS S0_A) z_sa
    have hda := dps_same (hidS S0_A) _ _ hda
    have e_P := sA _ _ e_P1
    have sHA := S0_A
    generalize (upd G8 b0 (.lst [.non, .ref u0, .ref u1, .ref u2, .ref u3, .ref u4, .ref u6])) = J0 at e_b0 z_b0 e_u0 z_u0 e_u1 z_u1 e_u2 z_u2 e_u3 z_u3 e_u4 z_u4 e_u5 z_u5 e_u6 z_u6 e_r z_r e_kl z_kl e_wl z_wl e_md z_md e_wa z_wa e_sa z_sa hda e_P sHA ⊢
    refine ⟨_, rfl, _, rfl, wa, _, _, _, rfl, rfl, e_wa, rfl, _, rfl, wa, _, _, _, rfl, rfl, e_wa, rfl, _, rfl, (sm3 (by simp)), fun t1 h_t1 => ?_⟩
    have sJ1 : Same J0 (upd J0 t1 (.tup [.str "any"])) := same_put h_t1
    have e_t1 : (upd J0 t1 (.tup [.str "any"])) t1 = some (.tup [.str "any"]) := upd_same
    have z_t1 : hid P (upd J0 t1 (.tup [.str "any"])) t1 = some (.tup [.str "any"]) := (hid_ne (np_of e_P (Same.refl _) h_t1)).trans e_t1
    generalize (upd J0 t1 (.tup [.str "any"])) = J1 at sJ1 e_t1 z_t1 ⊢
    have S0_1 := sJ1
    refine ⟨sa, t1, _, _, rfl, rfl, (same_seqT S0_1 e_sa), (SqT.of e_t1), (sm3 (by rw [List.length_map]; show (y0 :: yt).length + 1 ≤ 1000; omega)), (fun z => by cases z), (fun _ z => by cases z), fun _ _ t2 h_t2 => ?_⟩
    have sJ2 : Same J1 (upd J1 t2 (.tup ((y0 :: yt).map V.str ++ [.str "any"]))) := same_put h_t2
    have e_t2 : (upd J1 t2 (.tup ((y0 :: yt).map V.str ++ [.str "any"]))) t2 = some (.tup ((y0 :: yt).map V.str ++ [.str "any"])) := upd_same
    have z_t2 : hid P (upd J1 t2 (.tup ((y0 :: yt).map V.str ++ [.str "any"]))) t2 = some (.tup ((y0 :: yt).map V.str ++ [.str "any"])) := (hid_ne (np_of e_P S0_1 h_t2)).trans e_t2
    generalize (upd J1 t2 (.tup ((y0 :: yt).map V.str ++ [.str "any"]))) = J2 at sJ2 e_t2 z_t2 ⊢
    have S0_2 := S0_1.trans sJ2
    refine ⟨(sm3 (by simp)), fun u7 h_u7 => ?_⟩
    have sJ3 : Same J2 (upd J2 u7 (.tup [.str k, .str b, .ref t2])) := same_put h_u7
    have e_u7 : (upd J2 u7 (.tup [.str k, .str b, .ref t2])) u7 = some (.tup [.str k, .str b, .ref t2]) := upd_same
    have z_u7 : hid P (upd J2 u7 (.tup [.str k, .str b, .ref t2])) u7 = some (.tup [.str k, .str b, .ref t2]) := (hid_ne (np_of e_P S0_2 h_u7)).trans e_u7
    generalize (upd J2 u7 (.tup [.str k, .str b, .ref t2])) = J3 at sJ3 e_u7 z_u7 ⊢
    have S0_3 := S0_2.trans sJ3
    refine ⟨_, rfl, wa, _, _, _, rfl, rfl, (same_seqT S0_3 e_wa), rfl, _, rfl, wa, _, _, _, rfl, rfl, (same_seqT S0_3 e_wa), rfl, _, rfl, _, rfl, sa, _, rfl, (same_seqT S0_3 e_sa), (fun z => absurd z.1 (by rw [List.length_map]; exact cut_ne)), fun _ t3 h_t3 => ?_⟩
    rw [cut_one]
    have sJ4 : Same J3 (upd J3 t3 (.tup (yt.map V.str))) := same_put h_t3
    have e_t3 : (upd J3 t3 (.tup (yt.map V.str))) t3 = some (.tup (yt.map V.str)) := upd_same
    have z_t3 : hid P (upd J3 t3 (.tup (yt.map V.str))) t3 = some (.tup (yt.map V.str)) := (hid_ne (np_of e_P S0_3 h_t3)).trans e_t3
    generalize (upd J3 t3 (.tup (yt.map V.str))) = J4 at sJ4 e_t3 z_t3 ⊢
    have S0_4 := S0_3.trans sJ4
    refine ⟨(sm3 (by simp)), fun u8 h_u8 => ?_⟩
    have sJ5 : Same J4 (upd J4 u8 (.tup [.str k, .str b, .ref t3])) := same_put h_u8
    have e_u8 : (upd J4 u8 (.tup [.str k, .str b, .ref t3])) u8 = some (.tup [.str k, .str b, .ref t3]) := upd_same
    have z_u8 : hid P (upd J4 u8 (.tup [.str k, .str b, .ref t3])) u8 = some (.tup [.str k, .str b, .ref t3]) := (hid_ne (np_of e_P S0_4 h_u8)).trans e_u8
    generalize (upd J4 u8 (.tup [.str k, .str b, .ref t3])) = J5 at sJ5 e_u8 z_u8 ⊢
    have S0_5 := S0_4.trans sJ5
    refine ⟨_, rfl, wa, _, _, _, rfl, rfl, (same_seqT S0_5 e_wa), rfl, _, rfl, (sm3 (by simp)), fun u9 h_u9 => ?_⟩
    have sJ6 : Same J5 (upd J5 u9 (.tup [.str k, .non, .ref sa])) := same_put h_u9
    have e_u9 : (upd J5 u9 (.tup [.str k, .non, .ref sa])) u9 = some (.tup [.str k, .non, .ref sa]) := upd_same
    have z_u9 : hid P (upd J5 u9 (.tup [.str k, .non, .ref sa])) u9 = some (.tup [.str k, .non, .ref sa]) := (hid_ne (np_of e_P S0_5 h_u9)).trans e_u9
    generalize (upd J5 u9 (.tup [.str k, .non, .ref sa])) = J6 at sJ6 e_u9 z_u9 ⊢
    have S0_6 := S0_5.trans sJ6
    refine ⟨(sm3 (by simp)), fun b1 h_b1 => ?_⟩
    have sJ7 : Same J6 (upd J6 b1 (.lst [.ref u7, .ref u8, .ref u9])) := same_put h_b1
    have e_b1 : (upd J6 b1 (.lst [.ref u7, .ref u8, .ref u9])) b1 = some (.lst [.ref u7, .ref u8, .ref u9]) := upd_same
    have z_b1 : hid P (upd J6 b1 (.lst [.ref u7, .ref u8, .ref u9])) b1 = some (.lst [.ref u7, .ref u8, .ref u9]) := (hid_ne (np_of e_P S0_6 h_b1)).trans e_b1
    generalize (upd J6 b1 (.lst [.ref u7, .ref u8, .ref u9])) = J7 at sJ7 e_b1 z_b1 ⊢
    have S0_7 := S0_6.trans sJ7
    refine ⟨_, _, _, _, rfl, rfl, (S0_7 _ _ e_b0), e_b1, (sm3 (by simp)), fun b2 h_b2 => ?_⟩
    rw [show (([V.non, V.ref u0, V.ref u1, V.ref u2, V.ref u3, V.ref u4, V.ref u6] : List V) ++ [V.ref u7, V.ref u8, V.ref u9]) = [V.non, V.ref u0, V.ref u1, V.ref u2, V.ref u3, V.ref u4, V.ref u6, V.ref u7, V.ref u8, V.ref u9] from rfl]
    have sJ8 : Same J7 (upd J7 b2 (.lst [.non, .ref u0, .ref u1, .ref u2, .ref u3, .ref u4, .ref u6, .ref u7, .ref u8, .ref u9])) := same_put h_b2
    have e_b2 : (upd J7 b2 (.lst [.non, .ref u0, .ref u1, .ref u2, .ref u3, .ref u4, .ref u6, .ref u7, .ref u8, .ref u9])) b2 = some (.lst [.non, .ref u0, .ref u1, .ref u2, .ref u3, .ref u4, .ref u6, .ref u7, .ref u8, .ref u9]) := upd_same
    have z_b2 : hid P (upd J7 b2 (.lst [.non, .ref u0, .ref u1, .ref u2, .ref u3, .ref u4, .ref u6, .ref u7, .ref u8, .ref u9])) b2 = some (.lst [.non, .ref u0, .ref u1, .ref u2, .ref u3, .ref u4, .ref u6, .ref u7, .ref u8, .ref u9]) := (hid_ne (np_of e_P S0_7 h_b2)).trans e_b2
    generalize (upd J7 b2 (.lst [.non, .ref u0, .ref u1, .ref u2, .ref u3, .ref u4, .ref u6, .ref u7, .ref u8, .ref u9])) = J8 at sJ8 e_b2 z_b2 ⊢
    have S0_8 := S0_7.trans sJ8
    refine gn_st (σ' := [some (.ref r), some (.ref wa), some (.ref kl), some (.ref sa), some (.ref b2), none, none, none, none]) rfl ?_
    refine ⟨_, rfl, _, rfl, wa, _, _, _, rfl, rfl, (same_seqT S0_8 e_wa), rfl, _, rfl, wa, _, _, _, rfl, rfl, (same_seqT S0_8 e_wa), rfl, (sm3 (by simp)), fun t4 h_t4 => ?_⟩
    have sJ9 : Same J8 (upd J8 t4 (.tup [.str "small"])) := same_put h_t4
    have e_t4 : (upd J8 t4 (.tup [.str "small"])) t4 = some (.tup [.str "small"]) := upd_same
    have z_t4 : hid P (upd J8 t4 (.tup [.str "small"])) t4 = some (.tup [.str "small"]) := (hid_ne (np_of e_P S0_8 h_t4)).trans e_t4
    generalize (upd J8 t4 (.tup [.str "small"])) = J9 at sJ9 e_t4 z_t4 ⊢
    have S0_9 := S0_8.trans sJ9
    refine ⟨_, rfl, _, rfl, sa, _, rfl, (same_seqT S0_9 e_sa), (fun z => absurd z.1 (by rw [List.length_map]; exact cut_ne)), fun _ t5 h_t5 => ?_⟩
    rw [cut_one]
    have sJ10 : Same J9 (upd J9 t5 (.tup (yt.map V.str))) := same_put h_t5
    have e_t5 : (upd J9 t5 (.tup (yt.map V.str))) t5 = some (.tup (yt.map V.str)) := upd_same
    have z_t5 : hid P (upd J9 t5 (.tup (yt.map V.str))) t5 = some (.tup (yt.map V.str)) := (hid_ne (np_of e_P S0_9 h_t5)).trans e_t5
    generalize (upd J9 t5 (.tup (yt.map V.str))) = J10 at sJ10 e_t5 z_t5 ⊢
    have S0_10 := S0_9.trans sJ10
    refine cat_small (P := P) (x := .str "small") (show J10 P = some oP from S0_10 _ _ e_P) (SqT.of ((hidS sJ10) _ _ z_t4)) (SqT.of z_t5) (sm3 (by show 1 + (yt.map V.str).length ≤ 1000; rw [List.length_map]; have : (y0 :: yt).length = yt.length + 1 := rfl; omega)) fun t6 Z sZ e_Z => ?_
    have sJ11 := sZ
    have e_t6 := e_Z.1
    have z_t6 := e_Z.2
    clear sZ e_Z
    revert sJ11 e_t6 z_t6
    generalize Z = J11
    intro sJ11 e_t6 z_t6
    have S0_11 := S0_10.trans sJ11
    refine ⟨(sm3 (by simp)), fun u10 h_u10 => ?_⟩
    have sJ12 : Same J11 (upd J11 u10 (.tup [.str k, .str b, .ref t6])) := same_put h_u10
    have e_u10 : (upd J11 u10 (.tup [.str k, .str b, .ref t6])) u10 = some (.tup [.str k, .str b, .ref t6]) := upd_same
    have z_u10 : hid P (upd J11 u10 (.tup [.str k, .str b, .ref t6])) u10 = some (.tup [.str k, .str b, .ref t6]) := (hid_ne (np_of e_P S0_11 h_u10)).trans e_u10
    generalize (upd J11 u10 (.tup [.str k, .str b, .ref t6])) = J12 at sJ12 e_u10 z_u10 ⊢
    have S0_12 := S0_11.trans sJ12
    refine ⟨_, rfl, wa, _, _, _, rfl, rfl, (same_seqT S0_12 e_wa), rfl, _, rfl, wa, _, _, _, rfl, rfl, (same_seqT S0_12 e_wa), rfl, (sm3 (by simp)), fun t7 h_t7 => ?_⟩
    have sJ13 : Same J12 (upd J12 t7 (.tup [.non])) := same_put h_t7
    have e_t7 : (upd J12 t7 (.tup [.non])) t7 = some (.tup [.non]) := upd_same
    have z_t7 : hid P (upd J12 t7 (.tup [.non])) t7 = some (.tup [.non]) := (hid_ne (np_of e_P S0_12 h_t7)).trans e_t7
    generalize (upd J12 t7 (.tup [.non])) = J13 at sJ13 e_t7 z_t7 ⊢
    have S0_13 := S0_12.trans sJ13
    refine ⟨_, rfl, _, rfl, sa, _, rfl, (same_seqT S0_13 e_sa), (fun z => absurd z.1 (by rw [List.length_map]; exact cut_ne)), fun _ t8 h_t8 => ?_⟩
    rw [cut_one]
    have sJ14 : Same J13 (upd J13 t8 (.tup (yt.map V.str))) := same_put h_t8
    have e_t8 : (upd J13 t8 (.tup (yt.map V.str))) t8 = some (.tup (yt.map V.str)) := upd_same
    have z_t8 : hid P (upd J13 t8 (.tup (yt.map V.str))) t8 = some (.tup (yt.map V.str)) := (hid_ne (np_of e_P S0_13 h_t8)).trans e_t8
    generalize (upd J13 t8 (.tup (yt.map V.str))) = J14 at sJ14 e_t8 z_t8 ⊢
    have S0_14 := S0_13.trans sJ14
    refine cat_small (P := P) (x := .non) (show J14 P = some oP from S0_14 _ _ e_P) (SqT.of ((hidS sJ14) _ _ z_t7)) (SqT.of z_t8) (sm3 (by show 1 + (yt.map V.str).length ≤ 1000; rw [List.length_map]; have : (y0 :: yt).length = yt.length + 1 := rfl; omega)) fun t9 Z sZ e_Z => ?_
    have sJ15 := sZ
    have e_t9 := e_Z.1
    have z_t9 := e_Z.2
    clear sZ e_Z
    revert sJ15 e_t9 z_t9
    generalize Z = J15
    intro sJ15 e_t9 z_t9
    have S0_15 := S0_14.trans sJ15
    refine ⟨(sm3 (by simp)), fun u11 h_u11 => ?_⟩
    have sJ16 : Same J15 (upd J15 u11 (.tup [.str k, .str b, .ref t9])) := same_put h_u11
    have e_u11 : (upd J15 u11 (.tup [.str k, .str b, .ref t9])) u11 = some (.tup [.str k, .str b, .ref t9]) := upd_same
    have z_u11 : hid P (upd J15 u11 (.tup [.str k, .str b, .ref t9])) u11 = some (.tup [.str k, .str b, .ref t9]) := (hid_ne (np_of e_P S0_15 h_u11)).trans e_u11
    generalize (upd J15 u11 (.tup [.str k, .str b, .ref t9])) = J16 at sJ16 e_u11 z_u11 ⊢
    have S0_16 := S0_15.trans sJ16
    refine ⟨_, rfl, (sm3 (by simp)), fun b3 h_b3 => ?_⟩
    have sJ17 : Same J16 (upd J16 b3 (.lst [.ref u10, .ref u11, .ref wa])) := same_put h_b3
    have e_b3 : (upd J16 b3 (.lst [.ref u10, .ref u11, .ref wa])) b3 = some (.lst [.ref u10, .ref u11, .ref wa]) := upd_same
    have z_b3 : hid P (upd J16 b3 (.lst [.ref u10, .ref u11, .ref wa])) b3 = some (.lst [.ref u10, .ref u11, .ref wa]) := (hid_ne (np_of e_P S0_16 h_b3)).trans e_b3
    generalize (upd J16 b3 (.lst [.ref u10, .ref u11, .ref wa])) = J17 at sJ17 e_b3 z_b3 ⊢
    have S0_17 := S0_16.trans sJ17
    have S8_10 := sJ9.trans sJ10
    have S8_11 := S8_10.trans sJ11
    have S8_12 := S8_11.trans sJ12
    have S8_13 := S8_12.trans sJ13
    have S8_14 := S8_13.trans sJ14
    have S8_15 := S8_14.trans sJ15
    have S8_16 := S8_15.trans sJ16
    have S8_17 := S8_16.trans sJ17
    refine ⟨_, _, _, _, rfl, rfl, (S8_17 _ _ e_b2), e_b3, (sm3 (by simp)), fun b4 h_b4 => ?_⟩
    rw [show (([V.non, V.ref u0, V.ref u1, V.ref u2, V.ref u3, V.ref u4, V.ref u6, V.ref u7, V.ref u8, V.ref u9] : List V) ++ [V.ref u10, V.ref u11, V.ref wa]) = [V.non, V.ref u0, V.ref u1, V.ref u2, V.ref u3, V.ref u4, V.ref u6, V.ref u7, V.ref u8, V.ref u9, V.ref u10, V.ref u11, V.ref wa] from rfl]
    have sJ18 : Same J17 (upd J17 b4 (.lst [.non, .ref u0, .ref u1, .ref u2, .ref u3, .ref u4, .ref u6, .ref u7, .ref u8, .ref u9, .ref u10, .ref u11, .ref wa])) := same_put h_b4
    have e_b4 : (upd J17 b4 (.lst [.non, .ref u0, .ref u1, .ref u2, .ref u3, .ref u4, .ref u6, .ref u7, .ref u8, .ref u9, .ref u10, .ref u11, .ref wa])) b4 = some (.lst [.non, .ref u0, .ref u1, .ref u2, .ref u3, .ref u4, .ref u6, .ref u7, .ref u8, .ref u9, .ref u10, .ref u11, .ref wa]) := upd_same
    have z_b4 : hid P (upd J17 b4 (.lst [.non, .ref u0, .ref u1, .ref u2, .ref u3, .ref u4, .ref u6, .ref u7, .ref u8, .ref u9, .ref u10, .ref u11, .ref wa])) b4 = some (.lst [.non, .ref u0, .ref u1, .ref u2, .ref u3, .ref u4, .ref u6, .ref u7, .ref u8, .ref u9, .ref u10, .ref u11, .ref wa]) := (hid_ne (np_of e_P S0_17 h_b4)).trans e_b4
    generalize (upd J17 b4 (.lst [.non, .ref u0, .ref u1, .ref u2, .ref u3, .ref u4, .ref u6, .ref u7, .ref u8, .ref u9, .ref u10, .ref u11, .ref wa])) = J18 at sJ18 e_b4 z_b4 ⊢
    have S0_18 := S0_17.trans sJ18
    refine gn_st (σ' := [some (.ref r), some (.ref wa), some (.ref kl), some (.ref sa), some (.ref b4), none, none, none, none]) rfl ?_
    refine ⟨_, rfl, b4, rfl, ⟨_, (SqL.of e_b4)⟩, fun D1 hD1 => ?_⟩
    have hdaN := dps_same (hidS S0_18) _ _ hda
    have S3_5 := sJ4.trans sJ5
    have S3_6 := S3_5.trans sJ6
    have S3_7 := S3_6.trans sJ7
    have S3_8 := S3_7.trans sJ8
    have S3_9 := S3_8.trans sJ9
    have S3_10 := S3_9.trans sJ10
    have S3_11 := S3_10.trans sJ11
    have S3_12 := S3_11.trans sJ12
    have S3_13 := S3_12.trans sJ13
    have S3_14 := S3_13.trans sJ14
    have S3_15 := S3_14.trans sJ15
    have S3_16 := S3_15.trans sJ16
    have S3_17 := S3_16.trans sJ17
    have S3_18 := S3_17.trans sJ18
    have S2_4 := sJ3.trans sJ4
    have S2_5 := S2_4.trans sJ5
    have S2_6 := S2_5.trans sJ6
    have S2_7 := S2_6.trans sJ7
    have S2_8 := S2_7.trans sJ8
    have S2_9 := S2_8.trans sJ9
    have S2_10 := S2_9.trans sJ10
    have S2_11 := S2_10.trans sJ11
    have S2_12 := S2_11.trans sJ12
    have S2_13 := S2_12.trans sJ13
    have S2_14 := S2_13.trans sJ14
    have S2_15 := S2_14.trans sJ15
    have S2_16 := S2_15.trans sJ16
    have S2_17 := S2_16.trans sJ17
    have S2_18 := S2_17.trans sJ18
    have S5_7 := sJ6.trans sJ7
    have S5_8 := S5_7.trans sJ8
    have S5_9 := S5_8.trans sJ9
    have S5_10 := S5_9.trans sJ10
    have S5_11 := S5_10.trans sJ11
    have S5_12 := S5_11.trans sJ12
    have S5_13 := S5_12.trans sJ13
    have S5_14 := S5_13.trans sJ14
    have S5_15 := S5_14.trans sJ15
    have S5_16 := S5_15.trans sJ16
    have S5_17 := S5_16.trans sJ17
    have S5_18 := S5_17.trans sJ18
    have S4_6 := sJ5.trans sJ6
    have S4_7 := S4_6.trans sJ7
    have S4_8 := S4_7.trans sJ8
    have S4_9 := S4_8.trans sJ9
    have S4_10 := S4_9.trans sJ10
    have S4_11 := S4_10.trans sJ11
    have S4_12 := S4_11.trans sJ12
    have S4_13 := S4_12.trans sJ13
    have S4_14 := S4_13.trans sJ14
    have S4_15 := S4_14.trans sJ15
    have S4_16 := S4_15.trans sJ16
    have S4_17 := S4_16.trans sJ17
    have S4_18 := S4_17.trans sJ18
    have S6_8 := sJ7.trans sJ8
    have S6_9 := S6_8.trans sJ9
    have S6_10 := S6_9.trans sJ10
    have S6_11 := S6_10.trans sJ11
    have S6_12 := S6_11.trans sJ12
    have S6_13 := S6_12.trans sJ13
    have S6_14 := S6_13.trans sJ14
    have S6_15 := S6_14.trans sJ15
    have S6_16 := S6_15.trans sJ16
    have S6_17 := S6_16.trans sJ17
    have S6_18 := S6_17.trans sJ18
    have S12_14 := sJ13.trans sJ14
    have S12_15 := S12_14.trans sJ15
    have S12_16 := S12_15.trans sJ16
    have S12_17 := S12_16.trans sJ17
    have S12_18 := S12_17.trans sJ18
    have S11_13 := sJ12.trans sJ13
    have S11_14 := S11_13.trans sJ14
    have S11_15 := S11_14.trans sJ15
    have S11_16 := S11_15.trans sJ16
    have S11_17 := S11_16.trans sJ17
    have S11_18 := S11_17.trans sJ18
    have S16_18 := sJ17.trans sJ18
    have S15_17 := sJ16.trans sJ17
    have S15_18 := S15_17.trans sJ18
    have wlen : (V.ref wa :: wr).length ≤ 12 := by rw [← dps_len hdaN]; exact d12
    refine lc_ways (K := K) (P := P) (l := k0 :: lr2) (many := kvs.length) (S0_18 _ _ e_P) (SqL.of e_b4) (by simp) hD1 hdaN g.yok (by omega) ?_ (fun x Z Q2 sZ kZ => ?_) fun Z1 sZ1 bZ1 => ?_
    · intro x hx
      rcases List.mem_cons.mp hx with rfl | hx
      · exact ⟨.none, .non, wb_none⟩
      rcases List.mem_cons.mp hx with rfl | hx
      · exact ⟨.tuple [], .tup (SqT.of ((hidS S0_18) _ _ z_u0)) .nil, wb_unit⟩
      rcases List.mem_cons.mp hx with rfl | hx
      · exact ⟨.tuple [.str k, .str b], .tup (SqT.of ((hidS S0_18) _ _ z_u1)) (.cons (.str k) (.cons (.str b) .nil)), wb_two⟩
      rcases List.mem_cons.mp hx with rfl | hx
      · exact ⟨.list [.str k, .str b, .tuple (tsD (y0 :: yt))], .lst (SqL.of ((hidS S0_18) _ _ z_u2)) (.cons (.str k) (.cons (.str b) (.cons (.tup (same_seqT (hidS S0_18) z_sa) (dps_of_strs (y0 :: yt))) .nil))), wb_list⟩
      rcases List.mem_cons.mp hx with rfl | hx
      · exact ⟨.tuple [.str "Q", .str b, .tuple (tsD (y0 :: yt))], .tup (SqT.of ((hidS S0_18) _ _ z_u3)) (.cons (.str "Q") (.cons (.str b) (.cons (.tup (same_seqT (hidS S0_18) z_sa) (dps_of_strs (y0 :: yt))) .nil))), wb_k hys hm m3 (fun z => absurd (lin _ z) (by decide))⟩
      rcases List.mem_cons.mp hx with rfl | hx
      · exact ⟨.tuple [.str k, .str "zzz", .tuple (tsD (y0 :: yt))], .tup (SqT.of ((hidS S0_18) _ _ z_u4)) (.cons (.str k) (.cons (.str "zzz") (.cons (.tup (same_seqT (hidS S0_18) z_sa) (dps_of_strs (y0 :: yt))) .nil))), wb_b hys hm m3 (fun z => absurd (lin _ z) (by decide))⟩
      rcases List.mem_cons.mp hx with rfl | hx
      · exact ⟨.tuple [.str k, .str b, .list (tsD (y0 :: yt))], .tup (SqT.of ((hidS S0_18) _ _ z_u6)) (.cons (.str k) (.cons (.str b) (.cons (.lst (SqL.of ((hidS S0_18) _ _ z_u5)) (dps_of_strs (y0 :: yt))) .nil))), wb_sl⟩
      rcases List.mem_cons.mp hx with rfl | hx
      · exact ⟨.tuple [.str k, .str b, .tuple (tsD ((y0 :: yt) ++ ([("any" : Str)] : List Str)))], .tup (SqT.of ((hidS S3_18) _ _ z_u7)) (.cons (.str k) (.cons (.str b) (.cons (.tup (by rw [← any_app]; exact (SqT.of ((hidS S2_18) _ _ z_t2))) (dps_of_strs ((y0 :: yt) ++ ([("any" : Str)] : List Str)))) .nil))), wb_any hys hm m3⟩
      rcases List.mem_cons.mp hx with rfl | hx
      · exact ⟨.tuple [.str k, .str b, .tuple (tsD ((y0 :: yt).drop 1))], .tup (SqT.of ((hidS S5_18) _ _ z_u8)) (.cons (.str k) (.cons (.str b) (.cons (.tup (SqT.of ((hidS S4_18) _ _ z_t3)) (dps_of_strs yt)) .nil))), wb_cut hys hm m3 m1⟩
      rcases List.mem_cons.mp hx with rfl | hx
      · exact ⟨.tuple [.str k, .none, .tuple (tsD (y0 :: yt))], .tup (SqT.of ((hidS S6_18) _ _ z_u9)) (.cons (.str k) (.cons .non (.cons (.tup (same_seqT (hidS S0_18) z_sa) (dps_of_strs (y0 :: yt))) .nil))), wb_n hys hm m3⟩
      rcases List.mem_cons.mp hx with rfl | hx
      · exact ⟨.tuple [.str k, .str b, .tuple (.str "small" :: tsD ((y0 :: yt).drop 1))], .tup (SqT.of ((hidS S12_18) _ _ z_u10)) (.cons (.str k) (.cons (.str b) (.cons (.tup (same_seqT (hidS S11_18) z_t6) (.cons (.str "small") (dps_of_strs yt))) .nil))), wb_small hys hm m3⟩
      rcases List.mem_cons.mp hx with rfl | hx
      · exact ⟨.tuple [.str k, .str b, .tuple (.none :: tsD ((y0 :: yt).drop 1))], .tup (SqT.of ((hidS S16_18) _ _ z_u11)) (.cons (.str k) (.cons (.str b) (.cons (.tup (same_seqT (hidS S15_18) z_t9) (.cons .non (dps_of_strs yt))) .nil))), wb_nsign hys hm m3⟩
      rcases List.mem_cons.mp hx with rfl | hx
      · exact ⟨.tuple [.str k, .str b, .tuple (tsD (y0 :: yt))], .tup (same_seqT (hidS S0_18) z_wa) (.cons (.str k) (.cons (.str b) (.cons (.tup (same_seqT (hidS S0_18) z_sa) (dps_of_strs (y0 :: yt))) .nil))), wb_same hys hm m3 List.mem_cons_self⟩
      exact absurd hx List.not_mem_nil
    · refine ⟨rfl, _, rfl, r, .ref wl, rfl, dget (sZ _ _ (S0_18 _ _ e_r)) rfl, _, rfl, sm3 (by simp), fun c hc => ?_⟩
      refine ⟨_, _, _, _, rfl, rfl, (same_put hc) _ _ (sZ _ _ (S0_18 _ _ e_wl)), upd_same, sm3 (by show (V.ref wa :: wr).length + 1 ≤ 1000; omega), fun p hp => ⟨sm3 (by simp), fun q hq => ?_⟩⟩
      exact kZ _ p q ((same_put hc).trans (same_put hp)) upd_same ((same_put hc).free hp) hq
    obtain ⟨J19, hh19⟩ : ∃ z, z = Z1 := ⟨_, rfl⟩
    subst hh19
    have sJ19 := sZ1
    have S0_19 := S0_18.trans sJ19
    have bD1 := bZ1
    refine ⟨(sm3 (by simp)), fun v1 h_v1 => ?_⟩
    have sJ20 : Same J19 (upd J19 v1 (.lst [])) := same_put h_v1
    have e_v1 : (upd J19 v1 (.lst [])) v1 = some (.lst []) := upd_same
    have z_v1 : hid P (upd J19 v1 (.lst [])) v1 = some (.lst []) := (hid_ne (np_of e_P S0_19 h_v1)).trans e_v1
    generalize (upd J19 v1 (.lst [])) = J20 at sJ20 e_v1 z_v1 ⊢
    have S0_20 := S0_19.trans sJ20
    refine ⟨_, rfl, r, .ref wl, rfl, dget (S0_20 _ _ e_r) rfl, wl, _, rfl, .inl ⟨(SqL.of (S0_20 _ _ e_wl)), fun v2 h_v2 => ?_⟩⟩
    have sJ21 : Same J20 (upd J20 v2 (.tup (V.ref wa :: wr))) := same_put h_v2
    have e_v2 : (upd J20 v2 (.tup (V.ref wa :: wr))) v2 = some (.tup (V.ref wa :: wr)) := upd_same
    have z_v2 : hid P (upd J20 v2 (.tup (V.ref wa :: wr))) v2 = some (.tup (V.ref wa :: wr)) := (hid_ne (np_of e_P S0_20 h_v2)).trans e_v2
    generalize (upd J20 v2 (.tup (V.ref wa :: wr))) = J21 at sJ21 e_v2 z_v2 ⊢
    have S0_21 := S0_20.trans sJ21
    refine ⟨(sm3 (by simp)), fun x0 h_x0 => ?_⟩
    have sJ22 : Same J21 (upd J21 x0 (.lst [.non, .ref v1, .ref v2, .int 5])) := same_put h_x0
    have e_x0 : (upd J21 x0 (.lst [.non, .ref v1, .ref v2, .int 5])) x0 = some (.lst [.non, .ref v1, .ref v2, .int 5]) := upd_same
    have z_x0 : hid P (upd J21 x0 (.lst [.non, .ref v1, .ref v2, .int 5])) x0 = some (.lst [.non, .ref v1, .ref v2, .int 5]) := (hid_ne (np_of e_P S0_21 h_x0)).trans e_x0
    generalize (upd J21 x0 (.lst [.non, .ref v1, .ref v2, .int 5])) = J22 at sJ22 e_x0 z_x0 ⊢
    have S0_22 := S0_21.trans sJ22
    refine ⟨x0, rfl, ⟨_, (SqL.of e_x0)⟩, fun E1 h_E1 => ?_⟩
    have S20_22 := sJ21.trans sJ22
    refine lc_odd (K := K) (P := P) (l := k0 :: lr2) (many := kvs.length) (c := 2) (S0_22 _ _ e_P) (SqL.of e_x0) (by simp) h_E1 ?_ (fun x Z Q2 kZ => ⟨rfl, _, rfl, sm3 (by simp), fun q hq => kZ q hq⟩) fun ZE1 sZE1 bZE1 => ?_
    · intro x hx
      rcases List.mem_cons.mp hx with rfl | hx
      · exact .y .non trivial rfl
      rcases List.mem_cons.mp hx with rfl | hx
      · exact .y (.lst (SqL.of ((hidS S20_22) _ _ z_v1)) .nil) ⟨by show 0 ≤ 1000; decide, fun z hz => absurd hz List.not_mem_nil⟩ rfl
      rcases List.mem_cons.mp hx with rfl | hx
      · exact .y (.tup (SqT.of ((hidS sJ22) _ _ z_v2)) (dps_same (hidS S0_22) _ _ hda)) trivial rfl
      rcases List.mem_cons.mp hx with rfl | hx
      · exact .y (.int 5) trivial rfl
      exact absurd hx List.not_mem_nil
    obtain ⟨J23, hh23⟩ : ∃ z, z = ZE1 := ⟨_, rfl⟩
    subst hh23
    have sJ23 := sZE1
    have S0_23 := S0_22.trans sJ23
    have S19_21 := sJ20.trans sJ21
    have S19_22 := S19_21.trans sJ22
    have S19_23 := S19_22.trans sJ23
    obtain ⟨xs_f1, ex_f1, lx_f1, ax_f1⟩ := (BL.same bD1 (hidS S19_23))
    obtain ⟨ys_f1, ey_f1, ly_f1, ay_f1⟩ := bZE1
    refine ⟨_, _, _, _, rfl, rfl, (hid_le _ _ ex_f1), (hid_le _ _ ey_f1), (sm3 (by rw [lx_f1, ly_f1]; show 13 + 4 ≤ 1000; decide)), fun f1 h_f1 => ?_⟩
    have bl_f1 : BL K (hid P (upd J23 f1 (.lst (xs_f1 ++ ys_f1)))) (k0 :: lr2) kvs.length f1 17 := BL.cat ⟨lx_f1, ax_f1⟩ ⟨ly_f1, ay_f1⟩ h_f1 (np_of e_P S0_23 h_f1)
    have sJ24 : Same J23 (upd J23 f1 (.lst (xs_f1 ++ ys_f1))) := same_put h_f1
    generalize (upd J23 f1 (.lst (xs_f1 ++ ys_f1))) = J24 at sJ24 bl_f1 ⊢
    have S0_24 := S0_23.trans sJ24
    refine gn_st (σ' := [some (.ref r), some (.ref wa), some (.ref kl), some (.ref sa), some (.ref b4), some (.ref f1), none, none, none]) rfl ?_
    refine ⟨_, rfl, (sm3 (by simp)), fun v3 h_v3 => ?_⟩
    have sJ25 : Same J24 (upd J24 v3 (.lst [])) := same_put h_v3
    have e_v3 : (upd J24 v3 (.lst [])) v3 = some (.lst []) := upd_same
    have z_v3 : hid P (upd J24 v3 (.lst [])) v3 = some (.lst []) := (hid_ne (np_of e_P S0_24 h_v3)).trans e_v3
    generalize (upd J24 v3 (.lst [])) = J25 at sJ25 e_v3 z_v3 ⊢
    have S0_25 := S0_24.trans sJ25
    refine ⟨_, rfl, kl, _, rfl, .inl ⟨(SqL.of (S0_25 _ _ e_kl)), fun v4 h_v4 => ?_⟩⟩
    have sJ26 : Same J25 (upd J25 v4 (.tup ((k0 :: lr2).map V.str))) := same_put h_v4
    have e_v4 : (upd J25 v4 (.tup ((k0 :: lr2).map V.str))) v4 = some (.tup ((k0 :: lr2).map V.str)) := upd_same
    have z_v4 : hid P (upd J25 v4 (.tup ((k0 :: lr2).map V.str))) v4 = some (.tup ((k0 :: lr2).map V.str)) := (hid_ne (np_of e_P S0_25 h_v4)).trans e_v4
    generalize (upd J25 v4 (.tup ((k0 :: lr2).map V.str))) = J26 at sJ26 e_v4 z_v4 ⊢
    have S0_26 := S0_25.trans sJ26
    refine ⟨_, rfl, _, rfl, kl, _, _, _, rfl, rfl, (SqL.of (S0_26 _ _ e_kl)), (at_of (j := 0) rfl rfl), (sm3 (by simp)), fun v5 h_v5 => ?_⟩
    have sJ27 : Same J26 (upd J26 v5 (.lst [.str k0])) := same_put h_v5
    have e_v5 : (upd J26 v5 (.lst [.str k0])) v5 = some (.lst [.str k0]) := upd_same
    have z_v5 : hid P (upd J26 v5 (.lst [.str k0])) v5 = some (.lst [.str k0]) := (hid_ne (np_of e_P S0_26 h_v5)).trans e_v5
    generalize (upd J26 v5 (.lst [.str k0])) = J27 at sJ27 e_v5 z_v5 ⊢
    have S0_27 := S0_26.trans sJ27
    refine ⟨_, _, _, _, rfl, rfl, (S0_27 _ _ e_kl), e_v5, (sm3 (by rw [List.length_map]; show (k0 :: lr2).length + 1 ≤ 1000; omega)), fun v6 h_v6 => ?_⟩
    have sJ28 : Same J27 (upd J27 v6 (.lst ((k0 :: lr2).map V.str ++ [.str k0]))) := same_put h_v6
    have e_v6 : (upd J27 v6 (.lst ((k0 :: lr2).map V.str ++ [.str k0]))) v6 = some (.lst ((k0 :: lr2).map V.str ++ [.str k0])) := upd_same
    have z_v6 : hid P (upd J27 v6 (.lst ((k0 :: lr2).map V.str ++ [.str k0]))) v6 = some (.lst ((k0 :: lr2).map V.str ++ [.str k0])) := (hid_ne (np_of e_P S0_27 h_v6)).trans e_v6
    generalize (upd J27 v6 (.lst ((k0 :: lr2).map V.str ++ [.str k0]))) = J28 at sJ28 e_v6 z_v6 ⊢
    have S0_28 := S0_27.trans sJ28
    refine ⟨(sm3 (by simp)), fun v7 h_v7 => ?_⟩
    have sJ29 : Same J28 (upd J28 v7 (.lst [.str "A"])) := same_put h_v7
    have e_v7 : (upd J28 v7 (.lst [.str "A"])) v7 = some (.lst [.str "A"]) := upd_same
    have z_v7 : hid P (upd J28 v7 (.lst [.str "A"])) v7 = some (.lst [.str "A"]) := (hid_ne (np_of e_P S0_28 h_v7)).trans e_v7
    generalize (upd J28 v7 (.lst [.str "A"])) = J29 at sJ29 e_v7 z_v7 ⊢
    have S0_29 := S0_28.trans sJ29
    refine ⟨(sm3 (by simp)), fun v8 h_v8 => ?_⟩
    have sJ30 : Same J29 (upd J29 v8 (.lst [.int 1])) := same_put h_v8
    have e_v8 : (upd J29 v8 (.lst [.int 1])) v8 = some (.lst [.int 1]) := upd_same
    have z_v8 : hid P (upd J29 v8 (.lst [.int 1])) v8 = some (.lst [.int 1]) := (hid_ne (np_of e_P S0_29 h_v8)).trans e_v8
    generalize (upd J29 v8 (.lst [.int 1])) = J30 at sJ30 e_v8 z_v8 ⊢
    have S0_30 := S0_29.trans sJ30
    refine ⟨(sm3 (by simp)), fun x1 h_x1 => ?_⟩
    have sJ31 : Same J30 (upd J30 x1 (.lst [.non, .ref v3, .str "a", .ref v4, .ref v6, .ref v7, .ref v8])) := same_put h_x1
    have e_x1 : (upd J30 x1 (.lst [.non, .ref v3, .str "a", .ref v4, .ref v6, .ref v7, .ref v8])) x1 = some (.lst [.non, .ref v3, .str "a", .ref v4, .ref v6, .ref v7, .ref v8]) := upd_same
    have z_x1 : hid P (upd J30 x1 (.lst [.non, .ref v3, .str "a", .ref v4, .ref v6, .ref v7, .ref v8])) x1 = some (.lst [.non, .ref v3, .str "a", .ref v4, .ref v6, .ref v7, .ref v8]) := (hid_ne (np_of e_P S0_30 h_x1)).trans e_x1
    generalize (upd J30 x1 (.lst [.non, .ref v3, .str "a", .ref v4, .ref v6, .ref v7, .ref v8])) = J31 at sJ31 e_x1 z_x1 ⊢
    have S0_31 := S0_30.trans sJ31
    refine ⟨x1, rfl, ⟨_, (SqL.of e_x1)⟩, fun E2 h_E2 => ?_⟩
    have S25_27 := sJ26.trans sJ27
    have S25_28 := S25_27.trans sJ28
    have S25_29 := S25_28.trans sJ29
    have S25_30 := S25_29.trans sJ30
    have S25_31 := S25_30.trans sJ31
    have S26_28 := sJ27.trans sJ28
    have S26_29 := S26_28.trans sJ29
    have S26_30 := S26_29.trans sJ30
    have S26_31 := S26_30.trans sJ31
    have S28_30 := sJ29.trans sJ30
    have S28_31 := S28_30.trans sJ31
    have S29_31 := sJ30.trans sJ31
    refine lc_odd (K := K) (P := P) (l := k0 :: lr2) (many := kvs.length) (c := 0) (S0_31 _ _ e_P) (SqL.of e_x1) (by simp) h_E2 ?_ (fun x Z Q2 kZ => ⟨rfl, _, rfl, sm3 (by simp), fun q hq => kZ q hq⟩) fun ZE2 sZE2 bZE2 => ?_
    · intro x hx
      rcases List.mem_cons.mp hx with rfl | hx
      · exact .k .non trivial rfl
      rcases List.mem_cons.mp hx with rfl | hx
      · exact .k (.lst (SqL.of ((hidS S25_31) _ _ z_v3)) .nil) ⟨by show 0 ≤ 1000; decide, fun z hz => absurd hz List.not_mem_nil⟩ rfl
      rcases List.mem_cons.mp hx with rfl | hx
      · exact .k (.str "a") (by show (1 : Nat) ≤ 1000; decide) rfl
      rcases List.mem_cons.mp hx with rfl | hx
      · exact .k (.tup (SqT.of ((hidS S26_31) _ _ z_v4)) (dps_of_strs (k0 :: lr2))) trivial rfl
      rcases List.mem_cons.mp hx with rfl | hx
      · exact .k (d := strD ((k0 :: lr2) ++ [k0])) (.lst (by rw [kinds_app]; exact (SqL.of ((hidS S28_31) _ _ z_v6))) (dps_of_strs _)) (ok_words (fun y hy => kw y (by rcases List.mem_append.mp hy with h | h <;> first | exact h | (rw [List.mem_singleton.mp h]; exact List.mem_cons_self))) (by rw [List.length_append]; show (k0 :: lr2).length + 1 ≤ 1000; omega)) kinds_twice
      rcases List.mem_cons.mp hx with rfl | hx
      · exact .k (d := .list [.str "A"]) (.lst (SqL.of ((hidS S29_31) _ _ z_v7)) (.cons (.str "A") .nil)) ⟨by show 1 ≤ 1000; decide, fun d hd y e => by first | (simp at hd; subst hd; cases e; decide +kernel) | (simp at hd; rcases hd with rfl | rfl <;> cases e <;> decide +kernel) | (simp at hd; rcases hd with rfl | rfl | rfl | rfl | rfl | rfl <;> cases e <;> decide +kernel)⟩ (by decide +kernel)
      rcases List.mem_cons.mp hx with rfl | hx
      · exact .k (d := .list [.int 1]) (.lst (SqL.of ((hidS sJ31) _ _ z_v8)) (.cons (.int 1) .nil)) ⟨by show 1 ≤ 1000; decide, fun d hd y e => by first | (simp at hd; subst hd; cases e; decide +kernel) | (simp at hd; rcases hd with rfl | rfl <;> cases e <;> decide +kernel) | (simp at hd; rcases hd with rfl | rfl | rfl | rfl | rfl | rfl <;> cases e <;> decide +kernel)⟩ (by decide +kernel)
      exact absurd hx List.not_mem_nil
    obtain ⟨J32, hh32⟩ : ∃ z, z = ZE2 := ⟨_, rfl⟩
    subst hh32
    have sJ32 := sZE2
    have S0_32 := S0_31.trans sJ32
    have S24_26 := sJ25.trans sJ26
    have S24_27 := S24_26.trans sJ27
    have S24_28 := S24_27.trans sJ28
    have S24_29 := S24_28.trans sJ29
    have S24_30 := S24_29.trans sJ30
    have S24_31 := S24_30.trans sJ31
    have S24_32 := S24_31.trans sJ32
    obtain ⟨xs_f2, ex_f2, lx_f2, ax_f2⟩ := (BL.same bl_f1 (hidS S24_32))
    obtain ⟨ys_f2, ey_f2, ly_f2, ay_f2⟩ := bZE2
    refine ⟨_, _, _, _, rfl, rfl, (hid_le _ _ ex_f2), (hid_le _ _ ey_f2), (sm3 (by rw [lx_f2, ly_f2]; show 17 + 7 ≤ 1000; decide)), fun f2 h_f2 => ?_⟩
    have bl_f2 : BL K (hid P (upd J32 f2 (.lst (xs_f2 ++ ys_f2)))) (k0 :: lr2) kvs.length f2 24 := BL.cat ⟨lx_f2, ax_f2⟩ ⟨ly_f2, ay_f2⟩ h_f2 (np_of e_P S0_32 h_f2)
    have sJ33 : Same J32 (upd J32 f2 (.lst (xs_f2 ++ ys_f2))) := same_put h_f2
    generalize (upd J32 f2 (.lst (xs_f2 ++ ys_f2))) = J33 at sJ33 bl_f2 ⊢
    have S0_33 := S0_32.trans sJ33
    refine gn_st (σ' := [some (.ref r), some (.ref wa), some (.ref kl), some (.ref sa), some (.ref b4), some (.ref f2), none, none, none]) rfl ?_
    refine ⟨_, rfl, (sm3 (by simp)), fun v9 h_v9 => ?_⟩
    have sJ34 : Same J33 (upd J33 v9 (.lst [.str "a", .str "b", .str "c", .str "d", .str "e", .str "f"])) := same_put h_v9
    have e_v9 : (upd J33 v9 (.lst [.str "a", .str "b", .str "c", .str "d", .str "e", .str "f"])) v9 = some (.lst [.str "a", .str "b", .str "c", .str "d", .str "e", .str "f"]) := upd_same
    have z_v9 : hid P (upd J33 v9 (.lst [.str "a", .str "b", .str "c", .str "d", .str "e", .str "f"])) v9 = some (.lst [.str "a", .str "b", .str "c", .str "d", .str "e", .str "f"]) := (hid_ne (np_of e_P S0_33 h_v9)).trans e_v9
    generalize (upd J33 v9 (.lst [.str "a", .str "b", .str "c", .str "d", .str "e", .str "f"])) = J34 at sJ34 e_v9 z_v9 ⊢
    have S0_34 := S0_33.trans sJ34
    refine ⟨(sm3 (by simp)), fun v10 h_v10 => ?_⟩
    have sJ35 : Same J34 (upd J34 v10 (.lst [.str "abcdefghi"])) := same_put h_v10
    have e_v10 : (upd J34 v10 (.lst [.str "abcdefghi"])) v10 = some (.lst [.str "abcdefghi"]) := upd_same
    have z_v10 : hid P (upd J34 v10 (.lst [.str "abcdefghi"])) v10 = some (.lst [.str "abcdefghi"]) := (hid_ne (np_of e_P S0_34 h_v10)).trans e_v10
    generalize (upd J34 v10 (.lst [.str "abcdefghi"])) = J35 at sJ35 e_v10 z_v10 ⊢
    have S0_35 := S0_34.trans sJ35
    refine ⟨(sm3 (by simp)), fun v11 h_v11 => ?_⟩
    have sJ36 : Same J35 (upd J35 v11 (.lst [.str ""])) := same_put h_v11
    have e_v11 : (upd J35 v11 (.lst [.str ""])) v11 = some (.lst [.str ""]) := upd_same
    have z_v11 : hid P (upd J35 v11 (.lst [.str ""])) v11 = some (.lst [.str ""]) := (hid_ne (np_of e_P S0_35 h_v11)).trans e_v11
    generalize (upd J35 v11 (.lst [.str ""])) = J36 at sJ36 e_v11 z_v11 ⊢
    have S0_36 := S0_35.trans sJ36
    refine ⟨(sm3 (by simp)), fun v12 h_v12 => ?_⟩
    have sJ37 : Same J36 (upd J36 v12 (.lst [.str "a", .non])) := same_put h_v12
    have e_v12 : (upd J36 v12 (.lst [.str "a", .non])) v12 = some (.lst [.str "a", .non]) := upd_same
    have z_v12 : hid P (upd J36 v12 (.lst [.str "a", .non])) v12 = some (.lst [.str "a", .non]) := (hid_ne (np_of e_P S0_36 h_v12)).trans e_v12
    generalize (upd J36 v12 (.lst [.str "a", .non])) = J37 at sJ37 e_v12 z_v12 ⊢
    have S0_37 := S0_36.trans sJ37
    refine ⟨(sm3 (by simp)), fun v13 h_v13 => ?_⟩
    have sJ38 : Same J37 (upd J37 v13 (.lst [.str "a b"])) := same_put h_v13
    have e_v13 : (upd J37 v13 (.lst [.str "a b"])) v13 = some (.lst [.str "a b"]) := upd_same
    have z_v13 : hid P (upd J37 v13 (.lst [.str "a b"])) v13 = some (.lst [.str "a b"]) := (hid_ne (np_of e_P S0_37 h_v13)).trans e_v13
    generalize (upd J37 v13 (.lst [.str "a b"])) = J38 at sJ38 e_v13 z_v13 ⊢
    have S0_38 := S0_37.trans sJ38
    refine ⟨(sm3 (by simp)), fun x2 h_x2 => ?_⟩
    have sJ39 : Same J38 (upd J38 x2 (.lst [.ref v9, .ref v10, .ref v11, .ref v12, .ref v13])) := same_put h_x2
    have e_x2 : (upd J38 x2 (.lst [.ref v9, .ref v10, .ref v11, .ref v12, .ref v13])) x2 = some (.lst [.ref v9, .ref v10, .ref v11, .ref v12, .ref v13]) := upd_same
    have z_x2 : hid P (upd J38 x2 (.lst [.ref v9, .ref v10, .ref v11, .ref v12, .ref v13])) x2 = some (.lst [.ref v9, .ref v10, .ref v11, .ref v12, .ref v13]) := (hid_ne (np_of e_P S0_38 h_x2)).trans e_x2
    generalize (upd J38 x2 (.lst [.ref v9, .ref v10, .ref v11, .ref v12, .ref v13])) = J39 at sJ39 e_x2 z_x2 ⊢
    have S0_39 := S0_38.trans sJ39
    refine ⟨x2, rfl, ⟨_, (SqL.of e_x2)⟩, fun E3 h_E3 => ?_⟩
    have S34_36 := sJ35.trans sJ36
    have S34_37 := S34_36.trans sJ37
    have S34_38 := S34_37.trans sJ38
    have S34_39 := S34_38.trans sJ39
    have S35_37 := sJ36.trans sJ37
    have S35_38 := S35_37.trans sJ38
    have S35_39 := S35_38.trans sJ39
    have S36_38 := sJ37.trans sJ38
    have S36_39 := S36_38.trans sJ39
    have S37_39 := sJ38.trans sJ39
    refine lc_odd (K := K) (P := P) (l := k0 :: lr2) (many := kvs.length) (c := 0) (S0_39 _ _ e_P) (SqL.of e_x2) (by simp) h_E3 ?_ (fun x Z Q2 kZ => ⟨rfl, _, rfl, sm3 (by simp), fun q hq => kZ q hq⟩) fun ZE3 sZE3 bZE3 => ?_
    · intro x hx
      rcases List.mem_cons.mp hx with rfl | hx
      · exact .k (d := .list [.str "a", .str "b", .str "c", .str "d", .str "e", .str "f"]) (.lst (SqL.of ((hidS S34_39) _ _ z_v9)) (.cons (.str "a") (.cons (.str "b") (.cons (.str "c") (.cons (.str "d") (.cons (.str "e") (.cons (.str "f") .nil))))))) ⟨by show 6 ≤ 1000; decide, fun d hd y e => by first | (simp at hd; subst hd; cases e; decide +kernel) | (simp at hd; rcases hd with rfl | rfl <;> cases e <;> decide +kernel) | (simp at hd; rcases hd with rfl | rfl | rfl | rfl | rfl | rfl <;> cases e <;> decide +kernel)⟩ (by decide +kernel)
      rcases List.mem_cons.mp hx with rfl | hx
      · exact .k (d := .list [.str "abcdefghi"]) (.lst (SqL.of ((hidS S35_39) _ _ z_v10)) (.cons (.str "abcdefghi") .nil)) ⟨by show 1 ≤ 1000; decide, fun d hd y e => by first | (simp at hd; subst hd; cases e; decide +kernel) | (simp at hd; rcases hd with rfl | rfl <;> cases e <;> decide +kernel) | (simp at hd; rcases hd with rfl | rfl | rfl | rfl | rfl | rfl <;> cases e <;> decide +kernel)⟩ (by decide +kernel)
      rcases List.mem_cons.mp hx with rfl | hx
      · exact .k (d := .list [.str ""]) (.lst (SqL.of ((hidS S36_39) _ _ z_v11)) (.cons (.str "") .nil)) ⟨by show 1 ≤ 1000; decide, fun d hd y e => by first | (simp at hd; subst hd; cases e; decide +kernel) | (simp at hd; rcases hd with rfl | rfl <;> cases e <;> decide +kernel) | (simp at hd; rcases hd with rfl | rfl | rfl | rfl | rfl | rfl <;> cases e <;> decide +kernel)⟩ (by decide +kernel)
      rcases List.mem_cons.mp hx with rfl | hx
      · exact .k (d := .list [.str "a", .none]) (.lst (SqL.of ((hidS S37_39) _ _ z_v12)) (.cons (.str "a") (.cons .non .nil))) ⟨by show 2 ≤ 1000; decide, fun d hd y e => by first | (simp at hd; subst hd; cases e; decide +kernel) | (simp at hd; rcases hd with rfl | rfl <;> cases e <;> decide +kernel) | (simp at hd; rcases hd with rfl | rfl | rfl | rfl | rfl | rfl <;> cases e <;> decide +kernel)⟩ (by decide +kernel)
      rcases List.mem_cons.mp hx with rfl | hx
      · exact .k (d := .list [.str "a b"]) (.lst (SqL.of ((hidS sJ39) _ _ z_v13)) (.cons (.str "a b") .nil)) ⟨by show 1 ≤ 1000; decide, fun d hd y e => by first | (simp at hd; subst hd; cases e; decide +kernel) | (simp at hd; rcases hd with rfl | rfl <;> cases e <;> decide +kernel) | (simp at hd; rcases hd with rfl | rfl | rfl | rfl | rfl | rfl <;> cases e <;> decide +kernel)⟩ (by decide +kernel)
      exact absurd hx List.not_mem_nil
    obtain ⟨J40, hh40⟩ : ∃ z, z = ZE3 := ⟨_, rfl⟩
    subst hh40
    have sJ40 := sZE3
    have S0_40 := S0_39.trans sJ40
    have S33_35 := sJ34.trans sJ35
    have S33_36 := S33_35.trans sJ36
    have S33_37 := S33_36.trans sJ37
    have S33_38 := S33_37.trans sJ38
    have S33_39 := S33_38.trans sJ39
    have S33_40 := S33_39.trans sJ40
    obtain ⟨xs_f3, ex_f3, lx_f3, ax_f3⟩ := (BL.same bl_f2 (hidS S33_40))
    obtain ⟨ys_f3, ey_f3, ly_f3, ay_f3⟩ := bZE3
    refine ⟨_, _, _, _, rfl, rfl, (hid_le _ _ ex_f3), (hid_le _ _ ey_f3), (sm3 (by rw [lx_f3, ly_f3]; show 24 + 5 ≤ 1000; decide)), fun f3 h_f3 => ?_⟩
    have bl_f3 : BL K (hid P (upd J40 f3 (.lst (xs_f3 ++ ys_f3)))) (k0 :: lr2) kvs.length f3 29 := BL.cat ⟨lx_f3, ax_f3⟩ ⟨ly_f3, ay_f3⟩ h_f3 (np_of e_P S0_40 h_f3)
    have sJ41 : Same J40 (upd J40 f3 (.lst (xs_f3 ++ ys_f3))) := same_put h_f3
    generalize (upd J40 f3 (.lst (xs_f3 ++ ys_f3))) = J41 at sJ41 bl_f3 ⊢
    have S0_41 := S0_40.trans sJ41
    refine gn_st (σ' := [some (.ref r), some (.ref wa), some (.ref kl), some (.ref sa), some (.ref b4), some (.ref f3), none, none, none]) rfl ?_
    refine fun v14 h_v14 => ?_
    refine ⟨upd_same, [(.inr "a", .bl true), (.inr "b", .bl true), (.inr "c", .bl true), (.inr "d", .bl true)], rfl, by decide, ?_⟩
    rw [show mergeK [] ([(.inr "a", .bl true), (.inr "b", .bl true), (.inr "c", .bl true), (.inr "d", .bl true)] : List (Key × V)) = [(.inr "a", .bl true), (.inr "b", .bl true), (.inr "c", .bl true), (.inr "d", .bl true)] by decide +kernel, upd_upd]
    have sJ42 : Same J41 (upd J41 v14 (.dK [(.inr "a", .bl true), (.inr "b", .bl true), (.inr "c", .bl true), (.inr "d", .bl true)])) := same_put h_v14
    have e_v14 : (upd J41 v14 (.dK [(.inr "a", .bl true), (.inr "b", .bl true), (.inr "c", .bl true), (.inr "d", .bl true)])) v14 = some (.dK [(.inr "a", .bl true), (.inr "b", .bl true), (.inr "c", .bl true), (.inr "d", .bl true)]) := upd_same
    have z_v14 : hid P (upd J41 v14 (.dK [(.inr "a", .bl true), (.inr "b", .bl true), (.inr "c", .bl true), (.inr "d", .bl true)])) v14 = some (.dK [(.inr "a", .bl true), (.inr "b", .bl true), (.inr "c", .bl true), (.inr "d", .bl true)]) := (hid_ne (np_of e_P S0_41 h_v14)).trans e_v14
    generalize (upd J41 v14 (.dK [(.inr "a", .bl true), (.inr "b", .bl true), (.inr "c", .bl true), (.inr "d", .bl true)])) = J42 at sJ42 e_v14 z_v14 ⊢
    have S0_42 := S0_41.trans sJ42
    refine gn_st (σ' := [some (.ref r), some (.ref wa), some (.ref kl), some (.ref sa), some (.ref b4), some (.ref f3), some (.ref v14), none, none]) rfl ?_
    refine ⟨_, rfl, fun v15 h_v15 => ?_⟩
    have sJ43 : Same J42 (upd J42 v15 (.dK [])) := same_put h_v15
    have e_v15 : (upd J42 v15 (.dK [])) v15 = some (.dK []) := upd_same
    have z_v15 : hid P (upd J42 v15 (.dK [])) v15 = some (.dK []) := (hid_ne (np_of e_P S0_42 h_v15)).trans e_v15
    generalize (upd J42 v15 (.dK [])) = J43 at sJ43 e_v15 z_v15 ⊢
    have S0_43 := S0_42.trans sJ43
    refine ⟨_, rfl, fun v16 h_v16 => ?_⟩
    refine ⟨upd_same, [(.inr "A", .bl true)], rfl, by decide, ?_⟩
    rw [show mergeK [] ([(.inr "A", .bl true)] : List (Key × V)) = [(.inr "A", .bl true)] by decide +kernel, upd_upd]
    have sJ44 : Same J43 (upd J43 v16 (.dK [(.inr "A", .bl true)])) := same_put h_v16
    have e_v16 : (upd J43 v16 (.dK [(.inr "A", .bl true)])) v16 = some (.dK [(.inr "A", .bl true)]) := upd_same
    have z_v16 : hid P (upd J43 v16 (.dK [(.inr "A", .bl true)])) v16 = some (.dK [(.inr "A", .bl true)]) := (hid_ne (np_of e_P S0_43 h_v16)).trans e_v16
    generalize (upd J43 v16 (.dK [(.inr "A", .bl true)])) = J44 at sJ44 e_v16 z_v16 ⊢
    have S0_44 := S0_43.trans sJ44
    refine fun v17 h_v17 => ?_
    refine ⟨upd_same, [(.inr "age", .int 1)], rfl, by decide, ?_⟩
    rw [show mergeK [] ([(.inr "age", .int 1)] : List (Key × V)) = [(.inr "age", .int 1)] by decide +kernel, upd_upd]
    have sJ45 : Same J44 (upd J44 v17 (.dK [(.inr "age", .int 1)])) := same_put h_v17
    have e_v17 : (upd J44 v17 (.dK [(.inr "age", .int 1)])) v17 = some (.dK [(.inr "age", .int 1)]) := upd_same
    have z_v17 : hid P (upd J44 v17 (.dK [(.inr "age", .int 1)])) v17 = some (.dK [(.inr "age", .int 1)]) := (hid_ne (np_of e_P S0_44 h_v17)).trans e_v17
    generalize (upd J44 v17 (.dK [(.inr "age", .int 1)])) = J45 at sJ45 e_v17 z_v17 ⊢
    have S0_45 := S0_44.trans sJ45
    refine fun v18 h_v18 => ?_
    refine ⟨upd_same, [(.inr "age", .non)], rfl, by decide, ?_⟩
    rw [show mergeK [] ([(.inr "age", .non)] : List (Key × V)) = [(.inr "age", .non)] by decide +kernel, upd_upd]
    have sJ46 : Same J45 (upd J45 v18 (.dK [(.inr "age", .non)])) := same_put h_v18
    have e_v18 : (upd J45 v18 (.dK [(.inr "age", .non)])) v18 = some (.dK [(.inr "age", .non)]) := upd_same
    have z_v18 : hid P (upd J45 v18 (.dK [(.inr "age", .non)])) v18 = some (.dK [(.inr "age", .non)]) := (hid_ne (np_of e_P S0_45 h_v18)).trans e_v18
    generalize (upd J45 v18 (.dK [(.inr "age", .non)])) = J46 at sJ46 e_v18 z_v18 ⊢
    have S0_46 := S0_45.trans sJ46
    refine ⟨(sm3 (by simp)), fun v19 h_v19 => ?_⟩
    have sJ47 : Same J46 (upd J46 v19 (.lst [.str "age"])) := same_put h_v19
    have e_v19 : (upd J46 v19 (.lst [.str "age"])) v19 = some (.lst [.str "age"]) := upd_same
    have z_v19 : hid P (upd J46 v19 (.lst [.str "age"])) v19 = some (.lst [.str "age"]) := (hid_ne (np_of e_P S0_46 h_v19)).trans e_v19
    generalize (upd J46 v19 (.lst [.str "age"])) = J47 at sJ47 e_v19 z_v19 ⊢
    have S0_47 := S0_46.trans sJ47
    refine fun v20 h_v20 => ?_
    refine ⟨upd_same, [(.inl 5, .bl true)], rfl, by decide, ?_⟩
    rw [show mergeK [] ([(.inl 5, .bl true)] : List (Key × V)) = [(.inl 5, .bl true)] by decide +kernel, upd_upd]
    have sJ48 : Same J47 (upd J47 v20 (.dK [(.inl 5, .bl true)])) := same_put h_v20
    have e_v20 : (upd J47 v20 (.dK [(.inl 5, .bl true)])) v20 = some (.dK [(.inl 5, .bl true)]) := upd_same
    have z_v20 : hid P (upd J47 v20 (.dK [(.inl 5, .bl true)])) v20 = some (.dK [(.inl 5, .bl true)]) := (hid_ne (np_of e_P S0_47 h_v20)).trans e_v20
    generalize (upd J47 v20 (.dK [(.inl 5, .bl true)])) = J48 at sJ48 e_v20 z_v20 ⊢
    have S0_48 := S0_47.trans sJ48
    refine ⟨(sm3 (by simp)), fun x3 h_x3 => ?_⟩
    have sJ49 : Same J48 (upd J48 x3 (.lst [.non, .ref v15, .ref v14, .ref v16, .ref v17, .ref v18, .ref v19, .ref v20])) := same_put h_x3
    have e_x3 : (upd J48 x3 (.lst [.non, .ref v15, .ref v14, .ref v16, .ref v17, .ref v18, .ref v19, .ref v20])) x3 = some (.lst [.non, .ref v15, .ref v14, .ref v16, .ref v17, .ref v18, .ref v19, .ref v20]) := upd_same
    have z_x3 : hid P (upd J48 x3 (.lst [.non, .ref v15, .ref v14, .ref v16, .ref v17, .ref v18, .ref v19, .ref v20])) x3 = some (.lst [.non, .ref v15, .ref v14, .ref v16, .ref v17, .ref v18, .ref v19, .ref v20]) := (hid_ne (np_of e_P S0_48 h_x3)).trans e_x3
    generalize (upd J48 x3 (.lst [.non, .ref v15, .ref v14, .ref v16, .ref v17, .ref v18, .ref v19, .ref v20])) = J49 at sJ49 e_x3 z_x3 ⊢
    have S0_49 := S0_48.trans sJ49
    refine ⟨x3, rfl, ⟨_, (SqL.of e_x3)⟩, fun E4 h_E4 => ?_⟩
    have S43_45 := sJ44.trans sJ45
    have S43_46 := S43_45.trans sJ46
    have S43_47 := S43_46.trans sJ47
    have S43_48 := S43_47.trans sJ48
    have S43_49 := S43_48.trans sJ49
    have S42_44 := sJ43.trans sJ44
    have S42_45 := S42_44.trans sJ45
    have S42_46 := S42_45.trans sJ46
    have S42_47 := S42_46.trans sJ47
    have S42_48 := S42_47.trans sJ48
    have S42_49 := S42_48.trans sJ49
    have S44_46 := sJ45.trans sJ46
    have S44_47 := S44_46.trans sJ47
    have S44_48 := S44_47.trans sJ48
    have S44_49 := S44_48.trans sJ49
    have S45_47 := sJ46.trans sJ47
    have S45_48 := S45_47.trans sJ48
    have S45_49 := S45_48.trans sJ49
    have S46_48 := sJ47.trans sJ48
    have S46_49 := S46_48.trans sJ49
    have S47_49 := sJ48.trans sJ49
    refine lc_odd (K := K) (P := P) (l := k0 :: lr2) (many := kvs.length) (c := 1) (S0_49 _ _ e_P) (SqL.of e_x3) (by simp) h_E4 ?_ (fun x Z Q2 kZ => ⟨rfl, _, rfl, sm3 (by simp), fun q hq => kZ q hq⟩) fun ZE4 sZE4 bZE4 => ?_
    · intro x hx
      rcases List.mem_cons.mp hx with rfl | hx
      · exact .m (.other .non rfl) rfl
      rcases List.mem_cons.mp hx with rfl | hx
      · exact .m (.dict rfl (hidS S43_49 _ _ z_v15) (by decide) (by decide +kernel) (by decide +kernel) (fun p hp y e => by first | (simp at hp; done) | (simp at hp; subst hp; cases e; decide +kernel) | (simp at hp; rcases hp with rfl | rfl | rfl | rfl <;> cases e <;> decide +kernel))) (by decide +kernel)
      rcases List.mem_cons.mp hx with rfl | hx
      · exact .m (.dict rfl (hidS S42_49 _ _ z_v14) (by decide) (by decide +kernel) (by decide +kernel) (fun p hp y e => by first | (simp at hp; done) | (simp at hp; subst hp; cases e; decide +kernel) | (simp at hp; rcases hp with rfl | rfl | rfl | rfl <;> cases e <;> decide +kernel))) (by decide +kernel)
      rcases List.mem_cons.mp hx with rfl | hx
      · exact .m (.dict rfl (hidS S44_49 _ _ z_v16) (by decide) (by decide +kernel) (by decide +kernel) (fun p hp y e => by first | (simp at hp; done) | (simp at hp; subst hp; cases e; decide +kernel) | (simp at hp; rcases hp with rfl | rfl | rfl | rfl <;> cases e <;> decide +kernel))) (by decide +kernel)
      rcases List.mem_cons.mp hx with rfl | hx
      · exact .m (.dict rfl (hidS S45_49 _ _ z_v17) (by decide) (by decide +kernel) (by decide +kernel) (fun p hp y e => by first | (simp at hp; done) | (simp at hp; subst hp; cases e; decide +kernel) | (simp at hp; rcases hp with rfl | rfl | rfl | rfl <;> cases e <;> decide +kernel))) (by decide +kernel)
      rcases List.mem_cons.mp hx with rfl | hx
      · exact .m (.dict rfl (hidS S46_49 _ _ z_v18) (by decide) (by decide +kernel) (by decide +kernel) (fun p hp y e => by first | (simp at hp; done) | (simp at hp; subst hp; cases e; decide +kernel) | (simp at hp; rcases hp with rfl | rfl | rfl | rfl <;> cases e <;> decide +kernel))) (by decide +kernel)
      rcases List.mem_cons.mp hx with rfl | hx
      · exact .m (.other (.lst (SqL.of ((hidS S47_49) _ _ z_v19)) (.cons (.str "age") .nil)) rfl) rfl
      rcases List.mem_cons.mp hx with rfl | hx
      · exact .m (.dict rfl (hidS sJ49 _ _ z_v20) (by decide) (by decide +kernel) (by decide +kernel) (fun p hp y e => by first | (simp at hp; done) | (simp at hp; subst hp; cases e; decide +kernel) | (simp at hp; rcases hp with rfl | rfl | rfl | rfl <;> cases e <;> decide +kernel))) (by decide +kernel)
      exact absurd hx List.not_mem_nil
    obtain ⟨J50, hh50⟩ : ∃ z, z = ZE4 := ⟨_, rfl⟩
    subst hh50
    have sJ50 := sZE4
    have S0_50 := S0_49.trans sJ50
    have S41_43 := sJ42.trans sJ43
    have S41_44 := S41_43.trans sJ44
    have S41_45 := S41_44.trans sJ45
    have S41_46 := S41_45.trans sJ46
    have S41_47 := S41_46.trans sJ47
    have S41_48 := S41_47.trans sJ48
    have S41_49 := S41_48.trans sJ49
    have S41_50 := S41_49.trans sJ50
    obtain ⟨xs_f4, ex_f4, lx_f4, ax_f4⟩ := (BL.same bl_f3 (hidS S41_50))
    obtain ⟨ys_f4, ey_f4, ly_f4, ay_f4⟩ := bZE4
    refine ⟨_, _, _, _, rfl, rfl, (hid_le _ _ ex_f4), (hid_le _ _ ey_f4), (sm3 (by rw [lx_f4, ly_f4]; show 29 + 8 ≤ 1000; decide)), fun f4 h_f4 => ?_⟩
    have bl_f4 : BL K (hid P (upd J50 f4 (.lst (xs_f4 ++ ys_f4)))) (k0 :: lr2) kvs.length f4 37 := BL.cat ⟨lx_f4, ax_f4⟩ ⟨ly_f4, ay_f4⟩ h_f4 (np_of e_P S0_50 h_f4)
    have sJ51 : Same J50 (upd J50 f4 (.lst (xs_f4 ++ ys_f4))) := same_put h_f4
    generalize (upd J50 f4 (.lst (xs_f4 ++ ys_f4))) = J51 at sJ51 bl_f4 ⊢
    have S0_51 := S0_50.trans sJ51
    refine gn_st (σ' := [some (.ref r), some (.ref wa), some (.ref kl), some (.ref sa), some (.ref b4), some (.ref f4), some (.ref v14), none, none]) rfl ?_
    refine ⟨_, rfl, _, rfl, _, _, rfl, rfl, ⟨by decide, by decide, by decide⟩, (sm3 (by simp)), fun x4 h_x4 => ?_⟩
    have sJ52 : Same J51 (upd J51 x4 (.lst [.int (-1), .int 10, .bl true, .str "1", .bl false, .int ((10 : Int) ^ (20 : Int).toNat)])) := same_put h_x4
    have e_x4 : (upd J51 x4 (.lst [.int (-1), .int 10, .bl true, .str "1", .bl false, .int ((10 : Int) ^ (20 : Int).toNat)])) x4 = some (.lst [.int (-1), .int 10, .bl true, .str "1", .bl false, .int ((10 : Int) ^ (20 : Int).toNat)]) := upd_same
    have z_x4 : hid P (upd J51 x4 (.lst [.int (-1), .int 10, .bl true, .str "1", .bl false, .int ((10 : Int) ^ (20 : Int).toNat)])) x4 = some (.lst [.int (-1), .int 10, .bl true, .str "1", .bl false, .int ((10 : Int) ^ (20 : Int).toNat)]) := (hid_ne (np_of e_P S0_51 h_x4)).trans e_x4
    generalize (upd J51 x4 (.lst [.int (-1), .int 10, .bl true, .str "1", .bl false, .int ((10 : Int) ^ (20 : Int).toNat)])) = J52 at sJ52 e_x4 z_x4 ⊢
    have S0_52 := S0_51.trans sJ52
    refine ⟨x4, rfl, ⟨_, (SqL.of e_x4)⟩, fun E5 h_E5 => ?_⟩
    refine lc_odd (K := K) (P := P) (l := k0 :: lr2) (many := kvs.length) (c := 3) (S0_52 _ _ e_P) (SqL.of e_x4) (by simp) h_E5 ?_ (fun x Z Q2 kZ => ⟨rfl, _, rfl, sm3 (by simp), fun q hq => kZ q hq⟩) fun ZE5 sZE5 bZE5 => ?_
    · intro x hx
      rcases List.mem_cons.mp hx with rfl | hx
      · exact .d (.int _) (by decide)
      rcases List.mem_cons.mp hx with rfl | hx
      · exact .d (.int 10) (by decide)
      rcases List.mem_cons.mp hx with rfl | hx
      · exact .d (.bl true) rfl
      rcases List.mem_cons.mp hx with rfl | hx
      · exact .d (.str "1") rfl
      rcases List.mem_cons.mp hx with rfl | hx
      · exact .d (.bl false) rfl
      rcases List.mem_cons.mp hx with rfl | hx
      · exact .d (.int _) (by decide +kernel)
      exact absurd hx List.not_mem_nil
    obtain ⟨J53, hh53⟩ : ∃ z, z = ZE5 := ⟨_, rfl⟩
    subst hh53
    have sJ53 := sZE5
    have S0_53 := S0_52.trans sJ53
    have S51_53 := sJ52.trans sJ53
    obtain ⟨xs_f5, ex_f5, lx_f5, ax_f5⟩ := (BL.same bl_f4 (hidS S51_53))
    obtain ⟨ys_f5, ey_f5, ly_f5, ay_f5⟩ := bZE5
    refine ⟨_, _, _, _, rfl, rfl, (hid_le _ _ ex_f5), (hid_le _ _ ey_f5), (sm3 (by rw [lx_f5, ly_f5]; show 37 + 6 ≤ 1000; decide)), fun f5 h_f5 => ?_⟩
    have bl_f5 : BL K (hid P (upd J53 f5 (.lst (xs_f5 ++ ys_f5)))) (k0 :: lr2) kvs.length f5 43 := BL.cat ⟨lx_f5, ax_f5⟩ ⟨ly_f5, ay_f5⟩ h_f5 (np_of e_P S0_53 h_f5)
    have sJ54 : Same J53 (upd J53 f5 (.lst (xs_f5 ++ ys_f5))) := same_put h_f5
    generalize (upd J53 f5 (.lst (xs_f5 ++ ys_f5))) = J54 at sJ54 bl_f5 ⊢
    have S0_54 := S0_53.trans sJ54
    refine gn_st (σ' := [some (.ref r), some (.ref wa), some (.ref kl), some (.ref sa), some (.ref b4), some (.ref f5), some (.ref v14), none, none]) rfl ?_
    refine ⟨_, rfl, _, rfl, (sm3 (by simp)), fun x5 h_x5 => ?_⟩
    have sJ55 : Same J54 (upd J54 x5 (.lst [.int 0, .int 10, .bl true, .str "1", .int (-3), .bl false])) := same_put h_x5
    have e_x5 : (upd J54 x5 (.lst [.int 0, .int 10, .bl true, .str "1", .int (-3), .bl false])) x5 = some (.lst [.int 0, .int 10, .bl true, .str "1", .int (-3), .bl false]) := upd_same
    have z_x5 : hid P (upd J54 x5 (.lst [.int 0, .int 10, .bl true, .str "1", .int (-3), .bl false])) x5 = some (.lst [.int 0, .int 10, .bl true, .str "1", .int (-3), .bl false]) := (hid_ne (np_of e_P S0_54 h_x5)).trans e_x5
    generalize (upd J54 x5 (.lst [.int 0, .int 10, .bl true, .str "1", .int (-3), .bl false])) = J55 at sJ55 e_x5 z_x5 ⊢
    have S0_55 := S0_54.trans sJ55
    refine ⟨x5, rfl, ⟨_, (SqL.of e_x5)⟩, fun E6 h_E6 => ?_⟩
    refine lc_odd (K := K) (P := P) (l := k0 :: lr2) (many := kvs.length) (c := 4) (S0_55 _ _ e_P) (SqL.of e_x5) (by simp) h_E6 ?_ (fun x Z Q2 kZ => ⟨rfl, _, rfl, sm3 (by simp), fun q hq => kZ q hq⟩) fun ZE6 sZE6 bZE6 => ?_
    · intro x hx
      rcases List.mem_cons.mp hx with rfl | hx
      · exact .t (.int 0) (by decide)
      rcases List.mem_cons.mp hx with rfl | hx
      · exact .t (.int 10) (by decide)
      rcases List.mem_cons.mp hx with rfl | hx
      · exact .t (.bl true) rfl
      rcases List.mem_cons.mp hx with rfl | hx
      · exact .t (.str "1") rfl
      rcases List.mem_cons.mp hx with rfl | hx
      · exact .t (.int _) (by decide)
      rcases List.mem_cons.mp hx with rfl | hx
      · exact .t (.bl false) rfl
      exact absurd hx List.not_mem_nil
    obtain ⟨J56, hh56⟩ : ∃ z, z = ZE6 := ⟨_, rfl⟩
    subst hh56
    have sJ56 := sZE6
    have S0_56 := S0_55.trans sJ56
    have S54_56 := sJ55.trans sJ56
    obtain ⟨xs_f6, ex_f6, lx_f6, ax_f6⟩ := (BL.same bl_f5 (hidS S54_56))
    obtain ⟨ys_f6, ey_f6, ly_f6, ay_f6⟩ := bZE6
    refine ⟨_, _, _, _, rfl, rfl, (hid_le _ _ ex_f6), (hid_le _ _ ey_f6), (sm3 (by rw [lx_f6, ly_f6]; show 43 + 6 ≤ 1000; decide)), fun f6 h_f6 => ?_⟩
    have bl_f6 : BL K (hid P (upd J56 f6 (.lst (xs_f6 ++ ys_f6)))) (k0 :: lr2) kvs.length f6 49 := BL.cat ⟨lx_f6, ax_f6⟩ ⟨ly_f6, ay_f6⟩ h_f6 (np_of e_P S0_56 h_f6)
    have sJ57 : Same J56 (upd J56 f6 (.lst (xs_f6 ++ ys_f6))) := same_put h_f6
    generalize (upd J56 f6 (.lst (xs_f6 ++ ys_f6))) = J57 at sJ57 bl_f6 ⊢
    have S0_57 := S0_56.trans sJ57
    refine gn_st (σ' := [some (.ref r), some (.ref wa), some (.ref kl), some (.ref sa), some (.ref b4), some (.ref f6), some (.ref v14), none, none]) rfl ?_
    refine ⟨_, rfl, (sm3 (by simp)), fun x6 h_x6 => ?_⟩
    have sJ58 : Same J57 (upd J57 x6 (.lst [.non, .int 0, .int 1, .str "free"])) := same_put h_x6
    have e_x6 : (upd J57 x6 (.lst [.non, .int 0, .int 1, .str "free"])) x6 = some (.lst [.non, .int 0, .int 1, .str "free"]) := upd_same
    have z_x6 : hid P (upd J57 x6 (.lst [.non, .int 0, .int 1, .str "free"])) x6 = some (.lst [.non, .int 0, .int 1, .str "free"]) := (hid_ne (np_of e_P S0_57 h_x6)).trans e_x6
    generalize (upd J57 x6 (.lst [.non, .int 0, .int 1, .str "free"])) = J58 at sJ58 e_x6 z_x6 ⊢
    have S0_58 := S0_57.trans sJ58
    refine ⟨x6, rfl, ⟨_, (SqL.of e_x6)⟩, fun E7 h_E7 => ?_⟩
    refine lc_odd (K := K) (P := P) (l := k0 :: lr2) (many := kvs.length) (c := 5) (S0_58 _ _ e_P) (SqL.of e_x6) (by simp) h_E7 ?_ (fun x Z Q2 kZ => ⟨rfl, _, rfl, sm3 (by simp), fun q hq => kZ q hq⟩) fun ZE7 sZE7 bZE7 => ?_
    · intro x hx
      rcases List.mem_cons.mp hx with rfl | hx
      · exact .f .non rfl
      rcases List.mem_cons.mp hx with rfl | hx
      · exact .f (.int 0) rfl
      rcases List.mem_cons.mp hx with rfl | hx
      · exact .f (.int 1) rfl
      rcases List.mem_cons.mp hx with rfl | hx
      · exact .f (.str "free") rfl
      exact absurd hx List.not_mem_nil
    obtain ⟨J59, hh59⟩ : ∃ z, z = ZE7 := ⟨_, rfl⟩
    subst hh59
    have sJ59 := sZE7
    have S0_59 := S0_58.trans sJ59
    have S57_59 := sJ58.trans sJ59
    obtain ⟨xs_f7, ex_f7, lx_f7, ax_f7⟩ := (BL.same bl_f6 (hidS S57_59))
    obtain ⟨ys_f7, ey_f7, ly_f7, ay_f7⟩ := bZE7
    refine ⟨_, _, _, _, rfl, rfl, (hid_le _ _ ex_f7), (hid_le _ _ ey_f7), (sm3 (by rw [lx_f7, ly_f7]; show 49 + 4 ≤ 1000; decide)), fun f7 h_f7 => ?_⟩
    have bl_f7 : BL K (hid P (upd J59 f7 (.lst (xs_f7 ++ ys_f7)))) (k0 :: lr2) kvs.length f7 53 := BL.cat ⟨lx_f7, ax_f7⟩ ⟨ly_f7, ay_f7⟩ h_f7 (np_of e_P S0_59 h_f7)
    have sJ60 : Same J59 (upd J59 f7 (.lst (xs_f7 ++ ys_f7))) := same_put h_f7
    generalize (upd J59 f7 (.lst (xs_f7 ++ ys_f7))) = J60 at sJ60 bl_f7 ⊢
    have S0_60 := S0_59.trans sJ60
    exact kk2 _ f7 (sHA.trans S0_60) bl_f7
end
end K02

set_option Elab.async false
set_option linter.all false
set_option maxRecDepth 100000
set_option maxHeartbeats 0
namespace K02
open PySem PySem.Spec PyProof.Rows L2 RK EX
abbrev sLaw : Stmt := top 38
abbrev nLaw : List Str := ["script", "words", "k", "pool", "rule", "parts", "bends", "ruled", "turn", "at", "odd", "to", "other", "bent", "both", "kinds_here", "ways", "wide", "wider", "one"]
theorem scLaw : FnScope nLaw ["script"] (defScope sLaw) := ⟨rfl, rfl, rfl, by decide +kernel, rfl, by decide +kernel, by decide +kernel⟩
def spLaw (K : PySem.W.Frag) : Sp := fun vs H Q _ => ∃ (a : Addr) (ns : List Int), vs = [.ref a] ∧ SqL K H a (ns.map V.int) ∧ ns.length ≤ 63 ∧ ∀ H', Q (.bl true) H'
theorem asked_some {K : PySem.W.Frag} {H : Hp} {q : Addr} {xs : List V} {z : Str} {Q : VK} {E : XK} (six : Six K H xs (some z)) (hq : SqL K H q xs) (kk : ∀ H', Same H H' → Q (.str z) H') : spAsked K [.ref q] H Q E := by
  obtain ⟨k, m, y, d, t, f, kd, md, yd, dd, td, fd, rfl, h1, h2, h3, h4, h5, h6, h7, h8, h9⟩ := six
  exact ⟨q, k, m, y, d, t, f, kd, md, yd, dd, td, fd, rfl, hq, h1, h2, h3, h4, h5, h6, h7, h8, fun H' s => by rw [h9]; exact kk H' s⟩
theorem asked_none {K : PySem.W.Frag} {H : Hp} {q : Addr} {xs : List V} {Q : VK} {E : XK} (six : Six K H xs none) (hq : SqL K H q xs) (kk : ∀ H', Same H H' → Q .non H') : spAsked K [.ref q] H Q E := by
  obtain ⟨k, m, y, d, t, f, kd, md, yd, dd, td, fd, rfl, h1, h2, h3, h4, h5, h6, h7, h8, h9⟩ := six
  exact ⟨q, k, m, y, d, t, f, kd, md, yd, dd, td, fd, rfl, hq, h1, h2, h3, h4, h5, h6, h7, h8, fun H' s => by rw [h9]; exact kk H' s⟩
theorem nil_call {sp : Sp} {σ : L2.St} {H : Hp} {x : V} {Q : VK} {E : XK} (h : sp [x] H Q E) : tNil σ H (fun xs H2 => sp ((x :: xs) ++ []) H2 Q E) := h
theorem iteSelf {x : V} {A B : Prop} (h : B) : if (!decide (x = x)) = true then A else B := by
  rw [decide_eq_true rfl]
  exact h
theorem dps_app {K : PySem.W.Frag} {H : Hp} : ∀ {xs ys : List V} {ds es : List PyData}, DpAll K H xs ds → DpAll K H ys es → DpAll K H (xs ++ ys) (ds ++ es)
  | _, _, _, _, .nil, h => h
  | _, _, _, _, .cons a t, h => .cons a (dps_app t h)
/-- the defs of the text -/
structure Ds (P : Program) (w : World) (K : PySem.W.Frag) (mg : Str → Option Value) (base : Heap) (C : Addr) : Prop where
  dn : Dn mg
  pk : Pk mg K w
  op : ∃ f fd, mg "_law_opened" = some (.ref f) ∧ PySem.W.keepIn K (.ref f) = true ∧ Binds K fd ["script", "k", "many"] [] ∧ FnOk P w K mg base CX0 3 f fd ["script", "k", "many"] (spOpen K)
  pc : ∃ f fd, mg "_law_pick" = some (.ref f) ∧ PySem.W.keepIn K (.ref f) = true ∧ Binds K fd ["pool", "some"] [] ∧ FnOk P w K mg base CX0 2 f fd ["pool", "some"] (spPick K)
  ru : ∃ f fd, mg "_law_rule" = some (.ref f) ∧ PySem.W.keepIn K (.ref f) = true ∧ Binds K fd ["pool", "kinds", "ways"] [] ∧ FnOk P w K mg base CX0 3 f fd ["pool", "kinds", "ways"] (spRule K)
  be : ∃ f fd, mg "_law_bends" = some (.ref f) ∧ PySem.W.keepIn K (.ref f) = true ∧ Binds K fd ["rule"] [] ∧ FnOk P w K mg base CX0 1 f fd ["rule"] (spBends K)
  ma : ∃ f fd, mg "_law_made" = some (.ref f) ∧ PySem.W.keepIn K (.ref f) = true ∧ Binds K fd ["rule"] [] ∧ G.FnG P w K mg base CX0 7 f fd ["rule"] (spMade K C)
  as : ∃ f fd, mg "_law_asked" = some (.ref f) ∧ PySem.W.keepIn K (.ref f) = true ∧ Binds K fd ["parts"] [] ∧ G.FnG P w K mg base CX0 7 f fd ["parts"] (spAsked K)
  li : ∃ f fd, mg "_law_limited" = some (.ref f) ∧ PySem.W.keepIn K (.ref f) = true ∧ Binds K fd ["ruled", "parts"] [] ∧ G.FnG P w K mg base CX0 8 f fd ["ruled", "parts"] (spLim K C)
section
variable {P : Program} {w : World} {K : PySem.W.Frag} {mg : Str → Option Value} {base : Heap} {f C : Addr} {fd : FuncData}
theorem ok_law (F : Fun K "law" "law" sLaw f fd) (D : Ds P w K mg base C) : G.FnG P w K mg base CX0 9 f fd ["script"] (spLaw K) := by
  obtain ⟨fO, fdO, gO, kO, bO, GO⟩ := D.op
  obtain ⟨fP, fdP, gP, kP, bP, GP⟩ := D.pc
  obtain ⟨fR, fdR, gR, kR, bR, GR⟩ := D.ru
  obtain ⟨fB, fdB, gB, kB, bB, GB⟩ := D.be
  obtain ⟨fM, fdM, gM, kM, bM, GM⟩ := D.ma
  obtain ⟨fA, fdA, gA, kA, bA, GA⟩ := D.as
  obtain ⟨fL, fdL, gL, kL, bL, GL⟩ := D.li
  have T := D.dn
  refine G.ok F scLaw (fun vs H Q E h => ?_) (fun cdv A outer s H vs Q E hr hG h => ?_)
  · obtain ⟨a, ns, rfl, _⟩ := h
    rfl
  · obtain ⟨a, ns, rfl, hS, hlen, kfin⟩ := h
    refine ⟨_, pss_cons (ps_set (i := 1) scLaw.nd rfl (.inl rfl) (pe_lst (pa_cons pe_str (pa_cons pe_str (pa_cons pe_str (pa_cons pe_str (pa_cons pe_str (pa_cons pe_str pa_nil)))))))) (pss_cons (ps_for PassesOwn.never rfl (pi_range1 rfl T.rng (pa_cons (pe_callB (call_max2 rfl) rfl T.max boot_max (pa_cons pe_int (pa_cons (pe_callB (call_min2 rfl) rfl T.min boot_min (pa_cons pe_int (pa_cons (pe_callB call_len_seq rfl T.len boot_len (pa_cons (pv 0) pa_nil)) pa_nil))) pa_nil))) pa_nil)) (pg_name (i := 2) scLaw.nd rfl (.inl rfl)) (pss_cons (ps_set (i := 3) scLaw.nd rfl (.inl rfl) (pe_call GO (hr.mono (by decide)) rfl gO kO bO .nil pass0 (pa_cons (pv 0) (pa_cons (pv 2) (pa_cons pe_int pa_nil))))) (pss_cons (ps_set (i := 4) scLaw.nd rfl (.inl rfl) (pe_call GR (hr.mono (by decide)) rfl gR kR bR .nil pass0 (pa_cons (pv 3) (pa_cons pe_int (pa_cons pe_int pa_nil))))) (pss_cons (ps_set (i := 5) scLaw.nd rfl (.inl rfl) (pe_lst (pa_cons (pe_dget (hu_of hr) (pv 4) pe_str (fun _ _ => rfl)) (pa_cons (pe_dget (hu_of hr) (pv 4) pe_str (fun _ _ => rfl)) (pa_cons (pe_dget (hu_of hr) (pv 4) pe_str (fun _ _ => rfl)) (pa_cons (pe_dget (hu_of hr) (pv 4) pe_str (fun _ _ => rfl)) (pa_cons (pe_dget (hu_of hr) (pv 4) pe_str (fun _ _ => rfl)) (pa_cons (pe_dget (hu_of hr) (pv 4) pe_str (fun _ _ => rfl)) pa_nil)))))))) (pss_cons (ps_if (pt_cmp (pc_notN (G.pe_call GA (hr.mono (by decide)) hG rfl gA kA bA .nil pass0 (pa_cons (pv 5) pa_nil)))) (pss_one (ps_ret pe_bl)) pss_nil) (pss_cons (ps_par (i := 6) (j := 7) rfl scLaw.nd rfl rfl (by decide) rfl rfl (pa_cons (pe_call GB (hr.mono (by decide)) rfl gB kB bB .nil pass0 (pa_cons (pv 4) pa_nil)) (pa_cons (G.pe_call GM (hr.mono (by decide)) hG rfl gM kM bM .nil pass0 (pa_cons (pv 4) pa_nil)) pa_nil)) rfl) (pss_one (ps_for PassesOwn.never rfl (pi_range1 rfl T.rng (pa_cons pe_int pa_nil)) (pg_name (i := 8) scLaw.nd rfl (.inl rfl)) (pss_cons (ps_asg (pe_call GP (hr.mono (by decide)) rfl gP kP bP .nil pass0 (pa_cons (pv 3) (pa_cons (pv 6) pa_nil))) (pg_tup rfl (pgs_cons (pg_name (i := 9) scLaw.nd rfl (.inl rfl)) (pgs_cons (pg_name (i := 10) scLaw.nd rfl (.inl rfl)) pgs_nil)))) (pss_cons (ps_asg (pe_call GP (hr.mono (by decide)) rfl gP kP bP .nil pass0 (pa_cons (pv 3) (pa_cons (pv 6) pa_nil))) (pg_tup rfl (pgs_cons (pg_name (i := 11) scLaw.nd rfl (.inl rfl)) (pgs_cons (pg_name (i := 12) scLaw.nd rfl (.inl rfl)) pgs_nil)))) (pss_cons (ps_set (i := 13) scLaw.nd rfl (.inl rfl) (pe_op op_cat (pe_op op_cat (pe_slice sl_list (pv 5) po_none (po_some (pv 9))) (pe_lst (pa_cons (pv 10) pa_nil))) (pe_slice sl_list (pv 5) (po_some (pe_op op_add (pv 9) pe_int)) po_none))) (pss_cons (ps_if (pt_cmpR op_ne (G.pe_call GA (hr.mono (by decide)) hG rfl gA kA bA .nil pass0 (pa_cons (pv 13) pa_nil)) (pe_ix ix_list (pv 1) (pv 9) (fun _ _ => rfl)) (nomark _)) (pss_one (ps_ret pe_bl)) pss_nil) (pss_cons (ps_set (i := 14) scLaw.nd rfl (.inl rfl) (pe_op op_cat (pe_op op_cat (pe_slice sl_list (pv 13) po_none (po_some (pv 11))) (pe_lst (pa_cons (pv 12) pa_nil))) (pe_slice sl_list (pv 13) (po_some (pe_op op_add (pv 11) pe_int)) po_none))) (pss_cons (ps_if (PW.pt (pw_and (pt_cmpR op_gt (pv 11) (pv 9) (nomark _)) (pw_and1 (pt_cmpR op_ne (G.pe_call GA (hr.mono (by decide)) hG rfl gA kA bA .nil pass0 (pa_cons (pv 14) pa_nil)) (pe_ix ix_list (pv 1) (pv 9) (fun _ _ => rfl)) (nomark _))))) (pss_one (ps_ret pe_bl)) pss_nil) (pss_one (ps_if (PW.pt (pw_and (pt_cmpR op_gt (pv 9) pe_int (nomark _)) (pw_and1 (pt_cmpR op_ne (G.pe_call GL (hr.mono (by decide)) hG rfl gL kL bL .nil pass0 (pa_cons (pv 7) (pa_cons (pe_slice sl_list (pv 13) (po_some pe_int) po_none) pa_nil))) (pe_ix ix_list (pv 1) (pv 9) (fun _ _ => rfl)) (nomark _))))) (pss_one (ps_ret pe_bl)) pss_nil)))))))))))))))) (pss_cons (ps_set (i := 15) scLaw.nd rfl (.inl rfl) (pe_lst (pa_cons pe_str (pa_cons pe_str (pa_cons pe_str (pa_cons pe_str (pa_cons pe_str pa_nil))))))) (pss_cons (ps_set (i := 16) scLaw.nd rfl (.inl rfl) (pe_op op_cat (pe_lc (own := [("one", 19)]) (g := gName 19) (tt := tYes) rfl scLaw.nd (pi_list (pv 15)) (blkOk_by (N := nLaw) (sc := defScope sLaw) (by decide +kernel)) (fun _ _ _ _ _ => pg_name (i := 19) scLaw.nd rfl (.inl rfl)) (fun _ _ _ _ _ => pts_nil) (fun _ _ _ _ _ => (pe_tup (pa_cons pe_str (pa_cons (pv 19) (pa_cons (pe_tup (pa_cons pe_str pa_nil)) pa_nil)))))) (pe_lc (own := [("one", 19)]) (g := gName 19) (tt := tYes) rfl scLaw.nd (pi_list (pv 15)) (blkOk_by (N := nLaw) (sc := defScope sLaw) (by decide +kernel)) (fun _ _ _ _ _ => pg_name (i := 19) scLaw.nd rfl (.inl rfl)) (fun _ _ _ _ _ => pts_nil) (fun _ _ _ _ _ => (pe_tup (pa_cons pe_str (pa_cons (pv 19) (pa_cons (pe_tup (pa_cons pe_str pa_nil)) pa_nil)))))))) (pss_cons (ps_expr (pe_bm PySem.F.plainAttrs_list PySem.F.slot_list_append PySem.F.type_list_append mt_append (pv 16) (pa_cons (pe_tup (pa_cons pe_str (pa_cons pe_str (pa_cons (pe_tup (pa_cons pe_str pa_nil)) pa_nil)))) pa_nil))) (pss_cons (ps_set (i := 17) scLaw.nd rfl (.inl rfl) (pe_lst (pa_cons (pv 15) (pa_cons (pe_disp (pps_cons pe_str pe_bl pps_nil) rfl rfl (fun z => by cases z) (by decide)) (pa_cons (pe_op op_cat (pv 16) (pe_lst (pa_cons (pe_tup (pa_cons pe_str (pa_cons pe_str (pa_cons (pe_tup (pa_cons pe_str pa_nil)) pa_nil)))) pa_nil))) (pa_cons pe_int (pa_cons pe_int (pa_cons pe_bl pa_nil)))))))) (pss_cons (ps_if (PW.pt (pw_or (pt_cmp (pc_notN (G.pe_call GA (hr.mono (by decide)) hG rfl gA kA bA .nil pass0 (pa_cons (pv 17) pa_nil)))) (pw_or1 (pt_cmp (pc_notN (G.pe_call GA (hr.mono (by decide)) hG rfl gA kA bA .nil pass0 (pa_cons (pe_op op_cat (pe_slice sl_list (pv 17) po_none (po_some pe_int)) (pe_lst (pa_cons pe_int (pa_cons pe_int (pa_cons pe_bl pa_nil))))) pa_nil))))))) (pss_one (ps_ret pe_bl)) pss_nil) (pss_cons (ps_set (i := 18) scLaw.nd rfl (.inl rfl) (pe_op op_cat (pv 16) (pe_lst (pa_cons (pe_tup (pa_cons pe_str (pa_cons pe_str (pa_cons (pe_tup (pa_cons pe_str pa_nil)) pa_nil)))) (pa_cons (pe_tup (pa_cons pe_str (pa_cons pe_str (pa_cons (pe_tup (pa_cons pe_str pa_nil)) pa_nil)))) pa_nil))))) (pss_one (ps_ret (pe_cmpR op_eq (G.pe_call GA (hr.mono (by decide)) hG rfl gA kA bA .nil pass0 (pa_cons (pe_lst (pa_cons (pv 15) (pa_cons (pe_disp (pps_cons pe_str pe_bl pps_nil) rfl rfl (fun z => by cases z) (by decide)) (pa_cons (pv 18) (pa_cons pe_non (pa_cons pe_non (pa_cons pe_bl pa_nil))))))) pa_nil)) pe_str (nomark _))))))))))), ?_⟩
    have sm3 : ∀ {k : Nat}, k ≤ 1000 → k ≤ sizeLine := fun {k} hk => Nat.le_trans hk (by rw [sizeLine_eq]; decide)
    refine ⟨sm3 (by simp), fun wd h_wd => ?_⟩
    have sW : Same H (upd H wd (.lst (w6.map V.str))) := same_put h_wd
    have eW : upd H wd (.lst (w6.map V.str)) wd = some (.lst (w6.map V.str)) := upd_same
    rw [show ([V.str "kinds", V.str "measures", V.str "ways", V.str "deep", V.str "tall", V.str "free"] : List V) = w6.map V.str from rfl]
    generalize upd H wd (.lst (w6.map V.str)) = H0 at sW eW ⊢
    refine gn_st (σ' := [some (.ref a), some (.ref wd), none, none, none, none, none, none, none, none, none, none, none, none, none, none, none, none, none, none]) rfl ?_
    refine ⟨_, rfl, a, _, rfl, .inl (sW.seq hS), _, _, rfl, _, _, rfl, _, rfl, ?_, ?_, ?_⟩
    · rw [List.length_map]
      split <;> split <;> omega
    · rw [List.length_map]
      split <;> split <;> omega
    refine for_range (lo := 0) (Pv := fun i σ H' => ∃ v2 v3 v4 v5 v6 v7 v8 v9 v10 v11 v12 v13 v14 : Option V, σ = [some (.ref a), some (.ref wd), v2, v3, v4, v5, v6, v7, v8, v9, v10, v11, v12, v13, v14, none, none, none, none, none] ∧ Same H0 H') ?_ ?_ ?_
    · exact ⟨none, none, none, none, none, none, none, none, none, none, none, none, none, rfl, Same.refl H0⟩
    · rintro i σ H1 hi ⟨v2, v3, v4, v5, v6, v7, v8, v9, v10, v11, v12, v13, v14, rfl, s1⟩
      have hin : ns = [] ∨ i < ns.length := by
        cases ns with
        | nil => exact .inl rfl
        | cons x r =>
          refine .inr ?_
          rw [List.length_map] at hi
          have hp : 0 < (x :: r).length := Nat.succ_pos _
          revert hi
          split <;> split <;> intro hi <;> omega
      have hi6 : i ≤ 100 := by
        rw [List.length_map] at hi
        revert hi
        split <;> split <;> intro hi <;> omega
      have e0 : ((0 : Int) + (i : Int)) = ((i : Nat) : Int) := by omega
      have sI := sW.trans s1
      refine ⟨_, rfl, _, rfl, a, ns, i, 120, by rw [e0]; rfl, sI.seq hS, hin, hi6, by decide, fun H2 q p zs s2 hq hp hP => ?_⟩
      have q0 : H0 q = none := s1.free hq
      refine gn_st (σ' := [some (.ref a), some (.ref wd), some (.int ((0 : Int) + (i : Int))), some (.ref q), v4, v5, v6, v7, v8, v9, v10, v11, v12, v13, v14, none, none, none, none, none]) rfl ?_
      refine ⟨_, rfl, q, p, zs, 0, 3, 8, rfl, hP, by decide, by decide, by decide, by decide, fun H3 r n3 l kvs ds d t f' dd td fd' o3 hP3 hr3 lr3 g lin _ hd3 ht3 hf3 hn => ?_⟩
      refine gn_st (σ' := [some (.ref a), some (.ref wd), some (.int ((0 : Int) + (i : Int))), some (.ref q), some (.ref r), v5, v6, v7, v8, v9, v10, v11, v12, v13, v14, none, none, none, none, none]) rfl ?_
      obtain ⟨n1, n2, n3'⟩ := lim_parts hn
      have dH : ∀ {G : Hp}, Dp K G d dd := fun {G} => dp_lim hd3 n1
      have tH : ∀ {G : Hp}, Dp K G t td := fun {G} => dp_lim ht3 n2
      have fH : ∀ {G : Hp}, Dp K G f' fd' := fun {G} => dp_bool hf3 n3'
      have lrz := LR.hid hP3.2.1 lr3 g
      have lrx := lrz
      obtain ⟨kl, md, wl, ws, z1, z2, z3, z4, z5⟩ := lrx.ex
      have y1 := hid_le _ _ z1
      refine ⟨_, rfl, r, _, rfl, dget y1 rfl, _, rfl, r, _, rfl, dget y1 rfl, _, rfl, r, _, rfl, dget y1 rfl, _, rfl, r, _, rfl, dget y1 rfl, _, rfl, r, _, rfl, dget y1 rfl, _, rfl, r, _, rfl, dget y1 rfl, sm3 (by simp), fun pt h_pt => ?_⟩
      have npt : pt ≠ q := np_of hP3.2.1 (Same.refl _) h_pt
      have s4 : Same H3 (upd H3 pt (.lst [.ref kl, .ref md, .ref wl, d, t, f'])) := same_put h_pt
      have z6 : hid q (upd H3 pt (.lst [.ref kl, .ref md, .ref wl, d, t, f'])) pt = some (.lst [.ref kl, .ref md, .ref wl, d, t, f']) := (hid_ne npt).trans upd_same
      generalize upd H3 pt (.lst [.ref kl, .ref md, .ref wl, d, t, f']) = H4 at s4 z6 ⊢
      refine gn_st (σ' := [some (.ref a), some (.ref wd), some (.int ((0 : Int) + (i : Int))), some (.ref q), some (.ref r), some (.ref pt), v6, v7, v8, v9, v10, v11, v12, v13, v14, none, none, none, none, none]) rfl ?_
      have lr4 := LR.same lrz (hidS s4)
      have z2 := hidS s4 _ _ z2
      have z3 := hidS s4 _ _ z3
      have z4 := hidS s4 _ _ z4
      have z5 := dps_same (hidS s4) _ _ z5
      have hP4 := hP3.off s4
      refine ⟨_, rfl, ?_⟩
      refine nil_call (asked_none (Six.same (six_good g z2 z3 z4 z5 dH tH fH hn) hid_le) (SqL.of (hid_le _ _ z6)) fun H5 s5 => ?_)
      refine ⟨_, rfl, iteF ?_⟩
      have hP5 := hP4.off s5
      have lr5 := LR.same lr4 (hidS s5)
      refine ⟨_, rfl, r, q, _, l, kvs, ds, d, t, f', rfl, lr5, g, lin, hP5.2.1, fun H6 bn s6 bl6 => ?_⟩
      have lr6 := LR.same lr5 (hidS s6)
      refine ⟨_, rfl, r, l, kvs, ds, d, t, f', dd, td, fd', rfl, LR.same lr6 hid_le, g, dH, tH, fH, hn, fun H7 ru l2 kvs2 ds2 s7 pl as pk pd ro7 => ?_⟩
      have hP7 := (hP5.off s6).off s7
      have S47 := s5.trans (s6.trans s7)
      have gd2 : Good l2 kvs2 ds2 := g.perm pl pk pd
      have wdz : hid q H7 wd = some (.lst (w6.map V.str)) := by
        have e := S47 _ _ (s4 _ _ (o3 _ _ (ne_of_none (s1 _ _ eW) hq) (s2 _ _ (s1 _ _ eW))))
        rw [hid_ne (ne_of_none (s1 _ _ eW) hq)]
        exact e
      have BN : Bun K (hid q H7) C wd pt bn ru kl md wl l kvs ds l2 kvs2 ds2 ws d t f' :=
        ⟨wdz, hidS S47 _ _ z6, hidS S47 _ _ z2, hidS S47 _ _ z3, hidS S47 _ _ z4, dps_same (hidS S47) _ _ z5, bl6.same (hidS s7), RuleO.hid hP7.2.1 ro7 gd2.ways.2.2.2.1⟩
      have oI : Off q H0 H7 := fun b o hb e => S47 _ _ (s4 _ _ (o3 _ _ hb (s2 _ _ (s1 _ _ e))))
      refine ⟨_, _, rfl, ?_⟩
      show (_ : L2.St → Hp → Prop) [some (.ref a), some (.ref wd), some (.int ((0 : Int) + (i : Int))), some (.ref q), some (.ref r), some (.ref pt), some (.ref bn), some (.ref ru), v8, v9, v10, v11, v12, v13, v14, none, none, none, none, none] _
      refine ⟨_, rfl, by decide, by decide, for_range (lo := 0) (Pv := fun j σ H' => ∃ (v8 v9 v10 v11 v12 v13 v14 : Option V) (n : Nat), σ = [some (.ref a), some (.ref wd), some (.int ((0 : Int) + (i : Int))), some (.ref q), some (.ref r), some (.ref pt), some (.ref bn), some (.ref ru), v8, v9, v10, v11, v12, v13, v14, none, none, none, none, none] ∧ Off q H7 H' ∧ PoolAt H' q p zs n) ?_ ?_ ?_⟩
      · exact ⟨v8, v9, v10, v11, v12, v13, v14, _, rfl, (fun b o _ e => e), hP7⟩
      · rintro j σ H8 hj ⟨v8, v9, v10, v11, v12, v13, v14, n8, rfl, o8, hP8⟩
        have B8 := BN.same (hid_mono o8)
        obtain ⟨ys1, b11, b21, b31⟩ := B8.b
        refine ⟨_, rfl, _, rfl, q, p, bn, zs, n8, ys1, rfl, hP8, SqL.of (hid_le _ _ b11), hid_some b11, (fun z => by rw [z] at b21; cases b21), by rw [b21]; decide, fun j1 x1 hx1 => ?_⟩
        obtain ⟨c1, q1, o1, rfl, hq1, bt1⟩ := b31 x1 (List.mem_of_getElem? hx1)
        have od1 : Off q H8 (drawn H8 q p (n8)) := off_drawn
        have hPK1 := PoolAt.drawn hP8
        generalize drawn H8 q p (n8) = K1 at od1 hPK1 ⊢
        have B9 := B8.same (hid_mono od1)
        have hq1 := hid_mono od1 _ _ hq1
        have bt1 := bt1.same (hid_mono od1)
        refine ⟨q1, _, rfl, SqT.of (hid_le _ _ hq1), rfl, _, _, rfl, _, _, rfl, rfl, ?_⟩
        show (_ : L2.St → Hp → Prop) [some (.ref a), some (.ref wd), some (.int ((0 : Int) + (i : Int))), some (.ref q), some (.ref r), some (.ref pt), some (.ref bn), some (.ref ru), some (.int ((0 : Int) + (j : Int))), some (.int c1), some o1, v11, v12, v13, v14, none, none, none, none, none] _
        obtain ⟨ys2, b12, b22, b32⟩ := B9.b
        refine ⟨_, rfl, _, rfl, q, p, bn, zs, n8 + 1, ys2, rfl, hPK1, SqL.of (hid_le _ _ b12), hid_some b12, (fun z => by rw [z] at b22; cases b22), by rw [b22]; decide, fun j2 x2 hx2 => ?_⟩
        obtain ⟨c2, q2, o2, rfl, hq2, bt2⟩ := b32 x2 (List.mem_of_getElem? hx2)
        have od2 : Off q K1 (drawn K1 q p (n8 + 1)) := off_drawn
        have hPK2 := PoolAt.drawn hPK1
        generalize drawn K1 q p (n8 + 1) = K2 at od2 hPK2 ⊢
        have B10 := B9.same (hid_mono od2)
        have hq2 := hid_mono od2 _ _ hq2
        have bt2 := bt2.same (hid_mono od2)
        refine ⟨q2, _, rfl, SqT.of (hid_le _ _ hq2), rfl, _, _, rfl, _, _, rfl, rfl, ?_⟩
        have bt1 := bt1.same (hid_mono od2)
        show (_ : L2.St → Hp → Prop) [some (.ref a), some (.ref wd), some (.int ((0 : Int) + (i : Int))), some (.ref q), some (.ref r), some (.ref pt), some (.ref bn), some (.ref ru), some (.int ((0 : Int) + (j : Int))), some (.int c1), some o1, some (.int c2), some o2, v13, v14, none, none, none, none, none] _
        obtain ⟨r10, r11⟩ := bt1.range
        obtain ⟨r20, r21⟩ := bt2.range
        have e_pt := hid_le _ _ B10.p
        refine ⟨_, rfl, _, rfl, c1, rfl, pt, _, rfl, (SqL.of e_pt), fun m1 h_m1 => ?_⟩
        have sM1 : Same K2 (upd K2 m1 (.lst (cutV ([.ref kl, .ref md, .ref wl, d, t, f'] : List V) none (some c1)))) := same_put h_m1
        have e_m1 : (upd K2 m1 (.lst (cutV ([.ref kl, .ref md, .ref wl, d, t, f'] : List V) none (some c1)))) m1 = some (.lst (cutV ([.ref kl, .ref md, .ref wl, d, t, f'] : List V) none (some c1))) := upd_same
        generalize (upd K2 m1 (.lst (cutV ([.ref kl, .ref md, .ref wl, d, t, f'] : List V) none (some c1)))) = M1 at sM1 e_m1 ⊢
        have SM0_1 := sM1
        refine ⟨_, rfl, (sm3 (by simp)), fun m2 h_m2 => ?_⟩
        have sM2 : Same M1 (upd M1 m2 (.lst [o1])) := same_put h_m2
        have e_m2 : (upd M1 m2 (.lst [o1])) m2 = some (.lst [o1]) := upd_same
        generalize (upd M1 m2 (.lst [o1])) = M2 at sM2 e_m2 ⊢
        have SM0_2 := SM0_1.trans sM2
        refine ⟨_, _, _, _, rfl, rfl, (sM2 _ _ e_m1), e_m2, (sm3 (by have := cutV_length ([.ref kl, .ref md, .ref wl, d, t, f'] : List V) none (some c1); have e6 : (([.ref kl, .ref md, .ref wl, d, t, f'] : List V)).length = 6 := (by simp); show (cutV _ none (some c1)).length + 1 ≤ 1000; omega)), fun m3 h_m3 => ?_⟩
        have sM3 : Same M2 (upd M2 m3 (.lst (cutV ([.ref kl, .ref md, .ref wl, d, t, f'] : List V) none (some c1) ++ [o1]))) := same_put h_m3
        have e_m3 : (upd M2 m3 (.lst (cutV ([.ref kl, .ref md, .ref wl, d, t, f'] : List V) none (some c1) ++ [o1]))) m3 = some (.lst (cutV ([.ref kl, .ref md, .ref wl, d, t, f'] : List V) none (some c1) ++ [o1])) := upd_same
        generalize (upd M2 m3 (.lst (cutV ([.ref kl, .ref md, .ref wl, d, t, f'] : List V) none (some c1) ++ [o1]))) = M3 at sM3 e_m3 ⊢
        have SM0_3 := SM0_2.trans sM3
        refine ⟨_, rfl, _, rfl, _, _, rfl, rfl, (c1 + 1), rfl, pt, _, rfl, (SqL.of (SM0_3 _ _ e_pt)), fun m4 h_m4 => ?_⟩
        have sM4 : Same M3 (upd M3 m4 (.lst (cutV ([.ref kl, .ref md, .ref wl, d, t, f'] : List V) (some (c1 + 1)) none))) := same_put h_m4
        have e_m4 : (upd M3 m4 (.lst (cutV ([.ref kl, .ref md, .ref wl, d, t, f'] : List V) (some (c1 + 1)) none))) m4 = some (.lst (cutV ([.ref kl, .ref md, .ref wl, d, t, f'] : List V) (some (c1 + 1)) none)) := upd_same
        generalize (upd M3 m4 (.lst (cutV ([.ref kl, .ref md, .ref wl, d, t, f'] : List V) (some (c1 + 1)) none))) = M4 at sM4 e_m4 ⊢
        have SM0_4 := SM0_3.trans sM4
        refine ⟨_, _, _, _, rfl, rfl, (sM4 _ _ e_m3), e_m4, (sm3 (by have := cutV_length ([.ref kl, .ref md, .ref wl, d, t, f'] : List V) none (some c1); have := cutV_length ([.ref kl, .ref md, .ref wl, d, t, f'] : List V) (some (c1 + 1)) none; have e6 : (([.ref kl, .ref md, .ref wl, d, t, f'] : List V)).length = 6 := (by simp); rw [List.length_append]; show (cutV _ none (some c1)).length + 1 + _ ≤ 1000; omega)), fun m5 h_m5 => ?_⟩
        rw [cut_set (xs := ([.ref kl, .ref md, .ref wl, d, t, f'] : List V)) (c := c1) (o := o1) (by simp) (by omega) (by omega)]
        have sM5 : Same M4 (upd M4 m5 (.lst ((([.ref kl, .ref md, .ref wl, d, t, f'] : List V)).set (c1).toNat o1))) := same_put h_m5
        have e_m5 : (upd M4 m5 (.lst ((([.ref kl, .ref md, .ref wl, d, t, f'] : List V)).set (c1).toNat o1))) m5 = some (.lst ((([.ref kl, .ref md, .ref wl, d, t, f'] : List V)).set (c1).toNat o1)) := upd_same
        generalize (upd M4 m5 (.lst ((([.ref kl, .ref md, .ref wl, d, t, f'] : List V)).set (c1).toNat o1))) = M5 at sM5 e_m5 ⊢
        have SM0_5 := SM0_4.trans sM5
        refine gn_st (σ' := [some (.ref a), some (.ref wd), some (.int ((0 : Int) + (i : Int))), some (.ref q), some (.ref r), some (.ref pt), some (.ref bn), some (.ref ru), some (.int ((0 : Int) + (j : Int))), some (.int c1), some o1, some (.int c2), some o2, some (.ref m5), v14, none, none, none, none, none]) rfl ?_
        have B11 := B10.same (hidS SM0_5)
        have x11 := bt1.same (hidS SM0_5)
        refine ⟨_, rfl, ?_⟩
        refine nil_call (asked_some (Six.same (six_bent g B11 dH tH fH hn x11) hid_le) (SqL.of e_m5) fun Z1 sZ1 => ?_)
        revert sZ1
        generalize Z1 = M6
        intro sM6
        have SM0_6 := SM0_5.trans sM6
        have B12 := B10.same (hidS SM0_6)
        refine ⟨_, rfl, _, rfl, wd, _, _, _, rfl, rfl, SqL.of (hid_le _ _ B12.w), words_at r10 r11, rfl, _, rfl, iteSelf ?_⟩
        refine ⟨_, rfl, _, rfl, c2, rfl, m5, _, rfl, (SqL.of (sM6 _ _ e_m5)), fun m6 h_m6 => ?_⟩
        have sM7 : Same M6 (upd M6 m6 (.lst (cutV (([.ref kl, .ref md, .ref wl, d, t, f'] : List V).set (c1).toNat o1) none (some c2)))) := same_put h_m6
        have e_m6 : (upd M6 m6 (.lst (cutV (([.ref kl, .ref md, .ref wl, d, t, f'] : List V).set (c1).toNat o1) none (some c2)))) m6 = some (.lst (cutV (([.ref kl, .ref md, .ref wl, d, t, f'] : List V).set (c1).toNat o1) none (some c2))) := upd_same
        generalize (upd M6 m6 (.lst (cutV (([.ref kl, .ref md, .ref wl, d, t, f'] : List V).set (c1).toNat o1) none (some c2)))) = M7 at sM7 e_m6 ⊢
        have SM0_7 := SM0_6.trans sM7
        refine ⟨_, rfl, (sm3 (by simp)), fun m7 h_m7 => ?_⟩
        have sM8 : Same M7 (upd M7 m7 (.lst [o2])) := same_put h_m7
        have e_m7 : (upd M7 m7 (.lst [o2])) m7 = some (.lst [o2]) := upd_same
        generalize (upd M7 m7 (.lst [o2])) = M8 at sM8 e_m7 ⊢
        have SM0_8 := SM0_7.trans sM8
        refine ⟨_, _, _, _, rfl, rfl, (sM8 _ _ e_m6), e_m7, (sm3 (by have := cutV_length (([.ref kl, .ref md, .ref wl, d, t, f'] : List V).set (c1).toNat o1) none (some c2); have e6 : ((([.ref kl, .ref md, .ref wl, d, t, f'] : List V).set (c1).toNat o1)).length = 6 := (by simp); show (cutV _ none (some c2)).length + 1 ≤ 1000; omega)), fun m8 h_m8 => ?_⟩
        have sM9 : Same M8 (upd M8 m8 (.lst (cutV (([.ref kl, .ref md, .ref wl, d, t, f'] : List V).set (c1).toNat o1) none (some c2) ++ [o2]))) := same_put h_m8
        have e_m8 : (upd M8 m8 (.lst (cutV (([.ref kl, .ref md, .ref wl, d, t, f'] : List V).set (c1).toNat o1) none (some c2) ++ [o2]))) m8 = some (.lst (cutV (([.ref kl, .ref md, .ref wl, d, t, f'] : List V).set (c1).toNat o1) none (some c2) ++ [o2])) := upd_same
        generalize (upd M8 m8 (.lst (cutV (([.ref kl, .ref md, .ref wl, d, t, f'] : List V).set (c1).toNat o1) none (some c2) ++ [o2]))) = M9 at sM9 e_m8 ⊢
        have SM0_9 := SM0_8.trans sM9
        have SM5_7 := sM6.trans sM7
        have SM5_8 := SM5_7.trans sM8
        have SM5_9 := SM5_8.trans sM9
        refine ⟨_, rfl, _, rfl, _, _, rfl, rfl, (c2 + 1), rfl, m5, _, rfl, (SqL.of (SM5_9 _ _ e_m5)), fun m9 h_m9 => ?_⟩
        have sM10 : Same M9 (upd M9 m9 (.lst (cutV (([.ref kl, .ref md, .ref wl, d, t, f'] : List V).set (c1).toNat o1) (some (c2 + 1)) none))) := same_put h_m9
        have e_m9 : (upd M9 m9 (.lst (cutV (([.ref kl, .ref md, .ref wl, d, t, f'] : List V).set (c1).toNat o1) (some (c2 + 1)) none))) m9 = some (.lst (cutV (([.ref kl, .ref md, .ref wl, d, t, f'] : List V).set (c1).toNat o1) (some (c2 + 1)) none)) := upd_same
        generalize (upd M9 m9 (.lst (cutV (([.ref kl, .ref md, .ref wl, d, t, f'] : List V).set (c1).toNat o1) (some (c2 + 1)) none))) = M10 at sM10 e_m9 ⊢
        have SM0_10 := SM0_9.trans sM10
        refine ⟨_, _, _, _, rfl, rfl, (sM10 _ _ e_m8), e_m9, (sm3 (by have := cutV_length (([.ref kl, .ref md, .ref wl, d, t, f'] : List V).set (c1).toNat o1) none (some c2); have := cutV_length (([.ref kl, .ref md, .ref wl, d, t, f'] : List V).set (c1).toNat o1) (some (c2 + 1)) none; have e6 : ((([.ref kl, .ref md, .ref wl, d, t, f'] : List V).set (c1).toNat o1)).length = 6 := (by simp); rw [List.length_append]; show (cutV _ none (some c2)).length + 1 + _ ≤ 1000; omega)), fun m10 h_m10 => ?_⟩
        rw [cut_set (xs := (([.ref kl, .ref md, .ref wl, d, t, f'] : List V).set (c1).toNat o1)) (c := c2) (o := o2) (by simp) (by omega) (by omega)]
        have sM11 : Same M10 (upd M10 m10 (.lst (((([.ref kl, .ref md, .ref wl, d, t, f'] : List V).set (c1).toNat o1)).set (c2).toNat o2))) := same_put h_m10
        have e_m10 : (upd M10 m10 (.lst (((([.ref kl, .ref md, .ref wl, d, t, f'] : List V).set (c1).toNat o1)).set (c2).toNat o2))) m10 = some (.lst (((([.ref kl, .ref md, .ref wl, d, t, f'] : List V).set (c1).toNat o1)).set (c2).toNat o2)) := upd_same
        generalize (upd M10 m10 (.lst (((([.ref kl, .ref md, .ref wl, d, t, f'] : List V).set (c1).toNat o1)).set (c2).toNat o2))) = M11 at sM11 e_m10 ⊢
        have SM0_11 := SM0_10.trans sM11
        refine gn_st (σ' := [some (.ref a), some (.ref wd), some (.int ((0 : Int) + (i : Int))), some (.ref q), some (.ref r), some (.ref pt), some (.ref bn), some (.ref ru), some (.int ((0 : Int) + (j : Int))), some (.int c1), some o1, some (.int c2), some o2, some (.ref m5), some (.ref m10), none, none, none, none, none]) rfl ?_
        have B13 := B10.same (hidS SM0_11)
        have x13 := bt1.same (hidS SM0_11)
        have y13 := bt2.same (hidS SM0_11)
        have SM5_10 := SM5_9.trans sM10
        have SM5_11 := SM5_10.trans sM11
        have eM5 := (SM5_11 _ _ e_m5)
        have hPM := PoolAt.off hPK2 SM0_11
        have oM : Off q H7 M11 := fun b o hb e => SM0_11 _ _ (od2 _ _ hb (od1 _ _ hb (o8 _ _ hb e)))
        refine ⟨_, rfl, _, rfl, _, _, rfl, rfl, _, rfl, ?_⟩
        refine ite2 (fun hgt => ?_) (fun _ => iteF ?_)
        · have hc : c1 < c2 := of_decide_eq_true hgt
          refine ⟨_, rfl, ?_⟩
          refine nil_call (asked_some (Six.same (six_both g B13 dH tH fH hn x13 y13 hc) hid_le) (SqL.of e_m10) fun Z2 sZ2 => ?_)
          have B16 := B13.same (hidS sZ2)
          refine ⟨_, rfl, _, rfl, wd, _, _, _, rfl, rfl, SqL.of (hid_le _ _ B16.w), words_at r10 r11, rfl, _, rfl, iteSelf ?_⟩
          have B14 := B13.same (hidS sZ2)
          have x14 := x13.same (hidS sZ2)
          have fin : ∀ HZ, Same Z2 HZ → ∃ (w8 w9 w10 w11 w12 w13 w14 : Option V) (n : Nat), ([some (.ref a), some (.ref wd), some (.int ((0 : Int) + (i : Int))), some (.ref q), some (.ref r), some (.ref pt), some (.ref bn), some (.ref ru), some (.int ((0 : Int) + (j : Int))), some (.int c1), some o1, some (.int c2), some o2, some (.ref m5), some (.ref m10), none, none, none, none, none] : L2.St) = [some (.ref a), some (.ref wd), some (.int ((0 : Int) + (i : Int))), some (.ref q), some (.ref r), some (.ref pt), some (.ref bn), some (.ref ru), w8, w9, w10, w11, w12, w13, w14, none, none, none, none, none] ∧ Off q H7 HZ ∧ PoolAt HZ q p zs n := fun HZ sZ => ⟨some (.int ((0 : Int) + (j : Int))), some (.int c1), some o1, some (.int c2), some o2, some (.ref m5), some (.ref m10), n8 + 1 + 1, rfl, fun b o hb e => sZ _ _ (sZ2 _ _ (oM _ _ hb e)), (hPM.off sZ2).off sZ⟩
          refine ⟨_, rfl, _, _, rfl, rfl, _, rfl, ?_⟩
          refine ite2 (fun hgt => ?_) (fun _ => iteF (fin _ (Same.refl _)))
          have hc : 2 < c1 := of_decide_eq_true hgt
          obtain ⟨d9, t9, f9, dd9, td9, fd9, e9, h91, h92, h93, h94⟩ := lim_bent (a0 := .ref kl) (a1 := .ref md) (a2 := .ref wl) dH tH fH hn x14 hc
          refine ⟨_, rfl, _, rfl, _, rfl, m5, _, rfl, SqL.of (sZ2 _ _ eM5), fun t1 ht1 => ?_⟩
          rw [e9]
          have sT := same_put (u := .lst [d9, t9, f9]) ht1
          refine ⟨ru, t1, d9, t9, f9, d, t, f', l2, kvs2, ds2, dd9, td9, fd9, _, rfl, SqL.of upd_same, RuleO.same (RuleO.same B14.r hid_le) sT, gd2, dp_same sT _ _ (dp_same hid_le _ _ h91), dp_same sT _ _ (dp_same hid_le _ _ h92), dp_same sT _ _ (dp_same hid_le _ _ h93), h94, fun HY sY => ?_⟩
          have B15 := B14.same (hidS (sT.trans sY))
          exact ⟨_, rfl, _, rfl, wd, _, _, _, rfl, rfl, SqL.of (hid_le _ _ B15.w), words_at r10 r11, rfl, _, rfl, iteSelf (fin _ (sT.trans sY))⟩
        · have sR := Same.refl M11
          have B14 := B13.same (hidS sR)
          have x14 := x13.same (hidS sR)
          have fin : ∀ HZ, Same M11 HZ → ∃ (w8 w9 w10 w11 w12 w13 w14 : Option V) (n : Nat), ([some (.ref a), some (.ref wd), some (.int ((0 : Int) + (i : Int))), some (.ref q), some (.ref r), some (.ref pt), some (.ref bn), some (.ref ru), some (.int ((0 : Int) + (j : Int))), some (.int c1), some o1, some (.int c2), some o2, some (.ref m5), some (.ref m10), none, none, none, none, none] : L2.St) = [some (.ref a), some (.ref wd), some (.int ((0 : Int) + (i : Int))), some (.ref q), some (.ref r), some (.ref pt), some (.ref bn), some (.ref ru), w8, w9, w10, w11, w12, w13, w14, none, none, none, none, none] ∧ Off q H7 HZ ∧ PoolAt HZ q p zs n := fun HZ sZ => ⟨some (.int ((0 : Int) + (j : Int))), some (.int c1), some o1, some (.int c2), some o2, some (.ref m5), some (.ref m10), n8 + 1 + 1, rfl, fun b o hb e => sZ _ _ (sR _ _ (oM _ _ hb e)), (hPM.off sR).off sZ⟩
          refine ⟨_, rfl, _, _, rfl, rfl, _, rfl, ?_⟩
          refine ite2 (fun hgt => ?_) (fun _ => iteF (fin _ (Same.refl _)))
          have hc : 2 < c1 := of_decide_eq_true hgt
          obtain ⟨d9, t9, f9, dd9, td9, fd9, e9, h91, h92, h93, h94⟩ := lim_bent (a0 := .ref kl) (a1 := .ref md) (a2 := .ref wl) dH tH fH hn x14 hc
          refine ⟨_, rfl, _, rfl, _, rfl, m5, _, rfl, SqL.of (sR _ _ eM5), fun t1 ht1 => ?_⟩
          rw [e9]
          have sT := same_put (u := .lst [d9, t9, f9]) ht1
          refine ⟨ru, t1, d9, t9, f9, d, t, f', l2, kvs2, ds2, dd9, td9, fd9, _, rfl, SqL.of upd_same, RuleO.same (RuleO.same B14.r hid_le) sT, gd2, dp_same sT _ _ (dp_same hid_le _ _ h91), dp_same sT _ _ (dp_same hid_le _ _ h92), dp_same sT _ _ (dp_same hid_le _ _ h93), h94, fun HY sY => ?_⟩
          have B15 := B14.same (hidS (sT.trans sY))
          exact ⟨_, rfl, _, rfl, wd, _, _, _, rfl, rfl, SqL.of (hid_le _ _ B15.w), words_at r10 r11, rfl, _, rfl, iteSelf (fin _ (sT.trans sY))⟩
      · rintro σ H9 ⟨v8, v9, v10, v11, v12, v13, v14, n9, rfl, o9, hP9⟩
        exact ⟨some (.int ((0 : Int) + (i : Int))), some (.ref q), some (.ref r), some (.ref pt), some (.ref bn), some (.ref ru), v8, v9, v10, v11, v12, v13, v14, rfl, off_same q0 (fun b o hb e => o9 _ _ hb (oI _ _ hb e))⟩
    · rintro σ Y0 ⟨v2, v3, v4, v5, v6, v7, v8, v9, v10, v11, v12, v13, v14, rfl, sY0⟩
      refine ⟨(sm3 (by simp)), fun kk h_kk => ?_⟩
      rw [show ([V.str "a", V.str "b", V.str "c", V.str "d", V.str "abcdefgh"] : List V) = kh.map V.str from rfl]
      have sY1 : Same Y0 (upd Y0 kk (.lst (kh.map V.str))) := same_put h_kk
      have e_kk : (upd Y0 kk (.lst (kh.map V.str))) kk = some (.lst (kh.map V.str)) := upd_same
      generalize (upd Y0 kk (.lst (kh.map V.str))) = Y1 at sY1 e_kk ⊢
      have SY0_1 := sY1
      refine gn_st (σ' := [some (.ref a), some (.ref wd), v2, v3, v4, v5, v6, v7, v8, v9, v10, v11, v12, v13, v14, some (.ref kk), none, none, none, none]) rfl ?_
      refine ⟨_, rfl, kk, rfl, ⟨_, (SqL.of e_kk)⟩, fun D1 h_D1 => ?_⟩
      refine lc_new (K := K) (ds := kh.map (fun y => wy "a" y "less")) (SqL.of e_kk) (by rw [List.length_map, List.length_map]) (by decide) h_D1 (by decide +kernel) (fun i x d H6 Q6 hx hd6 sm6 k6 => ?_) fun WD1 ysD1 sWD1 e_D10 da_D10 => ?_
      · rw [List.getElem?_map] at hx hd6
        obtain ⟨y, hy, rfl⟩ := Option.map_eq_some_iff.mp hx
        rw [hy] at hd6
        obtain rfl := Option.some.inj hd6
        refine ⟨rfl, _, rfl, sm3 (by simp), fun t1 ht1 => ⟨sm3 (by simp), fun t2 ht2 => ?_⟩⟩
        exact k6 _ _ ((same_put ht1).trans (same_put ht2)) (.tup (SqT.of upd_same) (.cons (.str _) (.cons (.str _) (.cons (.tup (SqT.of ((same_put ht2) _ _ upd_same)) (.cons (.str _) .nil)) .nil))))
      revert sWD1 e_D10 da_D10
      generalize WD1 = Y2
      intro sY2 e_D1 da_D1
      have SY0_2 := SY0_1.trans sY2
      refine ⟨_, rfl, kk, rfl, ⟨_, (SqL.of (sY2 _ _ e_kk))⟩, fun D2 h_D2 => ?_⟩
      refine lc_new (K := K) (ds := kh.map (fun y => wy "a" y "more")) (SqL.of (sY2 _ _ e_kk)) (by rw [List.length_map, List.length_map]) (by decide) h_D2 (by decide +kernel) (fun i x d H6 Q6 hx hd6 sm6 k6 => ?_) fun WD2 ysD2 sWD2 e_D20 da_D20 => ?_
      · rw [List.getElem?_map] at hx hd6
        obtain ⟨y, hy, rfl⟩ := Option.map_eq_some_iff.mp hx
        rw [hy] at hd6
        obtain rfl := Option.some.inj hd6
        refine ⟨rfl, _, rfl, sm3 (by simp), fun t1 ht1 => ⟨sm3 (by simp), fun t2 ht2 => ?_⟩⟩
        exact k6 _ _ ((same_put ht1).trans (same_put ht2)) (.tup (SqT.of upd_same) (.cons (.str _) (.cons (.str _) (.cons (.tup (SqT.of ((same_put ht2) _ _ upd_same)) (.cons (.str _) .nil)) .nil))))
      revert sWD2 e_D20 da_D20
      generalize WD2 = Y3
      intro sY3 e_D2 da_D2
      have SY0_3 := SY0_2.trans sY3
      have lD1 : ysD1.length = 5 := (dps_len da_D1).symm
      have lD2 : ysD2.length = 5 := (dps_len da_D2).symm
      have daw := dps_app (dps_same sY3 _ _ da_D1) da_D2
      refine ⟨_, _, _, _, rfl, rfl, (sY3 _ _ e_D1), e_D2, (sm3 (by rw [lD1, lD2]; decide)), fun wv h_wv => ?_⟩
      have sY4 : Same Y3 (upd Y3 wv (.lst (ysD1 ++ ysD2))) := same_put h_wv
      have e_wv : (upd Y3 wv (.lst (ysD1 ++ ysD2))) wv = some (.lst (ysD1 ++ ysD2)) := upd_same
      generalize (upd Y3 wv (.lst (ysD1 ++ ysD2))) = Y4 at sY4 e_wv ⊢
      have SY0_4 := SY0_3.trans sY4
      refine gn_st (σ' := [some (.ref a), some (.ref wd), v2, v3, v4, v5, v6, v7, v8, v9, v10, v11, v12, v13, v14, some (.ref kk), some (.ref wv), none, none, none]) rfl ?_
      refine ⟨_, rfl, .inl ⟨rfl, _, (SqL.of e_wv)⟩, (sm3 (by simp)), fun t1 h_t1 => ?_⟩
      have sY5 : Same Y4 (upd Y4 t1 (.tup [.str "any"])) := same_put h_t1
      have e_t1 : (upd Y4 t1 (.tup [.str "any"])) t1 = some (.tup [.str "any"]) := upd_same
      generalize (upd Y4 t1 (.tup [.str "any"])) = Y5 at sY5 e_t1 ⊢
      have SY0_5 := SY0_4.trans sY5
      refine ⟨(sm3 (by simp)), fun t2 h_t2 => ?_⟩
      have sY6 : Same Y5 (upd Y5 t2 (.tup [.str "b", .str "a", .ref t1])) := same_put h_t2
      have e_t2 : (upd Y5 t2 (.tup [.str "b", .str "a", .ref t1])) t2 = some (.tup [.str "b", .str "a", .ref t1]) := upd_same
      generalize (upd Y5 t2 (.tup [.str "b", .str "a", .ref t1])) = Y6 at sY6 e_t2 ⊢
      have SY0_6 := SY0_5.trans sY6
      have SY4_6 := sY5.trans sY6
      have ewv := (SY4_6 _ _ e_wv)
      refine ⟨wv, _, _, rfl, rfl, ewv, Nat.lt_of_lt_of_le (by rw [List.length_append, lD1, lD2]; decide : (ysD1 ++ ysD2).length < 1000) (sm3 (Nat.le_refl 1000)), ?_⟩
      have SY3_5 := sY4.trans sY5
      have SY3_6 := SY3_5.trans sY6
      have kf : ∀ b o, b ≠ wv → Y6 b = some o → (upd Y6 wv (.lst (ysD1 ++ ysD2 ++ [.ref t2]))) b = some o := fun b o hb e => by rw [upd_ne hb]; exact e
      have da11 : DpAll K (upd Y6 wv (.lst (ysD1 ++ ysD2 ++ [.ref t2]))) (ysD1 ++ ysD2 ++ [.ref t2]) ways11 := dps_snoc (dps_off ewv kf _ _ (by decide +kernel) (dps_same SY3_6 _ _ daw)) (dp_off ewv kf (wy "b" "a" "any") _ (by decide +kernel) (.tup (SqT.of e_t2) (.cons (.str "b") (.cons (.str "a") (.cons (.tup (SqT.of (sY6 _ _ e_t1)) (.cons (.str "any") .nil)) .nil)))))
      have ew11 : (upd Y6 wv (.lst (ysD1 ++ ysD2 ++ [.ref t2]))) wv = some (.lst (ysD1 ++ ysD2 ++ [.ref t2])) := upd_same
      have SY1_3 := sY2.trans sY3
      have SY1_4 := SY1_3.trans sY4
      have SY1_5 := SY1_4.trans sY5
      have SY1_6 := SY1_5.trans sY6
      have ekk : (upd Y6 wv (.lst (ysD1 ++ ysD2 ++ [.ref t2]))) kk = some (.lst (kh.map V.str)) := kf _ _ (ne_of_none (SY1_3 _ _ e_kk) h_wv) (SY1_6 _ _ e_kk)
      have l11 : (ysD1 ++ ysD2 ++ [V.ref t2]).length = 11 := by rw [List.length_append, List.length_append, lD1, lD2]; rfl
      generalize hws : ysD1 ++ ysD2 ++ [V.ref t2] = w11 at da11 ew11 ekk l11 ⊢
      generalize (upd Y6 wv (.lst w11)) = Z0 at da11 ew11 ekk ⊢
      clear kf
      have e_kk2 := ekk
      have e_wv2 := ew11
      refine ⟨_, rfl, fun dx h_dx => ?_⟩
      refine ⟨upd_same, ms1, rfl, by decide, ?_⟩
      rw [show mergeK [] ms1 = ms1 by decide +kernel, upd_upd]
      have sZ1 : Same Z0 (upd Z0 dx (.dK ms1)) := same_put h_dx
      have e_dx : (upd Z0 dx (.dK ms1)) dx = some (.dK ms1) := upd_same
      generalize (upd Z0 dx (.dK ms1)) = Z1 at sZ1 e_dx ⊢
      have SZ0_1 := sZ1
      refine ⟨_, rfl, (sm3 (by simp)), fun t3 h_t3 => ?_⟩
      have sZ2 : Same Z1 (upd Z1 t3 (.tup [.str "any"])) := same_put h_t3
      have e_t3 : (upd Z1 t3 (.tup [.str "any"])) t3 = some (.tup [.str "any"]) := upd_same
      generalize (upd Z1 t3 (.tup [.str "any"])) = Z2 at sZ2 e_t3 ⊢
      have SZ0_2 := SZ0_1.trans sZ2
      refine ⟨(sm3 (by simp)), fun t4 h_t4 => ?_⟩
      have sZ3 : Same Z2 (upd Z2 t4 (.tup [.str "b", .str "b", .ref t3])) := same_put h_t4
      have e_t4 : (upd Z2 t4 (.tup [.str "b", .str "b", .ref t3])) t4 = some (.tup [.str "b", .str "b", .ref t3]) := upd_same
      generalize (upd Z2 t4 (.tup [.str "b", .str "b", .ref t3])) = Z3 at sZ3 e_t4 ⊢
      have SZ0_3 := SZ0_2.trans sZ3
      refine ⟨(sm3 (by simp)), fun t5 h_t5 => ?_⟩
      have sZ4 : Same Z3 (upd Z3 t5 (.lst [.ref t4])) := same_put h_t5
      have e_t5 : (upd Z3 t5 (.lst [.ref t4])) t5 = some (.lst [.ref t4]) := upd_same
      generalize (upd Z3 t5 (.lst [.ref t4])) = Z4 at sZ4 e_t5 ⊢
      have SZ0_4 := SZ0_3.trans sZ4
      refine ⟨_, _, _, _, rfl, rfl, (SZ0_4 _ _ e_wv2), e_t5, (sm3 (by rw [l11]; show 11 + 1 ≤ 1000; decide)), fun w12 h_w12 => ?_⟩
      have sZ5 : Same Z4 (upd Z4 w12 (.lst (w11 ++ [.ref t4]))) := same_put h_w12
      have e_w12 : (upd Z4 w12 (.lst (w11 ++ [.ref t4]))) w12 = some (.lst (w11 ++ [.ref t4])) := upd_same
      generalize (upd Z4 w12 (.lst (w11 ++ [.ref t4]))) = Z5 at sZ5 e_w12 ⊢
      have SZ0_5 := SZ0_4.trans sZ5
      refine ⟨(sm3 (by simp)), fun wide h_wide => ?_⟩
      have sZ6 : Same Z5 (upd Z5 wide (.lst [.ref kk, .ref dx, .ref w12, .int 9, .int 9, .bl true])) := same_put h_wide
      have e_wide : (upd Z5 wide (.lst [.ref kk, .ref dx, .ref w12, .int 9, .int 9, .bl true])) wide = some (.lst [.ref kk, .ref dx, .ref w12, .int 9, .int 9, .bl true]) := upd_same
      generalize (upd Z5 wide (.lst [.ref kk, .ref dx, .ref w12, .int 9, .int 9, .bl true])) = Z6 at sZ6 e_wide ⊢
      have SZ0_6 := SZ0_5.trans sZ6
      refine gn_st (σ' := [some (.ref a), some (.ref wd), v2, v3, v4, v5, v6, v7, v8, v9, v10, v11, v12, v13, v14, some (.ref kk), some (.ref wv), some (.ref wide), none, none]) rfl ?_
      have SZ1_3 := sZ2.trans sZ3
      have SZ1_4 := SZ1_3.trans sZ4
      have SZ1_5 := SZ1_4.trans sZ5
      have SZ1_6 := SZ1_5.trans sZ6
      have SZ3_5 := sZ4.trans sZ5
      have SZ3_6 := SZ3_5.trans sZ6
      have SZ2_4 := sZ3.trans sZ4
      have SZ2_5 := SZ2_4.trans sZ5
      have SZ2_6 := SZ2_5.trans sZ6
      have sxA : Six K Z6 [.ref kk, .ref dx, .ref w12, .int 9, .int 9, .bl true] none := ⟨_, _, _, _, _, _, strD kh, .dict ms1, .list ways12, .int 9, .int 9, .bool true, rfl, .lst (SqL.of (SZ0_6 _ _ e_kk2)) (dps_of_strs kh), ok_words kh_words (by decide), ms1_mat (SZ1_6 _ _ e_dx), .lst (SqL.of (sZ6 _ _ e_w12)) (dps_snoc (dps_same SZ0_6 _ _ da11) (.tup (SqT.of (SZ3_6 _ _ e_t4)) (.cons (.str "b") (.cons (.str "b") (.cons (.tup (SqT.of (SZ2_6 _ _ e_t3)) (.cons (.str "any") .nil)) .nil))))), ways12_ok, .int 9, .int 9, .bl true, last_good _ _ _ (by decide +kernel)⟩
      refine ⟨_, rfl, nil_call (asked_none (q := wide) sxA (SqL.of e_wide) fun Z1 sZ1 => ?_)⟩
      revert sZ1
      generalize Z1 = Z7
      intro sZ7
      have SZ0_7 := SZ0_6.trans sZ7
      refine ⟨_, rfl, iteF ?_⟩
      refine ⟨_, rfl, _, rfl, wide, _, rfl, (SqL.of (sZ7 _ _ e_wide)), fun u1 h_u1 => ?_⟩
      rw [show cutV ([V.ref kk, V.ref dx, V.ref w12, V.int 9, V.int 9, V.bl true] : List V) none (some 3) = [V.ref kk, V.ref dx, V.ref w12] from rfl]
      have sZ8 : Same Z7 (upd Z7 u1 (.lst [.ref kk, .ref dx, .ref w12])) := same_put h_u1
      have e_u1 : (upd Z7 u1 (.lst [.ref kk, .ref dx, .ref w12])) u1 = some (.lst [.ref kk, .ref dx, .ref w12]) := upd_same
      generalize (upd Z7 u1 (.lst [.ref kk, .ref dx, .ref w12])) = Z8 at sZ8 e_u1 ⊢
      have SZ0_8 := SZ0_7.trans sZ8
      refine ⟨(sm3 (by simp)), fun u2 h_u2 => ?_⟩
      have sZ9 : Same Z8 (upd Z8 u2 (.lst [.int 0, .int 1, .bl false])) := same_put h_u2
      have e_u2 : (upd Z8 u2 (.lst [.int 0, .int 1, .bl false])) u2 = some (.lst [.int 0, .int 1, .bl false]) := upd_same
      generalize (upd Z8 u2 (.lst [.int 0, .int 1, .bl false])) = Z9 at sZ9 e_u2 ⊢
      have SZ0_9 := SZ0_8.trans sZ9
      refine ⟨_, _, _, _, rfl, rfl, (sZ9 _ _ e_u1), e_u2, (sm3 (by simp)), fun u3 h_u3 => ?_⟩
      rw [show (([V.ref kk, V.ref dx, V.ref w12] : List V) ++ [V.int 0, V.int 1, V.bl false]) = [V.ref kk, V.ref dx, V.ref w12, V.int 0, V.int 1, V.bl false] from rfl]
      have sZ10 : Same Z9 (upd Z9 u3 (.lst [.ref kk, .ref dx, .ref w12, .int 0, .int 1, .bl false])) := same_put h_u3
      have e_u3 : (upd Z9 u3 (.lst [.ref kk, .ref dx, .ref w12, .int 0, .int 1, .bl false])) u3 = some (.lst [.ref kk, .ref dx, .ref w12, .int 0, .int 1, .bl false]) := upd_same
      generalize (upd Z9 u3 (.lst [.ref kk, .ref dx, .ref w12, .int 0, .int 1, .bl false])) = Z10 at sZ10 e_u3 ⊢
      have SZ0_10 := SZ0_9.trans sZ10
      have SZ1_7 := SZ1_6.trans sZ7
      have SZ1_8 := SZ1_7.trans sZ8
      have SZ1_9 := SZ1_8.trans sZ9
      have SZ1_10 := SZ1_9.trans sZ10
      have SZ5_7 := sZ6.trans sZ7
      have SZ5_8 := SZ5_7.trans sZ8
      have SZ5_9 := SZ5_8.trans sZ9
      have SZ5_10 := SZ5_9.trans sZ10
      have SZ3_7 := SZ3_6.trans sZ7
      have SZ3_8 := SZ3_7.trans sZ8
      have SZ3_9 := SZ3_8.trans sZ9
      have SZ3_10 := SZ3_9.trans sZ10
      have SZ2_7 := SZ2_6.trans sZ7
      have SZ2_8 := SZ2_7.trans sZ8
      have SZ2_9 := SZ2_8.trans sZ9
      have SZ2_10 := SZ2_9.trans sZ10
      have sxB : Six K Z10 [.ref kk, .ref dx, .ref w12, .int 0, .int 1, .bl false] none := ⟨_, _, _, _, _, _, strD kh, .dict ms1, .list ways12, .int 0, .int 1, .bool false, rfl, .lst (SqL.of (SZ0_10 _ _ e_kk2)) (dps_of_strs kh), ok_words kh_words (by decide), ms1_mat (SZ1_10 _ _ e_dx), .lst (SqL.of (SZ5_10 _ _ e_w12)) (dps_snoc (dps_same SZ0_10 _ _ da11) (.tup (SqT.of (SZ3_10 _ _ e_t4)) (.cons (.str "b") (.cons (.str "b") (.cons (.tup (SqT.of (SZ2_10 _ _ e_t3)) (.cons (.str "any") .nil)) .nil))))), ways12_ok, .int 0, .int 1, .bl false, last_good _ _ _ (by decide +kernel)⟩
      refine nil_call (asked_none sxB (SqL.of e_u3) fun Z2 sZ2 => ?_)
      revert sZ2
      generalize Z2 = Z11
      intro sZ11
      have SZ0_11 := SZ0_10.trans sZ11
      refine ⟨_, rfl, iteF ?_⟩
      refine ⟨_, rfl, (sm3 (by simp)), fun t6 h_t6 => ?_⟩
      have sZ12 : Same Z11 (upd Z11 t6 (.tup [.str "any"])) := same_put h_t6
      have e_t6 : (upd Z11 t6 (.tup [.str "any"])) t6 = some (.tup [.str "any"]) := upd_same
      generalize (upd Z11 t6 (.tup [.str "any"])) = Z12 at sZ12 e_t6 ⊢
      have SZ0_12 := SZ0_11.trans sZ12
      refine ⟨(sm3 (by simp)), fun t7 h_t7 => ?_⟩
      have sZ13 : Same Z12 (upd Z12 t7 (.tup [.str "b", .str "b", .ref t6])) := same_put h_t7
      have e_t7 : (upd Z12 t7 (.tup [.str "b", .str "b", .ref t6])) t7 = some (.tup [.str "b", .str "b", .ref t6]) := upd_same
      generalize (upd Z12 t7 (.tup [.str "b", .str "b", .ref t6])) = Z13 at sZ13 e_t7 ⊢
      have SZ0_13 := SZ0_12.trans sZ13
      refine ⟨(sm3 (by simp)), fun t8 h_t8 => ?_⟩
      have sZ14 : Same Z13 (upd Z13 t8 (.tup [.str "any"])) := same_put h_t8
      have e_t8 : (upd Z13 t8 (.tup [.str "any"])) t8 = some (.tup [.str "any"]) := upd_same
      generalize (upd Z13 t8 (.tup [.str "any"])) = Z14 at sZ14 e_t8 ⊢
      have SZ0_14 := SZ0_13.trans sZ14
      refine ⟨(sm3 (by simp)), fun t9 h_t9 => ?_⟩
      have sZ15 : Same Z14 (upd Z14 t9 (.tup [.str "c", .str "b", .ref t8])) := same_put h_t9
      have e_t9 : (upd Z14 t9 (.tup [.str "c", .str "b", .ref t8])) t9 = some (.tup [.str "c", .str "b", .ref t8]) := upd_same
      generalize (upd Z14 t9 (.tup [.str "c", .str "b", .ref t8])) = Z15 at sZ15 e_t9 ⊢
      have SZ0_15 := SZ0_14.trans sZ15
      refine ⟨(sm3 (by simp)), fun t10 h_t10 => ?_⟩
      have sZ16 : Same Z15 (upd Z15 t10 (.lst [.ref t7, .ref t9])) := same_put h_t10
      have e_t10 : (upd Z15 t10 (.lst [.ref t7, .ref t9])) t10 = some (.lst [.ref t7, .ref t9]) := upd_same
      generalize (upd Z15 t10 (.lst [.ref t7, .ref t9])) = Z16 at sZ16 e_t10 ⊢
      have SZ0_16 := SZ0_15.trans sZ16
      refine ⟨_, _, _, _, rfl, rfl, (SZ0_16 _ _ e_wv2), e_t10, (sm3 (by rw [l11]; show 11 + 2 ≤ 1000; decide)), fun w13 h_w13 => ?_⟩
      have sZ17 : Same Z16 (upd Z16 w13 (.lst (w11 ++ [.ref t7, .ref t9]))) := same_put h_w13
      have e_w13 : (upd Z16 w13 (.lst (w11 ++ [.ref t7, .ref t9]))) w13 = some (.lst (w11 ++ [.ref t7, .ref t9])) := upd_same
      generalize (upd Z16 w13 (.lst (w11 ++ [.ref t7, .ref t9]))) = Z17 at sZ17 e_w13 ⊢
      have SZ0_17 := SZ0_16.trans sZ17
      refine gn_st (σ' := [some (.ref a), some (.ref wd), v2, v3, v4, v5, v6, v7, v8, v9, v10, v11, v12, v13, v14, some (.ref kk), some (.ref wv), some (.ref wide), some (.ref w13), none]) rfl ?_
      refine ⟨_, rfl, fun dy h_dy => ?_⟩
      refine ⟨upd_same, ms1, rfl, by decide, ?_⟩
      rw [show mergeK [] ms1 = ms1 by decide +kernel, upd_upd]
      have sZ18 : Same Z17 (upd Z17 dy (.dK ms1)) := same_put h_dy
      have e_dy : (upd Z17 dy (.dK ms1)) dy = some (.dK ms1) := upd_same
      generalize (upd Z17 dy (.dK ms1)) = Z18 at sZ18 e_dy ⊢
      have SZ0_18 := SZ0_17.trans sZ18
      refine ⟨_, rfl, (sm3 (by simp)), fun lt h_lt => ?_⟩
      have sZ19 : Same Z18 (upd Z18 lt (.lst [.ref kk, .ref dy, .ref w13, .non, .non, .bl false])) := same_put h_lt
      have e_lt : (upd Z18 lt (.lst [.ref kk, .ref dy, .ref w13, .non, .non, .bl false])) lt = some (.lst [.ref kk, .ref dy, .ref w13, .non, .non, .bl false]) := upd_same
      generalize (upd Z18 lt (.lst [.ref kk, .ref dy, .ref w13, .non, .non, .bl false])) = Z19 at sZ19 e_lt ⊢
      have SZ0_19 := SZ0_18.trans sZ19
      have SZ13_15 := sZ14.trans sZ15
      have SZ13_16 := SZ13_15.trans sZ16
      have SZ13_17 := SZ13_16.trans sZ17
      have SZ13_18 := SZ13_17.trans sZ18
      have SZ13_19 := SZ13_18.trans sZ19
      have SZ12_14 := sZ13.trans sZ14
      have SZ12_15 := SZ12_14.trans sZ15
      have SZ12_16 := SZ12_15.trans sZ16
      have SZ12_17 := SZ12_16.trans sZ17
      have SZ12_18 := SZ12_17.trans sZ18
      have SZ12_19 := SZ12_18.trans sZ19
      have SZ15_17 := sZ16.trans sZ17
      have SZ15_18 := SZ15_17.trans sZ18
      have SZ15_19 := SZ15_18.trans sZ19
      have SZ14_16 := sZ15.trans sZ16
      have SZ14_17 := SZ14_16.trans sZ17
      have SZ14_18 := SZ14_17.trans sZ18
      have SZ14_19 := SZ14_18.trans sZ19
      have SZ17_19 := sZ18.trans sZ19
      have sxC : Six K Z19 [.ref kk, .ref dy, .ref w13, .non, .non, .bl false] (some "ways") := ⟨_, _, _, _, _, _, strD kh, .dict ms1, .list ways13, .none, .none, .bool false, rfl, .lst (SqL.of (SZ0_19 _ _ e_kk2)) (dps_of_strs kh), ok_words kh_words (by decide), ms1_mat (sZ19 _ _ e_dy), .lst (SqL.of (SZ17_19 _ _ e_w13)) (dps_app (dps_same SZ0_19 _ _ da11) (.cons (.tup (SqT.of (SZ13_19 _ _ e_t7)) (.cons (.str "b") (.cons (.str "b") (.cons (.tup (SqT.of (SZ12_19 _ _ e_t6)) (.cons (.str "any") .nil)) .nil)))) (.cons (.tup (SqT.of (SZ15_19 _ _ e_t9)) (.cons (.str "c") (.cons (.str "b") (.cons (.tup (SqT.of (SZ14_19 _ _ e_t8)) (.cons (.str "any") .nil)) .nil)))) .nil))), ways13_ok, .non, .non, .bl false, last_bad _ _ _⟩
      refine nil_call (asked_some sxC (SqL.of e_lt) fun Z3 sZ3 => ?_)
      exact ⟨rfl, kfin Z3⟩
end
end K02

set_option Elab.async false
set_option linter.all false
set_option maxRecDepth 100000
set_option maxHeartbeats 0
namespace K02
open PySem PySem.Spec PyProof.Rows L2 RK EX
theorem fun_of {K : PySem.W.Frag} {x qual : Str} {st : Stmt} {f : Addr} {fd : FuncData} (F : FunD K x qual (defArgs st) (defBody st) (defScope st) [] [] f fd) : Fun K x qual st f fd := by
  obtain ⟨oc, od, dV, kV, doc, pm, an, cdv, ct, osl, rfl, lk, hcd, hD, hK⟩ := F.ex
  rcases hD with ⟨_, rfl⟩ | ⟨e, _⟩
  · exact ⟨⟨oc, od, kV, doc, pm, an, cdv, ct, osl, rfl, lk, hcd⟩, F.kp⟩
  · exact absurd rfl e
abbrev iB : Stmt := (bodyOf (top 4)).getD 0 (.Pass ⟨0, 0, 0, 0⟩)
theorem scB : FnScope ["self", "part"] ["self", "part"] (defScope iB) := ⟨rfl, rfl, rfl, by decide +kernel, rfl, by decide +kernel, by decide +kernel⟩
theorem xiB {P : Program} {w : World} {K : PySem.W.Frag} {mg : Str → Option Value} {base : Heap} {fd : FuncData} (F : Fun K "__init__" "BadRule.__init__" iB (He.ma K (He.ga K "BadRule") "__init__") fd) (g : mg "BadRule" = some (.ref (He.ga K "BadRule"))) (T : XC K (He.ga K "BadRule")) (N : NoF K (He.ga K "BadRule") "part")
    (h1 : PySem.W.findIn K (.ref (He.ga K "BadRule")) "__init__" = some (some (.ref (He.ma K (He.ga K "BadRule") "__init__")))) (h2 : PySem.W.typeIn K (.ref (He.ma K (He.ga K "BadRule") "__init__")) = some (.type "function")) :
    XI P w K mg base 1 "BadRule" "part" (He.ga K "BadRule") (He.ma K (He.ga K "BadRule") "__init__") := by
  refine ⟨g, T, h1, h2, fd, ?_, fun s u v => ?_, fun s u v => ?_⟩
  · refine F.ok scB (fun vs H Q E h => ?_) (fun cdv A outer s H vs Q E hr h => ?_)
    · obtain ⟨a, y, rfl, _⟩ := h
      rfl
    · obtain ⟨a, y, rfl, ha, k⟩ := h
      exact ⟨_, pss_one (ps_fst (pv 0) (pv 1)), _, rfl, _, rfl, a, He.ga K "BadRule", rfl, T, N, ha, k⟩
  · obtain ⟨oc, od, kV, doc, pm, an, cdv, ct, osl, rfl, lk, hcd⟩ := F.ex
    exact .of_eq rfl
  · obtain ⟨oc, od, kV, doc, pm, an, cdv, ct, osl, rfl, lk, hcd⟩ := F.ex
    exact .of_eq rfl
/-! ### the head: facts by names, one run of the top -/
def d0 : He.DefD := ⟨("is_word", none), "is_word", "is_word", defArgs sWord, defBody sWord, defScope sWord, [], []⟩
def d1 : He.DefD := ⟨("is_integer", none), "is_integer", "is_integer", defArgs sInt, defBody sInt, defScope sInt, [], []⟩
def d2 : He.DefD := ⟨("is_one_of", none), "is_one_of", "is_one_of", defArgs sOne, defBody sOne, defScope sOne, [], []⟩
def d3 : He.DefD := ⟨("are_kinds", none), "are_kinds", "are_kinds", defArgs sKinds, defBody sKinds, defScope sKinds, [], []⟩
def d4 : He.DefD := ⟨("are_measures", none), "are_measures", "are_measures", defArgs sMeas, defBody sMeas, defScope sMeas, [], []⟩
def d5 : He.DefD := ⟨("is_way", none), "is_way", "is_way", defArgs sWay, defBody sWay, defScope sWay, [], []⟩
def d6 : He.DefD := ⟨("are_ways", none), "are_ways", "are_ways", defArgs sWays, defBody sWays, defScope sWays, [], []⟩
def d7 : He.DefD := ⟨("is_limit", none), "is_limit", "is_limit", defArgs sLimit, defBody sLimit, defScope sLimit, [], []⟩
def d8 : He.DefD := ⟨("wrong_part", none), "wrong_part", "wrong_part", defArgs sWrong, defBody sWrong, defScope sWrong, [], []⟩
def d9 : He.DefD := ⟨("_law_numbers", none), "_law_numbers", "_law_numbers", defArgs sNum, defBody sNum, defScope sNum, [], []⟩
def d10 : He.DefD := ⟨("_law_pool", none), "_law_pool", "_law_pool", defArgs sPool, defBody sPool, defScope sPool, [], []⟩
def d11 : He.DefD := ⟨("_law_draw", none), "_law_draw", "_law_draw", defArgs sDraw, defBody sDraw, defScope sDraw, [], []⟩
def d12 : He.DefD := ⟨("_law_pick", none), "_law_pick", "_law_pick", defArgs sPick, defBody sPick, defScope sPick, [], []⟩
def d13 : He.DefD := ⟨("_law_opened", none), "_law_opened", "_law_opened", defArgs sOpen, defBody sOpen, defScope sOpen, [], []⟩
def d14 : He.DefD := ⟨("_law_rule", none), "_law_rule", "_law_rule", defArgs sRule, defBody sRule, defScope sRule, [], []⟩
def d15 : He.DefD := ⟨("_law_made", none), "_law_made", "_law_made", defArgs sMade, defBody sMade, defScope sMade, [], []⟩
def d16 : He.DefD := ⟨("_law_asked", none), "_law_asked", "_law_asked", defArgs sAsked, defBody sAsked, defScope sAsked, [], []⟩
def d17 : He.DefD := ⟨("_law_limited", none), "_law_limited", "_law_limited", defArgs sLim, defBody sLim, defScope sLim, [], []⟩
def d18 : He.DefD := ⟨("_law_bends", none), "_law_bends", "_law_bends", defArgs sBends, defBody sBends, defScope sBends, [], []⟩
def d19 : He.DefD := ⟨("law", none), "law", "law", defArgs sLaw, defBody sLaw, defScope sLaw, [], []⟩
def d20 : He.DefD := ⟨("Rule", some "__init__"), "__init__", "Rule.__init__", defArgs sInit, defBody sInit, defScope sInit, [], [("deep", .non), ("tall", .non), ("free", .bl false)]⟩
def d21 : He.DefD := ⟨("Rule", some "limited"), "limited", "Rule.limited", defArgs sLimited, defBody sLimited, defScope sLimited, [], [("deep", .non), ("tall", .non), ("free", .bl false)]⟩
def d22 : He.DefD := ⟨("BadRule", some "__init__"), "__init__", "BadRule.__init__", defArgs iB, defBody iB, defScope iB, [], []⟩
def d23 : He.DefD := ⟨("is_between", none), "is_between", "is_between", defArgs sBtw, defBody sBtw, defScope sBtw, [], []⟩
def fn : List He.DefD := ([d0, d1, d2, d3, d4, d5, d6, d7, d8, d9, d10, d11, d12, d13, d14, d15, d16, d17, d18, d19] : List He.DefD) ++ ([d20, d21, d22, d23] : List He.DefD)
def fa : List He.Fa := ([.glo "is_word", .glo "is_integer", .glo "is_one_of", .glo "are_kinds", .glo "are_measures", .glo "is_way", .glo "are_ways", .glo "is_limit", .glo "wrong_part", .glo "_law_numbers", .glo "_law_pool", .glo "_law_draw", .glo "_law_pick", .glo "_law_opened", .glo "_law_rule", .glo "_law_made", .glo "_law_asked", .glo "_law_limited", .glo "_law_bends", .glo "law"] : List He.Fa) ++ ([.glo "Rule", .glo "BadRule", .glo "BadArgument", .glo "PackError", .glo "SIGN_STANDS", .free "max", .free "min", .free "int", .free "range", .free "len", .free "isinstance", .free "all", .free "set", .free "str", .free "list", .free "tuple", .free "dict", .free "bool", .free "sorted", .str "LETTERS" letters] : List He.Fa) ++ ([.int "LONGEST_WORD" 8, .int "MOST_KINDS" 5, .int "MOST_MEASURES" 3, .int "MOST_WAYS" 12, .int "GREATEST_LIMIT" 9, .cls "Rule", .noat "Rule" "_kinds", .noat "Rule" "_measures", .noat "Rule" "_ways", .noat "Rule" "_deep", .noat "Rule" "_tall", .noat "Rule" "_free", .mkr "Rule", .meth "Rule" "limited", .exm "BadRule" "PackError" true, .glo "is_between"] : List He.Fa)
def ts : List He.Tab := [(fun K => He.ga K "SIGN_STANDS", signL)]
/-- what is asked of the classes -/
def clB (K : PySem.W.Frag) : Bool :=
  let cB := He.ga K "BadRule"
  noB K cB "part" && (He.eqO (PySem.W.findIn K (.ref cB) "__init__") (some (some (.ref (He.ma K cB "__init__")))) && (decide (PySem.W.typeIn K (.ref (He.ma K cB "__init__")) = some (.type "function")) && (xcB K cB && (decide (PySem.W.typeIn K (.ref cB) = some (.type "type")) &&
  (decide (PySem.W.kitOne K (.ref cB) (.ref cB) = some true) && (decide (PySem.W.kitOne K (.ref cB) (.ref (He.ga K "BadArgument")) = some false) && (kclB K &&
  (signL ++ (["small"] : List Str)).all fun z => match PySem.W.nsIn K (He.ga K "SIGN_STANDS") z with
    | some r => r.isSome == signL.contains z
    | none => false)))))))
abbrev R : PySem.W.OpenRow := PySem.W.OpenLaw.row PySem.Challenge.rw_packedbases_k02_no_rules
def part (g : Addr → Option Obj) : PySem.W.Frag := He.frG g (He.asD g 5)
def obG (g : Addr → Option Obj) : Bool × He.AlT := let K := part g; (clB K, He.obsT fa fn ts K)
def hk : PySem.W.Hook where
  α := Bool × He.AlT
  obs := fun s => obG s.heap.get?
  val := fun w => (true, He.valT fn ts w)
  says := fun w h => ∃ K : PySem.W.Frag, K.In h ∧ clB K = true ∧ He.SaysT fa fn ts w K
  of := fun _ _ e => ⟨_, He.frG_in, congrArg Prod.fst e, congrArg Prod.snd e⟩
  keeps := fun _ _ _ ⟨K, hK, c⟩ k => ⟨K, PySem.W.Frag.In.keeps hK k, c⟩
def ob (s : PySem.W.SharedT) : Bool × He.AlT := obG (HandSHeadRun.getT s)
theorem ob_eq (s : PySem.W.SharedT) : ob s = hk.obs s.abs := by
  have e : HandSHeadRun.getT s = s.abs.heap.get? := funext (HandSHeadRun.getT_eq s)
  show obG (HandSHeadRun.getT s) = obG s.abs.heap.get?
  rw [e]
def loose : List Str := (["_wall", "PackError", "BadArgument", "BadRule", "LETTERS", "LONGEST_WORD", "MOST_KINDS", "MOST_MEASURES", "MOST_WAYS", "GREATEST_LIMIT", "SIGN_STANDS", "is_word", "is_integer", "is_one_of", "are_kinds"] : List Str) ++ (["are_measures", "is_way", "are_ways", "is_limit", "wrong_part", "Rule", "are_kin", "need_kin", "with_ways", "_law_numbers", "_law_pool", "_law_draw", "_law_pick", "_law_opened", "_law_rule"] : List Str) ++ (["_law_made", "_law_asked", "_law_limited", "_law_bends", "is_between"] : List Str)
end K02

set_option Elab.async false
set_option linter.all false
set_option maxRecDepth 100000
set_option maxHeartbeats 0
namespace K02
open PySem PySem.Spec PyProof.Rows L2 RK EX
theorem run (w : World) : HandSHeadRun.RunEq R (PySem.W.view R.prog [38]) hk ob 8000 loose w :=
  PySem.W.byRow2 "special-get-raises" (P := fun w => HandSHeadRun.RunEq R (PySem.W.view R.prog [38]) hk ob 8000 loose w) (fun w => by
    intro os
    kernel_rfl) (fun w => by
    intro os
    kernel_rfl) w
end K02

set_option Elab.async false
set_option linter.all false
set_option maxRecDepth 100000
set_option maxHeartbeats 0
namespace K02
open PySem PySem.Spec PyProof.Rows L2 RK EX
theorem facts {P : Program} {w : World} {K : PySem.W.Frag} {h : Heap} {mg : Str → Option Value} {f : Addr} (X : K.In h) (GN : h.Ns mainGlobals mg) (hfa : mg ("law" : Str) = some (.ref f)) (cl : clB K = true) (ct : He.SaysT fa fn ts w K) :
    ∃ fd : FuncData, (∀ (s : Shared) (v : Value), BindsTo s fd ⟨[v], []⟩ [("script", v)]) ∧ ∀ base : Heap, K.In base → base.Ns mainGlobals mg → G.FnG P w K mg base CX0 9 f fd ["script"] (spLaw K) := by
  have c := ct.d
  obtain ⟨c1, cl⟩ := He.ba cl
  obtain ⟨c2, cl⟩ := He.ba cl
  obtain ⟨c3, cl⟩ := He.ba cl
  obtain ⟨c4, cl⟩ := He.ba cl
  obtain ⟨c5, cl⟩ := He.ba cl
  obtain ⟨c6, cl⟩ := He.ba cl
  obtain ⟨c7, cl⟩ := He.ba cl
  obtain ⟨c8, c9⟩ := He.ba cl
  obtain ⟨fd0, F0⟩ := c.def_ 0 (d := d0) rfl
  have g0 : mg "is_word" = some (.ref (He.ga K "is_word")) := He.glo_ok X GN (c.fact 0 (f := .glo "is_word") rfl)
  have W0 := fun_of (st := sWord) F0
  have b0 := W0.binds (ps := ["value"]) fun _ _ _ _ _ _ us hl => match us, hl with | [_], _ => rfl
  obtain ⟨fd1, F1⟩ := c.def_ 1 (d := d1) rfl
  have g1 : mg "is_integer" = some (.ref (He.ga K "is_integer")) := He.glo_ok X GN (c.fact 1 (f := .glo "is_integer") rfl)
  have W1 := fun_of (st := sInt) F1
  have b1 := W1.binds (ps := ["value"]) fun _ _ _ _ _ _ us hl => match us, hl with | [_], _ => rfl
  obtain ⟨fd2, F2⟩ := c.def_ 2 (d := d2) rfl
  have g2 : mg "is_one_of" = some (.ref (He.ga K "is_one_of")) := He.glo_ok X GN (c.fact 2 (f := .glo "is_one_of") rfl)
  have W2 := fun_of (st := sOne) F2
  have b2 := W2.binds (ps := ["value", "names"]) fun _ _ _ _ _ _ us hl => match us, hl with | [_, _], _ => rfl
  obtain ⟨fd3, F3⟩ := c.def_ 3 (d := d3) rfl
  have g3 : mg "are_kinds" = some (.ref (He.ga K "are_kinds")) := He.glo_ok X GN (c.fact 3 (f := .glo "are_kinds") rfl)
  have W3 := fun_of (st := sKinds) F3
  have b3 := W3.binds (ps := ["value"]) fun _ _ _ _ _ _ us hl => match us, hl with | [_], _ => rfl
  obtain ⟨fd4, F4⟩ := c.def_ 4 (d := d4) rfl
  have g4 : mg "are_measures" = some (.ref (He.ga K "are_measures")) := He.glo_ok X GN (c.fact 4 (f := .glo "are_measures") rfl)
  have W4 := fun_of (st := sMeas) F4
  have b4 := W4.binds (ps := ["value"]) fun _ _ _ _ _ _ us hl => match us, hl with | [_], _ => rfl
  obtain ⟨fd5, F5⟩ := c.def_ 5 (d := d5) rfl
  have g5 : mg "is_way" = some (.ref (He.ga K "is_way")) := He.glo_ok X GN (c.fact 5 (f := .glo "is_way") rfl)
  have W5 := fun_of (st := sWay) F5
  have b5 := W5.binds (ps := ["value", "kinds", "many"]) fun _ _ _ _ _ _ us hl => match us, hl with | [_, _, _], _ => rfl
  obtain ⟨fd6, F6⟩ := c.def_ 6 (d := d6) rfl
  have g6 : mg "are_ways" = some (.ref (He.ga K "are_ways")) := He.glo_ok X GN (c.fact 6 (f := .glo "are_ways") rfl)
  have W6 := fun_of (st := sWays) F6
  have b6 := W6.binds (ps := ["value", "kinds", "many"]) fun _ _ _ _ _ _ us hl => match us, hl with | [_, _, _], _ => rfl
  obtain ⟨fd7, F7⟩ := c.def_ 7 (d := d7) rfl
  have g7 : mg "is_limit" = some (.ref (He.ga K "is_limit")) := He.glo_ok X GN (c.fact 7 (f := .glo "is_limit") rfl)
  have W7 := fun_of (st := sLimit) F7
  have b7 := W7.binds (ps := ["value", "least"]) fun _ _ _ _ _ _ us hl => match us, hl with | [_, _], _ => rfl
  obtain ⟨fd8, F8⟩ := c.def_ 8 (d := d8) rfl
  have g8 : mg "wrong_part" = some (.ref (He.ga K "wrong_part")) := He.glo_ok X GN (c.fact 8 (f := .glo "wrong_part") rfl)
  have W8 := fun_of (st := sWrong) F8
  have b8 := W8.binds (ps := nWrong) fun _ _ _ _ _ _ us hl => match us, hl with | [_, _, _, _, _, _], _ => rfl
  obtain ⟨fd9, F9⟩ := c.def_ 9 (d := d9) rfl
  have g9 : mg "_law_numbers" = some (.ref (He.ga K "_law_numbers")) := He.glo_ok X GN (c.fact 9 (f := .glo "_law_numbers") rfl)
  have W9 := fun_of (st := sNum) F9
  have b9 := W9.binds (ps := ["cell", "salt", "sizes"]) fun _ _ _ _ _ _ us hl => match us, hl with | [_, _, _], _ => rfl
  obtain ⟨fd10, F10⟩ := c.def_ 10 (d := d10) rfl
  have g10 : mg "_law_pool" = some (.ref (He.ga K "_law_pool")) := He.glo_ok X GN (c.fact 10 (f := .glo "_law_pool") rfl)
  have W10 := fun_of (st := sPool) F10
  have b10 := W10.binds (ps := ["cell", "salt", "many"]) fun _ _ _ _ _ _ us hl => match us, hl with | [_, _, _], _ => rfl
  obtain ⟨fd11, F11⟩ := c.def_ 11 (d := d11) rfl
  have g11 : mg "_law_draw" = some (.ref (He.ga K "_law_draw")) := He.glo_ok X GN (c.fact 11 (f := .glo "_law_draw") rfl)
  have W11 := fun_of (st := sDraw) F11
  have b11 := W11.binds (ps := ["pool", "many"]) fun _ _ _ _ _ _ us hl => match us, hl with | [_, _], _ => rfl
  obtain ⟨fd12, F12⟩ := c.def_ 12 (d := d12) rfl
  have g12 : mg "_law_pick" = some (.ref (He.ga K "_law_pick")) := He.glo_ok X GN (c.fact 12 (f := .glo "_law_pick") rfl)
  have W12 := fun_of (st := sPick) F12
  have b12 := W12.binds (ps := ["pool", "some"]) fun _ _ _ _ _ _ us hl => match us, hl with | [_, _], _ => rfl
  obtain ⟨fd13, F13⟩ := c.def_ 13 (d := d13) rfl
  have g13 : mg "_law_opened" = some (.ref (He.ga K "_law_opened")) := He.glo_ok X GN (c.fact 13 (f := .glo "_law_opened") rfl)
  have W13 := fun_of (st := sOpen) F13
  have b13 := W13.binds (ps := ["script", "k", "many"]) fun _ _ _ _ _ _ us hl => match us, hl with | [_, _, _], _ => rfl
  obtain ⟨fd14, F14⟩ := c.def_ 14 (d := d14) rfl
  have g14 : mg "_law_rule" = some (.ref (He.ga K "_law_rule")) := He.glo_ok X GN (c.fact 14 (f := .glo "_law_rule") rfl)
  have W14 := fun_of (st := sRule) F14
  have b14 := W14.binds (ps := ["pool", "kinds", "ways"]) fun _ _ _ _ _ _ us hl => match us, hl with | [_, _, _], _ => rfl
  obtain ⟨fd15, F15⟩ := c.def_ 15 (d := d15) rfl
  have g15 : mg "_law_made" = some (.ref (He.ga K "_law_made")) := He.glo_ok X GN (c.fact 15 (f := .glo "_law_made") rfl)
  have W15 := fun_of (st := sMade) F15
  have b15 := W15.binds (ps := ["rule"]) fun _ _ _ _ _ _ us hl => match us, hl with | [_], _ => rfl
  obtain ⟨fd16, F16⟩ := c.def_ 16 (d := d16) rfl
  have g16 : mg "_law_asked" = some (.ref (He.ga K "_law_asked")) := He.glo_ok X GN (c.fact 16 (f := .glo "_law_asked") rfl)
  have W16 := fun_of (st := sAsked) F16
  have b16 := W16.binds (ps := ["parts"]) fun _ _ _ _ _ _ us hl => match us, hl with | [_], _ => rfl
  obtain ⟨fd17, F17⟩ := c.def_ 17 (d := d17) rfl
  have g17 : mg "_law_limited" = some (.ref (He.ga K "_law_limited")) := He.glo_ok X GN (c.fact 17 (f := .glo "_law_limited") rfl)
  have W17 := fun_of (st := sLim) F17
  have b17 := W17.binds (ps := ["ruled", "parts"]) fun _ _ _ _ _ _ us hl => match us, hl with | [_, _], _ => rfl
  obtain ⟨fd18, F18⟩ := c.def_ 18 (d := d18) rfl
  have g18 : mg "_law_bends" = some (.ref (He.ga K "_law_bends")) := He.glo_ok X GN (c.fact 18 (f := .glo "_law_bends") rfl)
  have W18 := fun_of (st := sBends) F18
  have b18 := W18.binds (ps := ["rule"]) fun _ _ _ _ _ _ us hl => match us, hl with | [_], _ => rfl
  obtain ⟨fd23, F23⟩ := c.def_ 23 (d := d23) rfl
  have g23 : mg "is_between" = some (.ref (He.ga K "is_between")) := He.glo_ok X GN (c.fact 55 (f := .glo "is_between") rfl)
  have W23 := fun_of (st := sBtw) F23
  have b23 := W23.binds (ps := ["value", "least", "greatest"]) fun _ _ _ _ _ _ us hl => match us, hl with | [_, _, _], _ => rfl
  obtain ⟨fd19, F19⟩ := c.def_ 19 (d := d19) rfl
  have g19 : mg "law" = some (.ref (He.ga K "law")) := He.glo_ok X GN (c.fact 19 (f := .glo "law") rfl)
  have W19 := fun_of (st := sLaw) F19
  obtain ⟨fI, FI⟩ := c.def_ 20 (d := d20) rfl
  obtain ⟨fLm, FLm⟩ := c.def_ 21 (d := d21) rfl
  obtain ⟨fB, FB⟩ := c.def_ 22 (d := d22) rfl
  have e := hfa.symm.trans g19
  cases e
  have dn : Dn mg := ⟨He.free_ok X GN (c.fact 25 (f := .free "max") rfl), He.free_ok X GN (c.fact 26 (f := .free "min") rfl), He.free_ok X GN (c.fact 27 (f := .free "int") rfl), He.free_ok X GN (c.fact 28 (f := .free "range") rfl), He.free_ok X GN (c.fact 29 (f := .free "len") rfl)⟩
  have sg : ∃ (d : Addr) (es : Array DictEntry) (n : Nat), mg "SIGN_STANDS" = some (.ref d) ∧ KDict K w d es n ∧ ∀ z ∈ signL ++ (["small"] : List Str), ∃ r, PySem.W.nsIn K d z = some r ∧ r.isSome = signL.contains z := by
    obtain ⟨es, n, D⟩ := ct.tab 0 (t := (fun K => He.ga K "SIGN_STANDS", signL)) rfl
    refine ⟨_, es, n, He.glo_ok X GN (c.fact 24 (f := .glo "SIGN_STANDS") rfl), D, fun z hz => ?_⟩
    have q := List.all_eq_true.mp c9 z hz
    cases e : PySem.W.nsIn K (He.ga K "SIGN_STANDS") z with
    | none => rw [e] at q; cases q
    | some r => rw [e] at q; exact ⟨r, rfl, eq_of_beq q⟩
  have pk : Pk mg K w := {
    isi := He.free_ok X GN (c.fact 30 (f := .free "isinstance") rfl)
    len := He.free_ok X GN (c.fact 29 (f := .free "len") rfl)
    all := He.free_ok X GN (c.fact 31 (f := .free "all") rfl)
    set := He.free_ok X GN (c.fact 32 (f := .free "set") rfl)
    str := He.free_ok X GN (c.fact 33 (f := .free "str") rfl)
    list := He.free_ok X GN (c.fact 34 (f := .free "list") rfl)
    tup := He.free_ok X GN (c.fact 35 (f := .free "tuple") rfl)
    dict := He.free_ok X GN (c.fact 36 (f := .free "dict") rfl)
    int := He.free_ok X GN (c.fact 27 (f := .free "int") rfl)
    bool := He.free_ok X GN (c.fact 37 (f := .free "bool") rfl)
    sorted := He.free_ok X GN (c.fact 38 (f := .free "sorted") rfl)
    gL := by obtain ⟨t, e⟩ := He.str_ok X GN (c.fact 39 (f := .str "LETTERS" letters) rfl); exact ⟨_, e, ⟨t, rfl⟩⟩
    gW := (by obtain ⟨t, e⟩ := He.int_ok X GN (c.fact 40 (f := .int "LONGEST_WORD" 8) rfl); exact ⟨_, e, ⟨t, rfl⟩⟩)
    gK := (by obtain ⟨t, e⟩ := He.int_ok X GN (c.fact 41 (f := .int "MOST_KINDS" 5) rfl); exact ⟨_, e, ⟨t, rfl⟩⟩)
    gM := (by obtain ⟨t, e⟩ := He.int_ok X GN (c.fact 42 (f := .int "MOST_MEASURES" 3) rfl); exact ⟨_, e, ⟨t, rfl⟩⟩)
    gY := (by obtain ⟨t, e⟩ := He.int_ok X GN (c.fact 43 (f := .int "MOST_WAYS" 12) rfl); exact ⟨_, e, ⟨t, rfl⟩⟩)
    gG := (by obtain ⟨t, e⟩ := He.int_ok X GN (c.fact 44 (f := .int "GREATEST_LIMIT" 9) rfl); exact ⟨_, e, ⟨t, rfl⟩⟩)
    gS := sg }
  refine ⟨fd19, fun s v => ?_, fun base _ _ => ?_⟩
  · obtain ⟨oc, od, kV, doc, pm, an, cdv, ct, osl, rfl, lk, hcd⟩ := W19.ex
    exact .of_eq rfl
  · have df : Df K mg _ _ _ _ _ _ _ _ _ _ _ _ _ _ _ _ := ⟨W3, g3, b3, W4, g4, b4, W6, g6, b6, W7, g7, b7, W0, g0, b0, W2, g2, b2, W1, g1, b1, ⟨_, _, W23, g23, b23⟩, W5, g5, b5⟩
    have ru : Ru P w K mg base (He.ga K "Rule") (He.ga K "BadRule") (He.ma K (He.ga K "BadRule") "__init__") := ⟨He.cls_ok (c.fact 45 (f := .cls "Rule") rfl), He.noat_ok (c.fact 46 (f := .noat "Rule" "_kinds") rfl), He.noat_ok (c.fact 47 (f := .noat "Rule" "_measures") rfl), He.noat_ok (c.fact 48 (f := .noat "Rule" "_ways") rfl), He.noat_ok (c.fact 49 (f := .noat "Rule" "_deep") rfl), He.noat_ok (c.fact 50 (f := .noat "Rule" "_tall") rfl), He.noat_ok (c.fact 51 (f := .noat "Rule" "_free") rfl), xiB (fun_of (st := iB) FB) (He.glo_ok X GN (c.fact 21 (f := .glo "BadRule") rfl)) (xcB_ok c4) (noB_ok c1) (He.eqO_ok c2) (of_decide_eq_true c3), of_decide_eq_true c5⟩
    have gi := ok_init (P := P) (base := base) FI pk ru W8 g8 b8 df
    have bI : KBn K fI pInit 4 ["deep", "tall", "free"] (fun us ws => us ++ ws) (fun vs zs => vs ++ zs) := G.kbn_all fun s us ws h1 h2 => by
      obtain ⟨oc, od, dV, kV, doc, pm, an, cdv, ct, osl, rfl, lk, hcd, hD, hK⟩ := FI.ex
      rcases hD with ⟨_, rfl⟩ | ⟨e, _⟩
      · match us, ws, h1, h2 with
        | [_, _, _, _], [_, _, _], _, _ => exact .of_eq rfl
      · exact absurd rfl e
    have bL : KBn K fLm ["self", "deep", "tall", "free"] 1 ["deep", "tall", "free"] (fun us ws => us ++ ws) (fun vs zs => vs ++ zs) := G.kbn_all fun s us ws h1 h2 => by
      obtain ⟨oc, od, dV, kV, doc, pm, an, cdv, ct, osl, rfl, lk, hcd, hD, hK⟩ := FLm.ex
      rcases hD with ⟨_, rfl⟩ | ⟨e, _⟩
      · match us, ws, h1, h2 with
        | [_], [_, _, _], _, _ => exact .of_eq rfl
      · exact absurd rfl e
    have rc : Rc P w K mg base (He.ga K "Rule") (He.ga K "BadRule") (He.ga K "BadArgument") (He.ga K "PackError") (He.ma K (He.ga K "BadRule") "__init__") (He.ma K (He.ga K "Rule") "__init__") (He.ma K (He.ga K "Rule") "limited") fI fLm := {
      ru := ru
      gC := He.glo_ok X GN (c.fact 20 (f := .glo "Rule") rfl)
      mC := He.mkr_ok (c.fact 52 (f := .mkr "Rule") rfl)
      bI := bI
      gI := gi
      gB := He.glo_ok X GN (c.fact 21 (f := .glo "BadRule") rfl)
      gA := He.glo_ok X GN (c.fact 22 (f := .glo "BadArgument") rfl)
      gP := He.glo_ok X GN (c.fact 23 (f := .glo "PackError") rfl)
      kcl := kclB_ok c8
      kB := of_decide_eq_true c6
      kA := of_decide_eq_true c7
      ex := He.exm_ok (c.fact 54 (f := .exm "BadRule" "PackError" true) rfl)
      np := noB_ok c1
      mL := He.meth_ok (c.fact 53 (f := .meth "Rule" "limited") rfl)
      bL := bL }
    exact ok_law W19 ⟨dn, pk, ⟨_, _, g13, W13.kp, b13, ok_open W13 W10 g10 b10 W9 g9 b9 dn⟩, ⟨_, _, g12, W12.kp, b12, ok_pick W12 W11 g11 b11 dn⟩,
      ⟨_, _, g14, W14.kp, b14, ok_rule W14 pk dn W11 g11 b11 W12 g12 b12⟩, ⟨_, _, g18, W18.kp, b18, ok_bends W18 pk⟩, ⟨_, _, g15, W15.kp, b15, ok_made W15 pk rc⟩,
      ⟨_, _, g16, W16.kp, b16, ok_asked W16 pk rc⟩, ⟨_, _, g17, W17.kp, b17, ok_lim W17 pk rc FLm⟩⟩
end K02
open PySem PySem.W PySem.Calls PyProof.Rows
theorem PySem.Challenge.cw_packedbases_k02_no_rules_holds : PySem.Challenge.rw_packedbases_k02_no_rules.Holds := by
  w_on; o_law
  refine HandSHeadRun.head_any (r := OpenLaw.row PySem.Challenge.rw_packedbases_k02_no_rules) (q := view (OpenLaw.row PySem.Challenge.rw_packedbases_k02_no_rules).prog [38]) (H := K02.hk) (ob := K02.ob) (M := 8000) (loose := K02.loose)
    (d := HandSHeadRun.topDef (OpenLaw.row PySem.Challenge.rw_packedbases_k02_no_rules).prog 38) (kwd := []) K02.ob_eq
    (by kernel_rfl) (fun s => by kernel_rfl) K02.run (by kernel_rfl) (by kernel_rfl) (by kernel_rfl) (by rfl) (by first | assumption | decide +kernel) (by decide +kernel) ⟨rfl, rfl, rfl, rfl, rfl, by decide +kernel⟩ ?hw ?hc
  case hw => w_witness2
  case hc =>
    refine G.walk_of (l := PySem.Challenge.rw_packedbases_k02_no_rules) (n := 63) (k := 9) (x := "script") (CX := L2.CX0) rfl (by decide) (by kernel_rfl) ⟨rfl, by decide, by decide⟩ ?F (fun _ _ _ _ z => z)
    intro w mg fa h Y GN hmg0
    obtain ⟨K, KX, cl, c⟩ := Y
    have hmg : mg ("law" : PySem.Str) = some (.ref fa) := by
      have e : (HandSHeadRun.topDef (OpenLaw.row PySem.Challenge.rw_packedbases_k02_no_rules).prog 38).name = ("law" : PySem.Str) := by kernel_rfl
      rw [← e]
      exact hmg0
    obtain ⟨fd, hb, hF⟩ := K02.facts (P := (PySem.Challenge.rw_packedbases_k02_no_rules).prog) (w := w) KX GN hmg cl c
    exact ⟨K, fd, K02.spLaw K, KX, hb, fun H a ns hl _ hS => ⟨a, ns, rfl, hS, hl, fun _ => rfl⟩, hF⟩
