import PyProof.Rows.All
import Wide.All
import OpenK.AllK
import Wide.FinOn
import PyProof.TypeEq
import PyProof.TypeOfCall
import HandS.ForMost
import HandS.ForExc
import HandS.Lambda
import HandS.Codes
import HandS.Deep
import HandS.IsInst
import HandS.ExcIs
import HandS.ExcValue
import HandS.More
import HandS.Defaults
import HandS.Walk
import HandS.HeadHook4
import HandS.HeadWalk
import HandS.Head2
import PyProof.Rows.SeqMore
import KE.KExcSuper
import KE.KSuper
import HandS.ExcSuper
import HandS.ExcInit
import HandS.ExcField
import PyProof.InstNe
import HandS.Conv
import HandS.Finally
import HandS.RaiseFrom
import HandS.SuiteRaise
import HandS.Text
import HandS.NoneIn
import HandS.FStr
import PySem.Challenge.RW_onewaytown_k10_towns_written
set_option Elab.async false
set_option linter.all false
set_option maxRecDepth 100000
set_option maxHeartbeats 4000000
/-! Rules of our own, law-independent: products of script numbers, type(x) == int, an exception kept behind its except clause. -/
namespace Own
open PySem PySem.Spec PyProof.Rows L2
/-! ### products of numbers of a million bits and more -/
def CMulG (i j : Int) : Prop := i.natAbs.log2 + j.natAbs.log2 < 100000000
theorem CMulG.fits {i j : Int} (h : CMulG i j) : IntMulOk i j := by
  have bits : ∀ x : Int, Builtin.Int.intBits x ≤ x.natAbs.log2 + 1 := by
    intro x
    unfold Builtin.Int.intBits
    split <;> omega
  have hi := bits i
  have hj := bits j
  have hs : i.natAbs.log2 + j.natAbs.log2 < 100000000 := h
  have line : bitsLine = 134217728 := by decide
  unfold IntMulOk
  intro big
  rw [Bool.and_eq_true] at big
  have over := big.2
  unfold Builtin.Int.intTooBig at over
  have over2 := of_decide_eq_true over
  rw [line] at over2
  omega
section
variable {X : Cx}
theorem op_mulG : OpR X (binaryOp .Mult) (rI CMulG fun i j => .int (i * j)) :=
  opI fun _ _ _ _ _ _ _ hc q => mul_int q hc.fits
/-! ### type(x), and types compared -/
/-- the name of a thing's kind, where it is one of the kinds that a script's program hands around -/
def tyName : V → Hp → Option String
  | .non, _ => "NoneType"
  | .bl _, _ => "bool"
  | .int _, _ => "int"
  | .str _, _ => "str"
  | .ref p, H => match H p with
    | some (.lst _) | some (.frz _ (.lst _)) => "list"
    | some (.tup _) => "tuple"
    | some (.dK _) => "dict"
    | _ => none
  | _, _ => none
/-- what the name says, in the library's own words of kinds -/
theorem tyName_is (K : PySem.W.Frag) : ∀ {x : V} {H : Hp} {n : String}, tyName x H = some n → TyB K H x n
  | .non, _, _, rfl => .non
  | .bl b, _, _, rfl => .bl b
  | .int i, _, _, rfl => .int i
  | .str z, _, _, rfl => .str z
  | .ref p, H, n, e => by
    unfold tyName at e
    dsimp only at e
    split at e <;> cases e
    · exact .lst (.of ‹_›)
    · exact .lst (.inl (.inr ⟨_, ‹_›⟩))
    · exact .tup (.of ‹_›)
    · exact .dK ‹_›
theorem call_tyOf : CallR X (.type "type") (fun xs H Q => ∃ x n, xs = [x] ∧ tyName x H = some n ∧ Q (.ty n) H) :=
  fun pins s σ H xs us Q I r ⟨x, n, one, e, q⟩ => call_type1 pins s σ H xs us Q I r ⟨x, n, one, tyName_is X.K e, q⟩
/-- the kind n is itself of the kind of kinds -/
def metaOk (n : String) : Prop := ∀ s' : Shared, s'.TypeIs (.type n) "type"
theorem meta_all : metaOk "NoneType" ∧ metaOk "bool" ∧ metaOk "int" ∧ metaOk "str" ∧ metaOk "list" ∧ metaOk "tuple" ∧ metaOk "dict" :=
  open PySem.TypeEq in ⟨meta_NoneType, meta_bool, meta_int, meta_str, meta_list, meta_tuple, meta_dict⟩
theorem tyName_meta {x : V} {H : Hp} {n : String} (e : tyName x H = some n) : metaOk n := by
  obtain ⟨m1, m2, m3, m4, m5, m6, m7⟩ := meta_all
  unfold tyName at e
  (split at e <;> try split at e) <;> cases e <;> assumption
theorem op_eqTy : OpR X (compareOp .Eq) (fun x y H Q => ∃ m n, x = .ty m ∧ y = .ty n ∧ metaOk m ∧ metaOk n ∧ Q (.bl (decide (m = n))) H) := by
  rintro pins s σ H _ _ a b Q I ra rb ⟨m, n, rfl, rfl, hm, hn, q⟩
  obtain rfl : a = .type m := ra
  obtain rfl : b = .type n := rb
  have same := ty_beq m n
  cases e : (Value.type m == Value.type n) <;> rw [e] at same <;> rw [← same] at q
  · exact PySem.TypeEq.eq_type_other hm hn e (fin_bl I q rfl)
  · cases of_decide_eq_true same.symm
    exact PySem.TypeEq.eq_type_same hm (fin_bl I q rfl)
end
end Own

set_option Elab.async false
set_option linter.all false
set_option maxRecDepth 100000
set_option maxHeartbeats 4000000
/-! An exception that stays known behind the except clause that caught it: caught = e. -/
namespace Own
open PySem PySem.Spec PyProof.Rows L2
/-! ### a record, told in one -/
/-- at a stands the record o with the fields vs -/
structure RecAt (h : Heap) (a : Addr) (o : Obj) (vs : Array Value) : Prop where
  at_ : h.get? a = some o
  fl : o.data = .fields vs
/-- at a stands an exception object of the class cls, its own dict d -/
def ExK (cls : Value) (d : Option Addr) (a : Addr) : HO := .ext fun h => ∃ (ob : Obj) (vals : Array Value), h.get? a = some ob ∧ Zc cls d ob ∧ ob.data = .fields vals
section
variable {X : Cx} {pins : List (Addr × Obj)} {σ : L2.St} {H : Hp} {s : Shared}
theorem exK_there {P : Program} {w : World} {h : Heap} {cls : Value} {d : Option Addr} {a : Addr} (hok : HOk P w H h) (e : H a = some (ExK cls d a)) :
    ∃ (ob : Obj) (vals : Array Value), h.get? a = some ob ∧ Zc cls d ob ∧ ob.data = .fields vals :=
  (show ObjOk P w H h a (.ext fun h => ∃ (ob : Obj) (vals : Array Value), h.get? a = some ob ∧ Zc cls d ob ∧ ob.data = .fields vals) from hok a _ e).1
/-- a is none of what the def around leans on -/
structure Fresh (X : Cx) (pins : List (Addr × Obj)) (a : Addr) : Prop where
  entry : ∀ b o, X.s_0.heap.get? b = some o → b ∉ X.ex → b ≠ a
  frame : X.env.locals ≠ a
  cells : ∀ x c, X.env.cells.lookup x = some c → c ≠ a
  pins : ∀ p ∈ X.pn ++ pins, p.1 ≠ a
/-- so is each place that is not there yet -/
theorem Fresh.of {a : Addr} (I : Inv X pins σ H s) (absent : s.heap.get? a = none) : Fresh X pins a := by
  have not : ∀ {b o}, s.heap.get? b = some o → b ≠ a := fun e z => by cases absent.symm.trans ((congrArg s.heap.get? z).symm.trans e)
  refine ⟨fun b o e out => (I.base.there b o e out).elim fun _ q => not q, ?_, fun x c e => ?_, fun p hp => not (I.pin p hp).1⟩
  · obtain ⟨_, ⟨_, _, _, q, _⟩, _⟩ := I.loc
    exact not q
  · obtain ⟨_, _, q, _⟩ := I.cell x c e
    exact not q
/-- what stands at such a place, untracked so far, is tracked from now on -/
theorem track {a : Addr} {u : HO} (I : Inv X pins σ H s) (un : H a = none) (f : Fresh X pins a) (is : ObjOk X.prog X.w (upd H a u) s.heap a u) : Inv X pins σ (upd H a u) s := by
  have still : ∀ {b o}, H b = some o → upd H a u b = some o := fun e => (upd_ne (ne_of_none e un)).trans e
  have off : ∀ {b}, b ≠ a → H b = none → upd H a u b = none := fun n e => (upd_ne n).trans e
  refine ⟨I.ok, I.os, I.bare, ⟨I.base.keep, I.base.slot, fun b o e n out => off (f.entry b o e out) (I.base.free b o e n out), I.base.there, fun b xs e => still (I.base.tups b xs e), fun b o v e => still (I.base.frzs b o v e), fun b ps e => ?_⟩,
    I.loc, I.cell, off f.frame I.free, fun x c e => off (f.cells x c e) (I.freeC x c e), fun p hp => ?_, fun b o e => ?_, I.len⟩
  · obtain ⟨more, z⟩ := I.base.tbls b ps e
    exact ⟨more, still z⟩
  · obtain ⟨p1, p2, rest⟩ := I.pin p hp
    exact ⟨p1, off (f.pins p hp) p2, rest⟩
  · rcases Decidable.em (b = a) with rfl | n
    · cases upd_same.symm.trans e
      exact is
    · rw [upd_ne n] at e
      exact (I.hok b o e).stay (fun _ _ _ q => q) (fun _ q => still q) fun _ _ q => still q
/-- what such a clause wishes of an exception of its body: slot i the clause's name, slot j the keeper -/
def wKept (K : PySem.W.Frag) (c : Value) (fin : L2.St → Addr → L2.St) (out : WX) (D : Ends) : WX := fun cls d σ H =>
  ∃ hit, PySem.W.exmOne K cls c = some hit ∧ (hit = true → ∀ a, H a = none → D.nx (fin σ a) (upd H a (ExK cls d a))) ∧ (hit = false → out cls d σ H)
/-- the slots behind the clause, or less of them -/
def Less (n i j : Nat) (fin : L2.St → Addr → L2.St) : Prop := ∀ (σ : L2.St) (a : Addr), σ.length = n → (fin σ a).length = n ∧ ∀ (k : Nat) (v : V), (fin σ a)[k]? = some (some v) → (((σ.set i (some (.ref a))).set j (some (.ref a))).set i none)[k]? = some (some v)
def allOf (i j : Nat) : L2.St → Addr → L2.St := fun σ a => ((σ.set i (some (.ref a))).set j (some (.ref a))).set i none
theorem allOf_less {n i j : Nat} : Less n i j (allOf i j) := fun σ a h => ⟨by unfold allOf; simpa using h, fun _ _ e => e⟩
/-- the keeper alone -/
def oneOf (n j : Nat) : L2.St → Addr → L2.St := fun _ a => (List.replicate n none).set j (some (.ref a))
theorem oneOf_less {n i j : Nat} (hij : i ≠ j) : Less n i j (oneOf n j) := fun σ a h => by
  refine ⟨by unfold oneOf; simp, fun k v e => ?_⟩
  unfold oneOf at e
  by_cases hk : k = j
  · subst hk
    have lt : k < n := by
      have z := (List.getElem?_eq_some_iff.mp e).1
      simpa using z
    rw [List.getElem?_set_self (by simpa using lt)] at e
    rw [List.getElem?_set_ne hij, List.getElem?_set_self (by simpa [h] using lt)]
    exact e
  · rw [List.getElem?_set_ne (Ne.symm hk)] at e
    rw [List.getElem?_replicate] at e
    split at e <;> simp at e
end
section
variable {prog : Program} {w : World} {h : Heap} {a : Addr} {o : Obj} {vs : Array Value}
theorem RecAt.ty (r : RecAt h a o vs) : PySem.W.Looks (model prog w) h (typeOf (.ref a)) o.cls := fun _ _ _ _ keep q => wpAny_typeOf_ref (keep a o r.at_) q
end
/-! ### records off the frames -/
theorem RecAt.off {B h : Heap} {l : List Env} {a : Addr} {o : Obj} {vs : Array Value} (r : RecAt h a o vs) (ff : h.FunFrames B l) : a ∉ frs l := fun hm => by
  obtain ⟨_, o2, e, no⟩ := ff.mem hm
  cases r.at_.symm.trans e
  exact no vs r.fl
/-- what a pin says of p -/
def PinFacts (X : Cx) (H : Hp) (s : Shared) (p : Addr × Obj) : Prop := s.heap.get? p.1 = some p.2 ∧ H p.1 = none ∧ p.1 ≠ X.env.locals ∧ p.1 ∉ X.fs ∧ ∀ v, p.2.data ≠ .cell v
theorem RecAt.pin {X : Cx} {H : Hp} {s : Shared} {a : Addr} {o : Obj} {vs : Array Value} (r : RecAt s.heap a o vs) (un : H a = none) (hf : X.env.frame = some X.env.locals) (off : a ∉ frs (X.env :: X.outer)) : PinFacts X H s (a, o) := by
  refine ⟨r.at_, un, fun z => off ?_, fun hm => off ?_, fun v z => ?_⟩
  · exact List.mem_filterMap.mpr ⟨X.env, List.mem_cons_self, by rw [hf, ← z]⟩
  · obtain ⟨en, he, q⟩ := List.mem_filterMap.mp hm
    exact List.mem_filterMap.mpr ⟨en, List.mem_cons_of_mem _ he, q⟩
  · exact nomatch r.fl.symm.trans z
/-! ### a try's body, as the def around sees it -/
section
variable {X : Cx} {pins pn : List (Addr × Obj)} {xe : Value → Shared → Prop} {D : Ends} {Wout : WX}
theorem body_out (ok : X.Ok) : ∀ {f : Flow} {s : Shared}, SP (X.tr (X.pn ++ pins) xe) pn D f s → SP X pins D f s
  | .next, _, ⟨_, _, J, q⟩ => ⟨_, _, Inv.ofTry J ok, q⟩
  | .brk, _, ⟨_, _, J, q⟩ => ⟨_, _, Inv.ofTry J ok, q⟩
  | .cont, _, ⟨_, _, J, q⟩ => ⟨_, _, Inv.ofTry J ok, q⟩
  | .ret _, _, ⟨_, _, _, J, rel, q⟩ => ⟨_, _, _, Inv.ofTry J ok, rel, q⟩
/-- the name of a clause's class, read where the exception a is handled -/
theorem clause_name {x : Str} {c : Value} {np : Pos} {a : Addr} {σ : L2.St} {H : Hp} {s : Shared} {Q E : Value → Shared → Prop} (is : Names X x c) (S : Inv (X.suite a pn) pins σ H s) (q : Q c s) :
    wpAny (model X.prog X.w) (X.A.mark (some (.ref a))) (eval (.Name x np) X.env) Q E s := by
  rcases is with ⟨glob, dbg, own | ⟨hidden, built, noName⟩⟩
  · exact ld_glob (X := X.suite a pn) S glob own q dbg
  · exact ld_blt (X := X.suite a pn) S glob hidden built q noName dbg
/-- what no clause names flies on -/
theorem flies_by {B : Heap} {sI s' : Shared} {ps pins : List (Addr × Obj)} {σ : L2.St} {H : Hp} {a : Addr} {cls : Value} {d : Option Addr} {D : Ends} (hs : X.stack = X.env :: X.outer) (hf : X.env.frame = some X.env.locals) (tk : Takes X Wout) (J : Inv X ps σ H sI)
    (ground : ∀ b u, sI.heap.get? b = some u → b ∉ frs X.stack → B.get? b = some u) (upto : sI.heap.UpToSlots s'.heap) (fl : HandSPX.FlyingZ B (X.env :: X.outer) a (Zc cls d) s'.heap) (un : H a = none) (os : s'.os = sI.os) (bare : AllBare s'.gens) (wish : Wout cls d σ H) :
    wpAny (model X.prog X.w) X.A (handleBy (.ref a) X.env []) (SP X pins D) X.xe s' := by
  obtain ⟨_, _, _, o, vs, T, oT, ts, at_, _, rec, traced, _⟩ := id fl
  have end_ : wpAny (model X.prog X.w) X.A (setFlight (.ref a) X.env.frame) (fun _ s2 => wpAny (model X.prog X.w) X.A (throw (.ref a) : Sem Flow) (SP X pins D) X.xe s2) X.xe s' := by
    rw [hf]
    refine HandSPX.setFlight_upZ fl fun h2 held up2 => wpAny_throw (tk _ _ ⟨a, B, sI, ps, σ, H, cls, d, rfl, J, ground, upto.trans up2, .inr (.inr ?_), un, os, bare, wish⟩)
    rw [hs]
    exact held
  refine wpAny_handleBy_nil ?_
  unfold PySem.passOn
  refine wpAny_bind (wpAny_field at_ rec traced ?_)
  rw [if_neg (fun z => by simp at z)]
  first
    | exact wpAny_bind (wpAny_pure (wpAny_bind end_))
    | exact wpAny_bind end_
end
/-- what flies in from the body was not there ahead of it -/
theorem first_seen {X : Cx} {pins : List (Addr × Obj)} {σ : L2.St} {H : Hp} {s : Shared} {B : Heap} {a : Addr} (J : Inv X pins σ H s) (hx : X.ex = []) (ground : ∀ b o, s.heap.get? b = some o → b ∉ frs X.stack → B.get? b = some o) (anew : B.get? a = none) (off : a ∉ frs X.stack) :
    X.s_0.heap.get? a = none ∧ ∀ p ∈ X.pn ++ pins, p.1 ≠ a := by
  have absent : ∀ o, s.heap.get? a ≠ some o := fun o q => nomatch anew.symm.trans (ground a o q off)
  refine ⟨?_, fun p hp z => absent p.2 (z ▸ (J.pin p hp).1)⟩
  cases q : X.s_0.heap.get? a with
  | none => rfl
  | some o =>
    obtain ⟨_, z⟩ := J.base.there a o q (by rw [hx]; exact List.not_mem_nil)
    exact absurd z (absent _)
/-! ### caught = e -/
section
variable {X : Cx} {x n y : Str} {c : Value} {i j : Nat} {body : List Stmt} {np py pn2 pos pos' pos2 : Pos} {tb : WX → TS} {out : WX} {fin : L2.St → Addr → L2.St}
/-- the suite y = n, the exception in slot i: in slot j too, then the clause's name is gone, and the object is known -/
theorem keep_it {a : Addr} {o : Obj} {vs : Array Value} {cls : Value} {d : Option Addr} {pins : List (Addr × Obj)} {σ : L2.St} {H : Hp} {s : Shared} {Q : Flow → Shared → Prop} {E : Value → Shared → Prop} (ok : X.Ok) (hN : X.N.Nodup) (hi : X.N[i]? = some n) (hln : X.env.kindOf n = some .local) (hj : X.N[j]? = some y) (hlj : X.env.kindOf y = some .local)
    (hd1 : (n == ("__debug__" : Str)) = false) (hd2 : (n == ("__classdict__" : Str)) = false) (S : Inv (X.suite a ((a, o) :: (X.pn ++ pins))) [] (σ.set i (some (.ref a))) H s) (kind : Zc cls d o) (rec : o.data = .fields vs) (un : H a = none)
    (new : X.s_0.heap.get? a = none) (nL : a ≠ X.env.locals) (npin : ∀ p ∈ X.pn ++ pins, p.1 ≠ a) (there : i < σ.length)
    (go : ∀ s', Inv X pins ((σ.set i (some (.ref a))).set j (some (.ref a))) (upd H a (ExK cls d a)) s' → Q .next s') :
    wpAny (model X.prog X.w) (X.A.mark (some (.ref a))) (execs [.Assign [.Name y py] (.Name n pn2) pos2] X.env) Q E s := by
  have suite : PSs (X.suite a ((a, o) :: (X.pn ++ pins))) [.Assign [.Name y py] (.Name n pn2) pos2] (tAsg (tVar i) (gName j)) :=
    pss_one (ps_asg (pe_var hi (.inl hln) hd1 hd2) (pg_name hN hj (.inl hlj) (.inr hlj)))
  have read : (σ.set i (some (V.ref a)))[i]? = some (some (.ref a)) := List.getElem?_set_self there
  refine wpAny_mono (suite.run [] s _ H { nx := fun σ' H' => σ' = (σ.set i (some (V.ref a))).set j (some (V.ref a)) ∧ H' = H, rt := fun _ _ => False } S ⟨.ref a, read, rfl, rfl⟩) (fun f s' told => ?_) fun _ _ z => False.elim z
  match f, told with
  | .next, ⟨_, _, S', e1, e2⟩ =>
    subst e1 e2
    have at_ := (S'.pin (a, o) (List.mem_append_left _ (List.mem_cons_self ..))).1
    have J := S'.unsuite ok
    have ncell : ∀ x c, X.env.cells.lookup x = some c → c ≠ a := by
      rintro x c e rfl
      obtain ⟨_, _, is, cel⟩ := J.cell x c e
      cases at_.symm.trans is
      exact nomatch rec.symm.trans cel
    exact go s' (track J un ⟨fun b _ e _ z => (by cases new.symm.trans ((congrArg X.s_0.heap.get? z).symm.trans e)), nL.symm, ncell, npin⟩ ⟨⟨o, vs, at_, kind, rec⟩, ⟨o, at_⟩, fun _ _ ⟨o1, v1, q1, q2⟩ k => ⟨o1, v1, k o1 q1, q2⟩⟩)
  | .brk, ⟨_, _, _, z⟩ => exact z.elim
  | .cont, ⟨_, _, _, z⟩ => exact z.elim
  | .ret _, ⟨_, _, _, _, _, z⟩ => exact z.elim
/-- try: body / except x as n: y = n -/
theorem ps_try_kept (hs : X.stack = X.env :: X.outer) (hf : X.env.frame = some X.env.locals) (hN : X.N.Nodup) (hi : X.N[i]? = some n) (hln : X.env.kindOf n = some .local) (hj : X.N[j]? = some y) (hlj : X.env.kindOf y = some .local) (hc : Names X x c) (hx : X.ex = []) (less : Less X.N.length i j fin) (tk : Takes X out)
    (hb : ∀ (W : WX) (pn : List (Addr × Obj)) (xe : Value → Shared → Prop), Takes (X.tr pn xe) W → PassesOwn (model X.prog X.w) X.A X.env xe → PSs (X.tr pn xe) body (tb W))
    (hd1 : (n == ("__debug__" : Str)) = false := by decide) (hd2 : (n == ("__classdict__" : Str)) = false := by decide) :
    PS X (.Try body [.ExceptHandler (some (.Name x np)) (some n) [.Assign [.Name y py] (.Name n pn2) pos2] pos'] [] [] pos) (fun D σ H => tb (wKept X.K c fin out D) D σ H) := by
  refine ⟨fun pins s σ H D I wish => wpAny_Try_except ?_⟩
  have ok := I.ok
  have run := hb (wKept X.K c fin out D) (X.pn ++ pins) (fun e s1 => wpAny (model X.prog X.w) X.A (noteFrame e X.env) (fun _ s2 => wpAny (model X.prog X.w) X.A (setFlight e none) (fun _ s3 =>
    wpAny (model X.prog X.w) X.A (handleBy e X.env [.ExceptHandler (some (.Name x np)) (some n) [.Assign [.Name y py] (.Name n pn2) pos2] pos']) (SP X pins D) X.xe s3) X.xe s2) X.xe s1) ?caught PassesOwn.looking
  case caught =>
    rintro _ s' ⟨a, B, sI, ps', σ', H', cls, d, rfl, J0, ground, upto, sky, un, os, bare, hit, names, yes, no⟩
    have J : Inv X pins σ' H' sI := Inv.ofTry J0 ok
    rw [show (X.tr (X.pn ++ pins) _).stack = X.env :: X.outer from hs] at sky
    refine Sky.land (s := s') Zc.steady (ok.frames.trans (congrArg some hs)) hf sky fun h3 fl3 up3 => ?_
    obtain ⟨o3, v3, at3, kind3, rec3⟩ := fl3.there
    have off := RecAt.off ⟨at3, rec3⟩ fl3.2.2.1
    obtain ⟨_, _, nL, nF, _⟩ := RecAt.pin (s := { s' with heap := h3 }) ⟨at3, rec3⟩ un hf off
    obtain ⟨new, npin⟩ := first_seen J hx ground fl3.2.1 (by rw [hs]; exact off)
    have S3 := (J.landed (s' := { s' with heap := h3 }) ground fl3.1 (upto.trans up3) os bare).suite at3 rec3 un nL nF
    have isOf := RecAt.ty (prog := X.prog) (w := X.w) (h := h3) ⟨at3, rec3⟩
    rw [kind3.1] at isOf
    refine wpAny_handleBy_cons (codeAny_handlers_test (clause_name hc S3 ((PySem.W.exm_one (M := model X.prog X.w) S3.kIn isOf names).here ?_))) (fun z => nomatch z)
    cases hit with
    | false => exact flies_by (s' := { s' with heap := h3 }) hs hf tk J ground (upto.trans up3) fl3 un os bare (no rfl)
    | true =>
      refine codeAny_handlers_suite_as (HandSPX.lands_againZ fl3 fun h4 fl4 up4 => ?_)
      obtain ⟨o4, v4, at4, kind4, rec4⟩ := fl4.there
      have S4 := (J.landed (s' := { s' with heap := h4 }) ground fl4.1 ((upto.trans up3).trans up4) os bare).suite at4 rec4 un nL nF
      have room : i < σ'.length := J.len ▸ (List.getElem?_eq_some_iff.mp hi).1
      refine store_ok (X := X.suite a ((a, o4) :: (X.pn ++ pins))) (v := .ref a) S4 hN hi (.inl hln) rfl (fun s5 S5 => ?_) (.inr hln)
      refine keep_it ok hN hi hln hj hlj hd1 hd2 S5 kind4 rec4 un new nL npin room fun s6 known => ?_
      obtain ⟨long, less'⟩ := less σ' a J.len
      exact gone_ok known hN hi hln fun s7 J7 => ⟨_, _, J7.weak (by rw [long, ← J.len, List.length_set, List.length_set, List.length_set]) less', yes rfl a un⟩
  refine wpAny_mono (run.run [] s σ H D (I.toTry _) wish) (fun f s1 told => ?_) fun _ _ z => z
  cases f with
  | next => exact wpAny_execs_nil (body_out ok told)
  | _ => exact body_out ok told
end
/-! ### isinstance of such an exception -/
section
variable {X : Cx}
/-- isinstance(e, C), e an exception without a dict of its own -/
def rIsK (K : PySem.W.Frag) : List V → Hp → VK → Prop := fun xs H Q => ∃ (a D : Addr) (c : V) (cv : Value) (b : Bool), xs = [.ref a, c] ∧ H a = some (ExK (.ref D) none a) ∧ ExcC K D ∧ (∀ u, RelV c u → u = cv) ∧ PySem.W.kitOne K (.ref D) cv = some b ∧ Q (.bl b) H
theorem ref_and {a : Addr} {c : V} : ∀ {us : List Value}, Vals [.ref a, c] us → ∃ u, us = [.ref a, u] ∧ RelV c u
  | _, .cons rfl (.cons rc .nil) => ⟨_, rfl, rc⟩
/-- one without a dict of its own, as an instance -/
theorem exK_bare {D a : Addr} {h : Heap} {P : Program} {w : World} (hok : HOk P w H h) (ea : H a = some (ExK (.ref D) none a)) : ∃ ob, PySem.W.InstAt h a ob D none := by
  obtain ⟨⟨_, _, _, _⟩, _, there, ⟨rfl, rfl, _⟩, rfl⟩ := exK_there hok ea
  exact ⟨_, there, rfl, rfl, trivial⟩
theorem call_isK : CallR X (.builtin "isinstance") (rIsK X.K) := by
  rintro pins s σ H _ us Q I r ⟨a, D, c, cv, b, rfl, ea, C, one, told, q⟩
  obtain ⟨u, rfl, ru⟩ := ref_and r
  obtain rfl := one u ru
  obtain ⟨ob, inst⟩ := exK_bare I.hok ea
  have kit := PySem.W.handS_kitx_exc (x := a) (ox := ob) C.hg C.hk C.hs C.hd C.ha C.hn C.ht C.hm
  exact PySem.W.kia_one kit I.kIn inst told (fun z => nomatch z) fun tk => fin_bl (I.tok tk) q rfl
/-- isinstance(x, C), x None or such an exception -/
theorem call_isBoth : CallR X (.builtin "isinstance") (fun xs H Q => rIsi X.K xs H Q ∨ rIsK X.K xs H Q) :=
  fun pins s σ H xs us Q I r h => h.elim (call_isi pins s σ H xs us Q I r) (call_isK pins s σ H xs us Q I r)
end
end Own

set_option Elab.async false
set_option linter.all false
set_option maxRecDepth 100000
set_option maxHeartbeats 4000000
/-! Callees as one thing: a def of the module, a method, a class that is made; those that may raise. -/
namespace Own
open PySem PySem.Spec PyProof.Rows L2
abbrev EF : XK := fun _ _ _ => False
theorem passF {P : Program} {w : World} {X : Cx} : Passes (L2.CX P w) X EF := fun _ _ _ _ _ _ _ c => by
  obtain ⟨_, _, _, _, _, _, _, _, _, _, _, _, z⟩ := c
  exact z.elim
section
variable (P : Program) (w : World) (K : PySem.W.Frag) (mg : Str → Option Value) (base : Heap)
structure CalX (k : Nat) (x : Str) (sp : Sp) : Prop where
  ex : ∃ (f : Addr) (fd : FuncData) (ps : List Str), FnOk P w K mg base (L2.CX P w) k f fd ps sp ∧ mg x = some (.ref f) ∧ PySem.W.keepIn K (.ref f) = true ∧ Binds K fd ps []
structure MetX (k : Nat) (C : Addr) (m : Str) (sp : Sp) : Prop where
  ex : ∃ (f : Addr) (fd : FuncData) (ps : List Str), Cls K C ∧ Meth K C m f ∧ FnOk P w K mg base (L2.CX P w) k f fd ps sp ∧ Binds K fd ps []
structure MakX (k : Nat) (x : Str) (C : Addr) (sp : Sp) : Prop where
  ex : ∃ (f : Addr) (fd : FuncData) (ps : List Str), Mk K C f ∧ FnOk P w K mg base (L2.CX P w) k f fd ps sp ∧ mg x = some (.ref C) ∧ Binds K fd ps []
end
/-- a def that lets nothing out, as one that may -/
theorem lift0 {P : Program} {w : World} {K : PySem.W.Frag} {mg : Str → Option Value} {base : Heap} {k : Nat} {f : Addr} {fd : FuncData} {ps : List Str} {sp : Sp} (F : FnOk P w K mg base CX0 k f fd ps sp) : FnOk P w K mg base (L2.CX P w) k f fd ps sp := by
  refine ⟨F.len, fun A outer s H args us vs Q E hr e0 hb hv h => codeAny_mono (F.run A outer s H args us vs Q E hr e0 hb hv h) fun r s' hq => ?_⟩
  cases r with
  | error e => exact (show False from hq).elim
  | ok fl =>
    cases fl with
    | ret u => exact hq
    | next => exact (show False from hq).elim
    | brk => exact (show False from hq).elim
    | cont => exact (show False from hq).elim
end Own

set_option Elab.async false
set_option linter.all false
set_option maxRecDepth 100000
set_option maxHeartbeats 4000000
/-! Lists of tuples in the heap; numbers as whole numbers of a range. -/
namespace Own
open PySem PySem.Spec PyProof.Rows L2
theorem tyName_int {x : V} {H : Hp} (e : tyName x H = some "int") : ∃ i, x = .int i := by
  have no : ∀ {n : String}, n ≠ "int" → some n = some "int" → False := fun h z => h (Option.some.inj z)
  cases x with
  | int i => exact ⟨i, rfl⟩
  | ref p =>
    simp only [tyName] at e
    split at e
    · exact (no (by decide) e).elim
    · exact (no (by decide) e).elim
    · exact (no (by decide) e).elim
    · exact (no (by decide) e).elim
    · cases e
  | byt y => cases e
  | flt y => cases e
  | ty y => cases e
  | _ => exact (no (by decide) e).elim
/-- is_whole's answer -/
def isW (x : V) (lo hi : Int) : Bool := match x with
  | .int i => decide (lo ≤ i) && decide (i ≤ hi)
  | _ => false
theorem isW_int {x : V} {lo hi : Int} (h : isW x lo hi = true) : ∃ i, x = .int i ∧ lo ≤ i ∧ i ≤ hi := by
  cases x with
  | int i =>
    have z : (decide (lo ≤ i) && decide (i ≤ hi)) = true := h
    rw [Bool.and_eq_true, decide_eq_true_eq, decide_eq_true_eq] at z
    exact ⟨i, rfl, z.1, z.2⟩
  | _ => cases h
theorem isW_nat {x : V} {n : Nat} (h : isW x 0 ((n : Int) - 1) = true) : ∃ i : Nat, x = .int (i : Int) ∧ i < n := by
  obtain ⟨i, rfl, h1, h2⟩ := isW_int h
  refine ⟨i.toNat, ?_, by omega⟩
  rw [Int.toNat_of_nonneg h1]
theorem isW_true {i lo hi : Int} (h1 : lo ≤ i) (h2 : i ≤ hi) : isW (.int i) lo hi = true := by
  show (decide (lo ≤ i) && decide (i ≤ hi)) = true
  rw [decide_eq_true h1, decide_eq_true h2]
  rfl
/-- the values are references to these tuples -/
abbrev Tups (H : Hp) : List V → List (List V) → Prop := Paired fun v xs => ∃ t, v = V.ref t ∧ H t = some (.tup xs)
theorem tups_ext {H H' : Hp} (k : ∀ t xs, H t = some (.tup xs) → H' t = some (.tup xs)) : ∀ {vs : List V} {xss : List (List V)}, Tups H vs xss → Tups H' vs xss
  | _, _, .nil => .nil
  | _, _, .cons ⟨t, e, h⟩ r => .cons ⟨t, e, k t _ h⟩ (tups_ext k r)
theorem tups_snoc {H : Hp} {t : Addr} {xs : List V} (h : H t = some (.tup xs)) : ∀ {vs : List V} {xss : List (List V)}, Tups H vs xss → Tups H (vs ++ [V.ref t]) (xss ++ [xs])
  | _, _, .nil => .cons ⟨t, rfl, h⟩ .nil
  | _, _, .cons r q => .cons r (tups_snoc h q)
theorem tups_get {H : Hp} : ∀ {vs : List V} {xss : List (List V)} {i : Nat} {v : V}, Tups H vs xss → vs[i]? = some v → ∃ t xs, v = V.ref t ∧ xss[i]? = some xs ∧ H t = some (.tup xs)
  | _, _, _, _, .nil, e => by simp at e
  | _, _, 0, _, .cons ⟨t, e, h⟩ _, q => by
    simp at q
    exact ⟨t, _, by rw [← q, e], rfl, h⟩
  | _, _, i + 1, v, .cons _ r, q => by
    obtain ⟨t, xs, h1, h2, h3⟩ := tups_get (i := i) (v := v) r (by simpa using q)
    exact ⟨t, xs, h1, by simpa using h2, h3⟩
theorem tups_len {H : Hp} {vs : List V} {xss : List (List V)} (h : Tups H vs xss) : vs.length = xss.length := Paired.length h
/-- at l a list of these tuples -/
def TL (H : Hp) (l : Addr) (xss : List (List V)) : Prop := ∃ vs, H l = some (.lst vs) ∧ Tups H vs xss
theorem same_new {H : Hp} {p : Addr} {o : HO} (n : H p = none) : Same H (upd H p o) := fun b u e => by
  rw [upd_ne (ne_of_none e n)]
  exact e
theorem upd_none {H : Hp} {p d : Addr} {o : HO} (h : upd H p o d = none) : d ≠ p ∧ H d = none := by
  by_cases e : d = p
  · rw [e, upd_same] at h
    cases h
  · rw [upd_ne e] at h
    exact ⟨e, h⟩
theorem take_snoc {α : Type} : ∀ {l : List α} {i : Nat} {x : α}, l[i]? = some x → l.take (i + 1) = l.take i ++ [x]
  | [], i, x, h => by simp at h
  | a :: l, 0, x, h => by
    simp at h
    simp [h]
  | a :: l, i + 1, x, h => by
    have ih := take_snoc (l := l) (i := i) (x := x) (by simpa using h)
    rw [List.take_succ_cons, ih]
    rfl
/-! ### lookups in written lists of attributes -/
theorem at_here {k : Str} {v : V} {r : List (Str × V)} : List.lookup k ((k, v) :: r) = some v := by
  simp [List.lookup]
theorem at_past {k g : Str} {v : V} {r : List (Str × V)} (h : (k == g) = false) : List.lookup k ((g, v) :: r) = List.lookup k r := by
  simp only [List.lookup, h]
theorem to_here {f : Str} {v x : V} {r : List (Str × V)} : putF f v ((f, x) :: r) = (f, v) :: r := if_pos rfl
theorem to_past {f g : Str} {v x : V} {r : List (Str × V)} (h : ¬ g = f) : putF f v ((g, x) :: r) = (g, x) :: putF f v r := if_neg h
/-! ### ifs over known tests -/
theorem if_yes {c : Bool} {A B : Prop} (hc : c = true) (h : A) : if c = true then A else B := by
  rw [if_pos hc]
  exact h
theorem if_no {c : Bool} {A B : Prop} (hc : c = false) (h : B) : if c = true then A else B := by
  rw [hc, if_neg Bool.false_ne_true]
  exact h
theorem if_both {c : Bool} {A B : Prop} (h1 : c = true → A) (h2 : c = false → B) : if c = true then A else B := by
  cases c with
  | true => exact if_yes rfl (h1 rfl)
  | false => exact if_no rfl (h2 rfl)
/-! ### a town -/
abbrev TRow := Nat × Nat × Nat
def rowV (r : TRow) : List V := [.int (r.1 : Int), .int (r.2.1 : Int), .int (r.2.2 : Int)]
def endV (r : TRow) : List V := [.int (r.2.1 : Int), .int (r.2.2 : Int)]
abbrev Ents (H : Hp) : List (Key × V) → List TRow → Prop := Paired fun kv r => kv.1 = Sum.inl (r.1 : Int) ∧ ∃ t, kv.2 = V.ref t ∧ H t = some (.tup (endV r))
theorem ents_ext {H H' : Hp} (k : ∀ t xs, H t = some (.tup xs) → H' t = some (.tup xs)) : ∀ {kvs : List (Key × V)} {rows : List TRow}, Ents H kvs rows → Ents H' kvs rows
  | _, _, .nil => .nil
  | _, _, .cons ⟨e, t, h1, h2⟩ r => .cons ⟨e, t, h1, k t _ h2⟩ (ents_ext k r)
theorem ents_snoc {H : Hp} {t : Addr} {r : TRow} (h : H t = some (.tup (endV r))) : ∀ {kvs : List (Key × V)} {rows : List TRow}, Ents H kvs rows → Ents H (kvs ++ [(Sum.inl (r.1 : Int), V.ref t)]) (rows ++ [r])
  | _, _, .nil => .cons ⟨rfl, t, rfl, h⟩ .nil
  | _, _, .cons z q => .cons z (ents_snoc h q)
theorem ents_get {H : Hp} : ∀ {kvs : List (Key × V)} {rows : List TRow} {i : Nat} {kv : Key × V}, Ents H kvs rows → kvs[i]? = some kv → ∃ r t, rows[i]? = some r ∧ kv = (Sum.inl (r.1 : Int), V.ref t) ∧ H t = some (.tup (endV r))
  | _, _, _, _, .nil, e => by simp at e
  | (k0, v0) :: _, _, 0, _, .cons ⟨e, t, h1, h2⟩ _, q => by
    simp at q
    refine ⟨_, t, rfl, ?_, h2⟩
    have e1 : k0 = _ := e
    have e2 : v0 = _ := h1
    rw [← q, e1, e2]
  | _, _, i + 1, v, .cons _ r, q => by
    obtain ⟨a, t, h1, h2, h3⟩ := ents_get (i := i) (kv := v) r (by simpa using q)
    exact ⟨a, t, by simpa using h1, h2, h3⟩
theorem ents_drop {H : Hp} (k : Nat) : ∀ {kvs : List (Key × V)} {rows : List TRow}, Ents H kvs rows → Ents H (dropK kvs (Sum.inl (k : Int))) (rows.filter fun r => decide (r.1 ≠ k))
  | _, _, .nil => .nil
  | kv :: kvs, r :: rows, .cons z q => by
    obtain ⟨e, t, h1, h2⟩ := id z
    have ih := ents_drop k q
    by_cases h : r.1 = k
    · rw [dropK_pos (by rw [e, h])]
      simp only [List.filter_cons, h]
      simpa using ih
    · have ne : ¬ kv.1 = Sum.inl (k : Int) := by
        rw [e]
        intro y
        exact h (Int.ofNat.inj (Sum.inl.inj y))
      rw [dropK_neg ne]
      simp only [List.filter_cons]
      rw [if_pos (by simpa using h)]
      exact .cons z ih
theorem ents_has {H : Hp} (k : Nat) : ∀ {kvs : List (Key × V)} {rows : List TRow}, Ents H kvs rows → (valV kvs (Sum.inl (k : Int) : Key)).isSome = decide (k ∈ rows.map (·.1))
  | _, _, .nil => by simp [valV_nil]
  | kv :: kvs, r :: rows, .cons z q => by
    obtain ⟨e, t, h1, h2⟩ := id z
    by_cases h : r.1 = k
    · rw [valV_pos (by rw [e, h])]
      simp [h]
    · have ne : ¬ kv.1 = Sum.inl (k : Int) := by
        rw [e]
        intro y
        exact h (Int.ofNat.inj (Sum.inl.inj y))
      rw [valV_neg ne, ents_has k q]
      have h' : ¬ k = r.1 := fun y => h y.symm
      simp [h']
theorem ents_len {H : Hp} {kvs : List (Key × V)} {rows : List TRow} (h : Ents H kvs rows) : kvs.length = rows.length := Paired.length h
def tF (m : Nat) (d : Addr) (n : Nat) : List (Str × V) := [("_many", .int (m : Int)), ("_ends", .ref d), ("_built", .int (n : Int))]
theorem tF_many (m : Nat) (d : Addr) (n : Nat) : (tF m d n).lookup ("_many" : Str) = some (.int (m : Int)) := at_here
theorem tF_ends (m : Nat) (d : Addr) (n : Nat) : (tF m d n).lookup ("_ends" : Str) = some (.ref d) := (at_past (by decide +kernel)).trans at_here
theorem tF_built (m : Nat) (d : Addr) (n : Nat) : (tF m d n).lookup ("_built" : Str) = some (.int (n : Int)) := (at_past (by decide +kernel)).trans ((at_past (by decide +kernel)).trans at_here)
theorem tF_no (m : Nat) (d : Addr) (n : Nat) {x : Str} (h1 : (x == ("_many" : Str)) = false) (h2 : (x == ("_ends" : Str)) = false) (h3 : (x == ("_built" : Str)) = false) : (tF m d n).lookup x = none :=
  (at_past h1).trans ((at_past h2).trans ((at_past h3).trans rfl))
theorem tF_put (m : Nat) (d : Addr) (n k : Nat) : putF "_built" (.int (k : Int)) (tF m d n) = tF m d k :=
  (to_past (by decide +kernel)).trans (congrArg _ ((to_past (by decide +kernel)).trans (congrArg _ to_here)))
theorem tF_new (m : Nat) (d : Addr) : putF "_built" (.int 0) (putF "_ends" (.ref d) (putF "_many" (.int (m : Int)) [])) = tF m d 0 := by
  have e : putF "_ends" (V.ref d) (putF "_many" (.int (m : Int)) []) = [(("_many" : Str), V.int (m : Int)), (("_ends" : Str), V.ref d)] := (to_past (by decide +kernel)).trans rfl
  rw [e]
  exact (to_past (by decide +kernel)).trans (congrArg _ ((to_past (by decide +kernel)).trans rfl))
/-- the streets of a town: numbers rise, below the next one; ends are two unlike places -/
structure RowsOk (m : Nat) (rows : List TRow) (n : Nat) : Prop where
  rise : rows.Pairwise fun a b => a.1 < b.1
  below : ∀ r ∈ rows, r.1 < n
  ends : ∀ r ∈ rows, r.2.1 < m ∧ r.2.2 < m ∧ r.2.1 ≠ r.2.2
  few : rows.length ≤ 60
theorem RowsOk.snoc {m n a b : Nat} {rows : List TRow} (R : RowsOk m rows n) (h : rows.length < 60) (ha : a < m) (hb : b < m) (ne : a ≠ b) : RowsOk m (rows ++ [(n, a, b)]) (n + 1) where
  rise := by
    rw [List.pairwise_append]
    refine ⟨R.rise, List.pairwise_singleton _ _, fun x hx y hy => ?_⟩
    rw [List.mem_singleton] at hy
    rw [hy]
    exact R.below x hx
  below := fun r hr => by
    rcases List.mem_append.mp hr with z | z
    · have := R.below r z
      omega
    · rw [List.mem_singleton] at z
      rw [z]
      exact Nat.lt_succ_self n
  ends := fun r hr => by
    rcases List.mem_append.mp hr with z | z
    · exact R.ends r z
    · rw [List.mem_singleton] at z
      rw [z]
      exact ⟨ha, hb, ne⟩
  few := by
    rw [List.length_append]
    exact h
theorem RowsOk.drop {m n : Nat} {rows : List TRow} (R : RowsOk m rows n) (p : TRow → Bool) : RowsOk m (rows.filter p) n where
  rise := R.rise.filter _
  below := fun r hr => R.below r (List.mem_filter.mp hr).1
  ends := fun r hr => R.ends r (List.mem_filter.mp hr).1
  few := Nat.le_trans (List.length_filter_le _ _) R.few
/-- the town at p, its dict at d -/
structure TownAt (C : Addr) (H : Hp) (p d : Addr) (m : Nat) (rows : List TRow) (n : Nat) : Prop where
  ob : ∃ dx, H p = some (.ins C dx (tF m d n))
  dc : ∃ kvs, H d = some (.dK kvs) ∧ Ents H kvs rows
  ok : RowsOk m rows n
  pm : 1 ≤ m ∧ m ≤ 16
theorem TownAt.pd {C : Addr} {H : Hp} {p d : Addr} {m : Nat} {rows : List TRow} {n : Nat} (T : TownAt C H p d m rows n) : p ≠ d := by
  obtain ⟨dx, h1⟩ := T.ob
  obtain ⟨kvs, h2, _⟩ := T.dc
  exact ne_of h1 h2 (by intro z; cases z)
theorem TownAt.same {C : Addr} {H H' : Hp} {p d : Addr} {m : Nat} {rows : List TRow} {n : Nat} (T : TownAt C H p d m rows n) (s : Same H H') : TownAt C H' p d m rows n := by
  obtain ⟨dx, h1⟩ := T.ob
  obtain ⟨kvs, h2, h3⟩ := T.dc
  exact ⟨⟨dx, s _ _ h1⟩, ⟨kvs, s _ _ h2, ents_ext (fun t xs e => s _ _ e) h3⟩, T.ok, T.pm⟩
/-- all but the town's own two objects stands -/
def Keeps (H H' : Hp) (p d : Addr) : Prop := ∀ c o, H c = some o → c ≠ p → c ≠ d → H' c = some o
theorem keeps_tups {C : Addr} {H H' : Hp} {p d : Addr} {m : Nat} {rows : List TRow} {n : Nat} (T : TownAt C H p d m rows n) (k : Keeps H H' p d) : ∀ t xs, H t = some (.tup xs) → H' t = some (.tup xs) := by
  obtain ⟨dx, h1⟩ := T.ob
  obtain ⟨kvs, h2, _⟩ := T.dc
  intro t xs e
  refine k t _ e (fun z => ?_) fun z => ?_
  · rw [z, h1] at e
    cases e
  · rw [z, h2] at e
    cases e
theorem RowsOk.back {m n : Nat} {rows : List TRow} (R : RowsOk m rows n) (a b : Nat) : ((rows ++ [(n, a, b)]).filter fun r => decide (r.1 ≠ n)) = rows := by
  rw [List.filter_append]
  have e1 : (rows.filter fun r => decide (r.1 ≠ n)) = rows := List.filter_eq_self.mpr fun r hr => by
    have := R.below r hr
    rw [decide_eq_true_eq]
    omega
  rw [e1]
  simp
theorem RowsOk.mono {m n k : Nat} {rows : List TRow} (R : RowsOk m rows n) (h : n ≤ k) : RowsOk m rows k :=
  ⟨R.rise, fun r hr => Nat.lt_of_lt_of_le (R.below r hr) h, R.ends, R.few⟩
theorem same_over {H Hz : Hp} {l : Addr} {o : HO} (n : H l = none) (s : Same H Hz) : Same H (upd Hz l o) := fun c u e => by
  rw [upd_ne (ne_of_none e n)]
  exact s c u e
theorem tups_over {Hz : Hp} {l : Addr} {o : HO} {xs : List V} {vs : List V} {xss : List (List V)} (a : Hz l = some (.lst xs)) (u : Tups Hz vs xss) : Tups (upd Hz l o) vs xss := tups_ext (fun t ys e => by
  rw [upd_ne (fun z => by rw [z, a] at e; cases e)]
  exact e) u
end Own

set_option Elab.async false
set_option linter.all false
set_option maxRecDepth 100000
set_option maxHeartbeats 4000000
/-! Sizes of numbers, remainders, the law helpers' facts that speak of no program. -/
namespace Own
open PySem PySem.Spec PyProof.Rows L2
/-- a whole number that the machine multiplies without a thought -/
def Fit (c : Int) : Prop := c.natAbs.log2 < 2000000
theorem fit_small {c : Int} (h : c.natAbs < 2 ^ 64) : Fit c := by
  unfold Fit
  by_cases e : c.natAbs = 0
  · rw [e]
    decide
  · have z := (Nat.log2_lt e).mpr h
    omega
theorem fit_range {c : Int} (h1 : 0 ≤ c) (h2 : c < 18446744073709551616) : Fit c := fit_small (by omega)
theorem fit_bits {c : Int} (h : Builtin.Int.intBits c ≤ 1048576) : Fit c := by
  unfold Fit
  have z : c.natAbs.log2 ≤ Builtin.Int.intBits c := by
    unfold Builtin.Int.intBits
    split
    · rename_i e
      simp_all
    · omega
  omega
theorem mul_fit {i j : Int} (hi : Fit i) (hj : Fit j) : CMulG i j := by
  unfold CMulG
  unfold Fit at hi hj
  omega
theorem emod_lt {i m : Int} (h : 0 < m) : 0 ≤ i % m ∧ i % m < m := ⟨Int.emod_nonneg i (by omega), Int.emod_lt_of_pos i h⟩
theorem nat_of {i : Int} (h : 0 ≤ i) : ∃ n : Nat, i = (n : Int) := ⟨i.toNat, (Int.toNat_of_nonneg h).symm⟩
/-- an item of a list at a remainder -/
theorem at_mod {α : Type} {xs : List α} {i : Int} (h : xs ≠ []) : ∃ v, atI xs (i % (xs.length : Int)) = some v ∧ v ∈ xs := by
  have hl : 0 < xs.length := List.length_pos_iff.mpr h
  obtain ⟨h1, h2⟩ := emod_lt (i := i) (m := (xs.length : Int)) (by omega)
  obtain ⟨j, hj⟩ := nat_of h1
  have lt : j < xs.length := by omega
  refine ⟨xs[j], ?_, List.getElem_mem lt⟩
  rw [hj]
  exact atI_nat (List.getElem?_eq_getElem lt)
theorem at_lt {α : Type} {xs : List α} {i : Int} (h1 : 0 ≤ i) (h2 : i < (xs.length : Int)) : ∃ v, atI xs i = some v ∧ v ∈ xs := by
  obtain ⟨j, hj⟩ := nat_of h1
  have lt : j < xs.length := by omega
  refine ⟨xs[j], ?_, List.getElem_mem lt⟩
  rw [hj]
  exact atI_nat (List.getElem?_eq_getElem lt)
abbrev Pair := Nat × Nat
def pairV (p : Pair) : List V := [.int (p.1 : Int), .int (p.2 : Int)]
/-- two unlike places of a town of m -/
def PairOk (m : Nat) (p : Pair) : Prop := p.1 < m ∧ p.2 < m ∧ p.1 ≠ p.2
theorem step_ends {m : Nat} {one num : Int} (hm : 2 ≤ m) (h1 : 0 ≤ one) (h2 : one < m) : 0 ≤ (one + 1 + num % ((m : Int) - 1)) % m ∧ (one + 1 + num % ((m : Int) - 1)) % m < m ∧ (one + 1 + num % ((m : Int) - 1)) % m ≠ one := by
  obtain ⟨a1, a2⟩ := emod_lt (i := num) (m := (m : Int) - 1) (by omega)
  generalize num % ((m : Int) - 1) = q at *
  obtain ⟨b1, b2⟩ := emod_lt (i := one + 1 + q) (m := (m : Int)) (by omega)
  refine ⟨b1, b2, ?_⟩
  by_cases h : one + 1 + q < m
  · rw [Int.emod_eq_of_lt (by omega) h]
    omega
  · have e : (one + 1 + q) % (m : Int) = (one + 1 + q - m) % (m : Int) := (Int.sub_emod_right _ _).symm
    rw [e, Int.emod_eq_of_lt (by omega) (by omega)]
    omega
/-- the items taken so far of a list of whole numbers -/
theorem int_item {ns : List Int} {i : Nat} {y : V} (h : (ns.map V.int)[i]? = some y) : ∃ z, ns[i]? = some z ∧ y = V.int z := by
  rw [List.getElem?_map] at h
  cases e : ns[i]? with
  | none =>
    rw [e] at h
    cases h
  | some z =>
    rw [e] at h
    exact ⟨z, rfl, (Option.some.inj h).symm⟩
end Own
namespace Own
open PySem PySem.Spec PyProof.Rows L2
theorem pair_nat {i j : Int} (hi : 0 ≤ i) (hj : 0 ≤ j) : pairV (i.toNat, j.toNat) = [V.int i, V.int j] := by
  show [V.int ((i.toNat : Nat) : Int), V.int ((j.toNat : Nat) : Int)] = [V.int i, V.int j]
  rw [Int.toNat_of_nonneg hi, Int.toNat_of_nonneg hj]
theorem pair_ok {m : Nat} {i j : Int} (h1 : 0 ≤ i) (h2 : i < m) (h3 : 0 ≤ j) (h4 : j < m) (ne : i ≠ j) : PairOk m (i.toNat, j.toNat) := by
  refine ⟨?_, ?_, ?_⟩
  · show i.toNat < m
    omega
  · show j.toNat < m
    omega
  · show i.toNat ≠ j.toNat
    omega
theorem dp_ints {K : PySem.W.Frag} {H : Hp} : ∀ ns : List Int, DpAll K H (ns.map V.int) (ns.map PyData.int)
  | [] => .nil
  | n :: ns => .cons (.int n) (dp_ints ns)
theorem eqv_nil_nil : PyData.eqv (.list []) (.list []) = true := by simp [PyData.eqv, PyData.eqvAll]
theorem eqv_cons_nil (d : PyData) (ds : List PyData) : PyData.eqv (.list (d :: ds)) (.list []) = false := by simp [PyData.eqv, PyData.eqvAll]
/-- what may be laid, n deep -/
def Lay (n : Nat) (d : PyData) : Prop := d.canLay0 = true ∧ d.depth ≤ n
theorem lay_int (i : Int) : Lay 0 (.int i) := ⟨by simp only [PyData.canLay0], by simp only [PyData.depth]; exact Nat.le_refl _⟩
theorem lay_all {n : Nat} : ∀ {ds : List PyData}, (∀ d ∈ ds, Lay n d) → PyData.canLayAll0 ds = true ∧ PyData.depthAll ds ≤ n
  | [], _ => ⟨by simp only [PyData.canLayAll0], by simp only [PyData.depthAll]; exact Nat.zero_le _⟩
  | d :: ds, h => by
    obtain ⟨h1, h2⟩ := lay_all (ds := ds) fun e he => h e (List.mem_cons_of_mem _ he)
    obtain ⟨h3, h4⟩ := h d List.mem_cons_self
    refine ⟨?_, ?_⟩
    · simp only [PyData.canLayAll0, h1, h3, Bool.and_self]
    · simp only [PyData.depthAll]
      exact Nat.max_le.mpr ⟨h4, h2⟩
theorem lay_list {n : Nat} {ds : List PyData} (h : ∀ d ∈ ds, Lay n d) : Lay (n + 1) (.list ds) := by
  obtain ⟨h1, h2⟩ := lay_all h
  exact ⟨by simp only [PyData.canLay0, h1], by simp only [PyData.depth]; omega⟩
theorem lay_tup {n : Nat} {ds : List PyData} (h : ∀ d ∈ ds, Lay n d) : Lay (n + 1) (.tuple ds) := by
  obtain ⟨h1, h2⟩ := lay_all h
  exact ⟨by simp only [PyData.canLay0, h1], by simp only [PyData.depth]; omega⟩
theorem Lay.shaped {n : Nat} {d : PyData} (h : Lay n d) (hn : n ≤ 64) : SeqAt.shaped d = true := by
  unfold SeqAt.shaped
  rw [h.1, Bool.true_and, decide_eq_true_eq]
  exact Nat.le_trans h.2 hn
theorem lay_ints (ns : List Int) : Lay 1 (.list (ns.map PyData.int)) := lay_list fun d hd => by
  obtain ⟨i, _, rfl⟩ := List.mem_map.mp hd
  exact lay_int i
theorem Lay.eqv {n : Nat} {d : PyData} (h : Lay n d) : PyData.eqv d d = true := SeqAt.eqv_refl d h.1
theorem cut_take (xs : List V) (c : Nat) : cutV xs none (some (c : Int)) = xs.take c := by
  unfold cutV
  rw [HT.sIx_none, HT.sIx_nat, Nat.sub_zero, List.drop_zero]
  by_cases h : c ≤ xs.length
  · rw [Nat.min_eq_left h]
  · rw [Nat.min_eq_right (by omega), List.take_of_length_le (Nat.le_refl _), List.take_of_length_le (by omega)]
theorem at_end {α : Type} {l : List α} {v : α} (h : l[l.length - 1]? = some v) : atI l (-1) = some v := by
  rw [← List.getLast?_eq_getElem?, List.getLast?_eq_some_iff] at h
  obtain ⟨ys, rfl⟩ := h
  exact atI_last ys v
end Own

set_option Elab.async false
set_option linter.all false
set_option maxRecDepth 100000
set_option maxHeartbeats 4000000
/-! Defs that make lambdas: the def's own code object and its table. -/
namespace Own
open PySem PySem.Spec PyProof.Rows L2
theorem fn_lam {P : Program} {w : World} {K : PySem.W.Frag} {mg : Str → Option Value} {base : Heap} {x qual : Str} {params : Arguments} {body : List Stmt} {scope : Scope} {fd : FuncData} {N ps : List Str} {k : Nat} {sp : Sp} {p : Str × Option Str}
    (F : FunD K x qual params body scope [] [] (He.fAd K p) fd) (S : FnScope N ps scope) (len : ∀ vs H Q E, sp vs H Q E → vs.length = ps.length)
    (hbody : ∀ (A : Around) (outer : List Env) (s : Shared) (H : Hp) (vs : List V) (Q : VK) (E : XK), Room k (A.deeper (envOfC qual scope s.heap.objs.size (He.fAd K p) (.ref (He.codeOf K p)))) → sp vs H Q E →
      ∃ t, PSs (cxOf (L2.CX P w) P w K mg base N qual scope (He.fAd K p) (.ref (He.codeOf K p)) A outer s H E) body t ∧ t { nx := fun _ H' => Q .non H', rt := Q } (start N vs) H) : FnOk P w K mg base (L2.CX P w) (k + 1) (He.fAd K p) fd ps sp := by
  obtain ⟨oc, od, dV, kV, doc, pm, an, cdv, ct, osl, rfl, lk, hcd, _, _⟩ := F.ex
  obtain ⟨c, rfl⟩ := He.codeIn_ref hcd
  have ec : He.codeOf K p = c := He.codeOf_eq lk rfl
  refine fn_of lk hcd S len fun A outer s H vs Q E hr hsp => ?_
  have z := hbody A outer s H vs Q E
  rw [ec] at z
  exact z hr hsp
/-- a lambda without parameters takes no arguments -/
abbrev LamBinds (params : Arguments) (body : Expr) (scope : Scope) : Prop := ∀ q cl pm cv ctv, bindArgs (PySem.W.kla_fn "<lambda>" q params body scope cl pm cv ctv) ⟨[], []⟩ = pure []
/-- a def's promise with its tables' heap: all but the tables stays, the tables are known -/
abbrev ExtT (T : List (Addr × Str)) (H H' : Hp) : Prop := LamX.ExtN H H' ∧ LamX.Tabs T H'
theorem ext_same {T : List (Addr × Str)} {H H' : Hp} (t : LamX.Tabs T H) (s : Same H H') : ExtT T H H' := ⟨LamX.ExtN.of s, t.ext s⟩
theorem ext_trans {T : List (Addr × Str)} {H H1 H2 : Hp} (a : LamX.ExtN H H1) (b : ExtT T H1 H2) : ExtT T H H2 := ⟨a.trans b.1, b.2⟩
theorem TownAt.ext {C : Addr} {H H' : Hp} {p d : Addr} {m : Nat} {rows : List TRow} {n : Nat} (T : TownAt C H p d m rows n) (s : LamX.ExtN H H') : TownAt C H' p d m rows n := by
  obtain ⟨dx, h1⟩ := T.ob
  obtain ⟨kvs, h2, h3⟩ := T.dc
  exact ⟨⟨dx, s _ _ h1 (fun _ z => by cases z)⟩, ⟨kvs, s _ _ h2 (fun _ z => by cases z), ents_ext (fun t xs e => s _ _ e (fun _ z => by cases z)) h3⟩, T.ok, T.pm⟩
theorem lst_ext {H H' : Hp} {l : Addr} {xs : List V} (h : H l = some (.lst xs)) (s : LamX.ExtN H H') : H' l = some (.lst xs) := s _ _ h (fun _ z => by cases z)
theorem tl_ext {H H' : Hp} {l : Addr} {xss : List (List V)} (h : TL H l xss) (s : LamX.ExtN H H') : TL H' l xss := by
  obtain ⟨vs, h1, h2⟩ := h
  exact ⟨vs, lst_ext h1 s, tups_ext (fun t xs e => s _ _ e (fun _ z => by cases z)) h2⟩
theorem sql_ext {K : PySem.W.Frag} {H H' : Hp} {l : Addr} {xs : List V} (h : SqL K H l xs) (s : LamX.ExtN H H') : SqL K H' l xs := by
  rcases h with (h | ⟨o, h⟩) | h
  · exact .inl (.inl (s _ _ h (fun _ z => by cases z)))
  · exact .inl (.inr ⟨o, s _ _ h (fun _ z => by cases z)⟩)
  · exact .inr h
theorem lam_none {X : Cx} : defaultsOf ({ posonlyargs := [], args := [], vararg := none, kwonlyargs := [], kw_defaults := [], kwarg := none, defaults := [] } : Arguments) X.env = ([], []) := by rfl
theorem ty_ext {H H' : Hp} {v : V} (s : LamX.ExtN H H') (h : ∃ n, tyName v H = some n) : ∃ n, tyName v H' = some n := by
  obtain ⟨n, e⟩ := h
  refine ⟨n, ?_⟩
  cases v with
  | ref p =>
    simp only [tyName] at e ⊢
    cases there : H p with
    | none => simp [there] at e
    | some o =>
      have stays := s p o there fun ps z => by simp [there, z] at e
      rw [stays, ← there]
      exact e
  | _ => exact e
theorem tabs_keeps {C : Addr} {T : List (Addr × Str)} {H H' : Hp} {p d : Addr} {m : Nat} {rows : List TRow} {n : Nat} (W : TownAt C H p d m rows n) (k : Keeps H H' p d) (t : LamX.Tabs T H) : LamX.Tabs T H' := by
  obtain ⟨dx, h1⟩ := W.ob
  obtain ⟨kvs, h2, _⟩ := W.dc
  intro q hq
  obtain ⟨ps, e1, e2, e3⟩ := t q hq
  refine ⟨ps, k _ _ e1 (fun z => ?_) (fun z => ?_), e2, fun pos cv hc => ?_⟩
  · rw [z, h1] at e1
    cases e1
  · rw [z, h2] at e1
    cases e1
  · obtain ⟨c, f1, f2⟩ := e3 pos cv hc
    refine ⟨c, f1, k _ _ f2 (fun z => ?_) (fun z => ?_)⟩
    · rw [z, h1] at f2
      unfold LamX.CodeO at f2
      cases f2
    · rw [z, h2] at f2
      unfold LamX.CodeO at f2
      cases f2
def rowD (r : TRow) : PyData := .tuple [.int (r.1 : Int), .int (r.2.1 : Int), .int (r.2.2 : Int)]
theorem dp_rows {K : PySem.W.Frag} {H : Hp} : ∀ {vs : List V} {rows : List TRow}, Tups H vs (rows.map rowV) → DpAll K H vs (rows.map rowD)
  | [], [], _ => .nil
  | _ :: _, [], h => by cases h
  | [], _ :: _, h => by cases h
  | v :: vs, r :: rows, .cons ⟨t, e, h⟩ q => by
    rw [e]
    exact .cons (.tup (SqT.of h) (.cons (.int _) (.cons (.int _) (.cons (.int _) .nil)))) (dp_rows q)
theorem lay_rows (rows : List TRow) : Lay 2 (.list (rows.map rowD)) := lay_list fun d hd => by
  obtain ⟨r, _, rfl⟩ := List.mem_map.mp hd
  refine lay_tup fun e he => ?_
  simp only [List.mem_cons, List.not_mem_nil, or_false] at he
  rcases he with h | h | h <;> rw [h] <;> exact lay_int _
/-- two lists of the same rows compared -/
theorem dp_town {K : PySem.W.Frag} {H : Hp} {l : Addr} {rows : List TRow} (h : TL H l (rows.map rowV)) : Dp K H (.ref l) (.list (rows.map rowD)) := by
  obtain ⟨vs, h1, h2⟩ := h
  exact .lst (SqL.of h1) (dp_rows h2)
theorem tl_same {H H' : Hp} {l : Addr} {xss : List (List V)} (h : TL H l xss) (s : Same H H') : TL H' l xss := by
  obtain ⟨vs, h1, h2⟩ := h
  exact ⟨vs, s _ _ h1, tups_ext (fun t xs e => s _ _ e) h2⟩
theorem tl_keeps {C : Addr} {H H' : Hp} {p d l : Addr} {m : Nat} {rows : List TRow} {n : Nat} {xss : List (List V)} (W : TownAt C H p d m rows n) (k : Keeps H H' p d) (h : TL H l xss) : TL H' l xss := by
  obtain ⟨vs, h1, h2⟩ := h
  obtain ⟨dx, e1⟩ := W.ob
  obtain ⟨kvs, e2, _⟩ := W.dc
  exact ⟨vs, k _ _ h1 (ne_of h1 e1 (by intro z; cases z)) (ne_of h1 e2 (by intro z; cases z)), tups_ext (keeps_tups W k) h2⟩
end Own

set_option Elab.async false
set_option linter.all false
set_option maxRecDepth 100000
set_option maxHeartbeats 4000000
/-! An own error class over ValueError whose __init__ begins with super().__init__(text). -/
namespace Own
open PySem PySem.Spec PyProof.Rows L2
section
open PySem.W
/-- at C stands an error class whose objects ValueError makes -/
def VeAt (h : Heap) (C : Addr) : Prop := ∃ nm q N bs bm flag sn sub ab col dd k0 k1 k2 k3 k5, h.get? C = some (excClassObj nm q C N bs bm flag sn sub ab col dd k0 k1 k2 k3 k5 "ValueError.__new__")
theorem VeAt.keeps {h h' : Heap} {C : Addr} (c : VeAt h C) (k : ∀ b o, h.get? b = some o → h'.get? b = some o) : VeAt h' C := by
  obtain ⟨nm, q, N, bs, bm, flag, sn, sub, ab, col, dd, k0, k1, k2, k3, k5, at_⟩ := c
  exact ⟨nm, q, N, bs, bm, flag, sn, sub, ab, col, dd, k0, k1, k2, k3, k5, k _ _ at_⟩
/-- ValueError.__init__, bound to the exception at e, called: it sets e's arguments anew, no more -/
theorem call_bound_ve {prog : Program} {w : World} {A : Around} {E : Value → Shared → Prop} {s : Shared} {C u e t0 : Addr} {rest : List Value} {Q : Value → Shared → Prop}
    (cl : VeAt s.heap C) (he : s.heap.get? e = some (HandSPX.excO C t0)) (hu : s.heap.get? u = some (kxs_mw "ValueError.__init__" e)) (few : rest.length ≤ sizeLine)
    (hq : ∀ (h' : Heap) (t1 : Addr), (∀ b o, b ≠ e → s.heap.get? b = some o → h'.get? b = some o) → h'.get? e = some (HandSPX.excO C t1) → Q .none { s with heap := h' }) :
    wpAny (model prog w) A (call (.ref u) rest) Q E s := by
  obtain ⟨h, g, d, t, os⟩ := s
  obtain ⟨nm, q, N, bs, bm, flag, sn, sub, ab, col, dd, k0, k1, k2, k3, k5, hC⟩ := cl
  have kind : (Value.type "method-wrapper" == Value.type "method" || Value.type "method-wrapper" == Value.type "builtin_function_or_method" || Value.type "method-wrapper" == Value.type "method-wrapper") = true := by decide
  have room : ∀ {o : Obj} {b : Addr}, h.get? b = some o → (h.push (kdv_tup rest)).get? b = some o := fun q => Heap.get?_push_of_some _ q
  refine wpAny_call (codeAny_of_tree (?_ : wpAny (model prog w) A.in1 (callAny (.ref u) ⟨rest, []⟩) _ _ _))
  simp only [callAny]
  refine wpAny_bind (wpAny_load hu ?_)
  simp only [kxs_mw, kind, if_true]
  refine KFB.if_so (by decide) (wpAny_bind (ESX.check_bound F.excBase_ValueError hC he rfl (wpAny_bind (wpAny_pure (wpAny_pure ?_)))))
  refine ⟨Code.quiet_builtin _ (by decide +kernel), codeAny_builtin F.excBase_ValueError.initEntry ?_⟩
  rw [Around.under_plainId F.excBase_ValueError.init.plain _]
  wp_walk
  exact hq _ h.objs.size (fun b o off q => (Heap.get?_update_other _ _ off.symm).trans (room q)) (Heap.get?_update_self _ (room he) rfl)
end
abbrev supN : List Str := ["self", "between", "apart", "part"]
abbrev supEnv (scope : Scope) (s : Shared) (f cda cc : Addr) : Env := PySem.W.ksEnv "Parted.__init__" scope s.heap.objs.size f (.ref cda) cc
/-- Parted.__init__ runs: its class's cell is captured -/
def supCx (P : Program) (w : World) (K : PySem.W.Frag) (mg : Str → Option Value) (base : Heap) (scope : Scope) (f cda cc : Addr) (A : Around) (outer : List Env) (s : Shared) (H : Hp) (E : XK) : Cx where
  prog := P
  w := w
  K := K
  mg := mg
  base := base
  A := A.deeper (supEnv scope s f cda cc)
  N := supN
  s_0 := s
  H_0 := H
  env := supEnv scope s f cda cc
  outer := outer
  stack := supEnv scope s f cda cc :: outer
  ex := []
  fn := fun _ => false
  calm := true
  pn := []
  xe := fun e s' => wpAny (model P w) (A.deeper (supEnv scope s f cda cc)) (leaving (supEnv scope s f cda cc) e) (fun _ s'' => L2.CX P w outer H s E e s'') (fun e' s'' => L2.CX P w outer H s E e' s'') s'
/-- the scope of such a def: three parameters, the comprehension's name elsewhere, the class captured -/
structure SupS (scope : Scope) : Prop where
  kind : scope.kind = .function
  co : scope.isCoroutine = false
  gen : scope.isGenerator = false
  loc : scope.names.lookup ("self" : Str) = some .local ∧ scope.names.lookup ("between" : Str) = some .local ∧ scope.names.lookup ("apart" : Str) = some .local
  cls : scope.names.lookup ("__class__" : Str) = some .free
  sup : scope.names.lookup ("super" : Str) = some .globalImplicit
  nocell : ∀ y ∈ scope.names, y.2 ≠ .cell
  free : ∀ y ∈ scope.names, y.2 = .free → y.1 = "__class__"
  part : ¬ Vis scope "part"
structure SupC (K : PySem.W.Frag) (mg : Str → Option Value) (P : Program) (C fI cda cc : Addr) (params : Arguments) (body : List Stmt) (scope : Scope) (fd : FuncData) : Prop where
  oex : OexC K C
  fn : ∃ (oc dV kV doc pm ct : Value) (od an : Option Addr) (osl : Array (Option Value)), fd = PySem.W.ksFn "__init__" "Parted.__init__" params body scope dV kV doc pm an (.ref cda) ct cc ∧ K.lookup fI = some ⟨oc, od, .func fd, osl⟩
  arg : ∃ ar : Arg, (params.posonlyargs ++ params.args).head? = some ar ∧ ar.arg = "self"
  code : PySem.W.codeIn K (.ref cda) "Parted.__init__" = true
  file : ∃ (ccl : Value) (cdd : Option Addr) (vs : Array Value) (ccs : Array (Option Value)) (f : Str) (tf : Tok), K.lookup cda = some ⟨ccl, cdd, .fields vs, ccs⟩ ∧ vs[2]? = some (.str f tf) ∧ ((P.main.file : Str) == f) = true
  cell : ∃ (cl : Value) (cld : Option Addr) (csl : Array (Option Value)), K.lookup cc = some ⟨cl, cld, .cell (some (.ref C)), csl⟩
  sup : mg "super" = none
  opq : PySem.W.nsIn K cStatics "thirdparty.any" = some none
  meth : PySem.W.ks_superIn K C C "__init__" = some (some (.builtin "ValueError.__init__"))
  ve : PySem.W.subIn K (.ref C) (.type "ValueError") = some true
  own : PySem.W.mroIn K C (.ref C) = some true
  top : (P.main.scope.names.lookup ("super" : Str)).isSome = false
section
variable {P : Program} {w : World} {K : PySem.W.Frag} {mg : Str → Option Value} {base : Heap} {C fI cda cc : Addr} {params : Arguments} {body : List Stmt} {scope : Scope} {A : Around} {outer : List Env} {s : Shared} {H : Hp} {E : XK} {v0 v1 v2 : V} {u0 u1 u2 : Value}
theorem sup_start {h0 : Heap} {tk : Nat} (S : SupS scope) (hc : ∃ (cl : Value) (cld : Option Addr) (csl : Array (Option Value)), K.lookup cc = some ⟨cl, cld, .cell (some (.ref C)), csl⟩) (hd : A.handled = none) (e0 : Env0 P w K mg base A outer s H) (r0 : RelV v0 u0) (r1 : RelV v1 u1) (r2 : RelV v2 u2)
    (hns : h0.Ns s.heap.objs.size fun x => ([(("self" : Str), u0), ("between", u1), ("apart", u2)] : List (Str × Value)).reverse.lookup x) (kp : ∀ b o, s.heap.get? b = some o → h0.get? b = some o) :
    Inv (supCx P w K mg base scope fI cda cc A outer s H E) [] [some v0, some v1, some v2, none] H { s with heap := h0, toks := tk } := by
  obtain ⟨cl, cld, csl, hcc⟩ := hc
  have ccB := e0.mod.kin cc _ hcc
  have ccS := e0.bs cc _ ccB
  have only : ∀ {x c}, (supEnv scope s fI cda cc).cells.lookup x = some c → x = "__class__" ∧ c = cc := by
    intro x c e
    have e' : List.lookup x [(("__class__" : Str), cc)] = some c := e
    by_cases hx : x = "__class__"
    · subst hx
      rw [List.lookup_cons_self] at e'
      exact ⟨rfl, (Option.some.inj e').symm⟩
    · have nx : (x == ("__class__" : Str)) = false := by simpa using hx
      simp [List.lookup, nx] at e'
  have noA : ∀ b : Addr, b ∉ (supCx P w K mg base scope fI cda cc A outer s H E).ex := fun b z => absurd (show b ∈ ([] : List Addr) from z) (by simp)
  refine ⟨⟨e0.mod, S.kind, rfl, rfl, Nat.le_refl _, fun y z c a b => (only a).1.trans (only b).1.symm, fun y hy => ?_, fun y c z _ => ?_, fun _ => hd, Around.frames_deeper e0.frames, .inr ⟨rfl, rfl⟩, fun b z => absurd z (noA b), e0.bs, e0.bsz, fun b _ _ => noA b, fun b z => absurd z (noA b), e0.funs, e0.frf⟩,
    rfl, e0.bare, Un.kept kp, ⟨_, hns, fun i y v a b z => ?_⟩, fun y c e => ?_, e0.hok.fresh (Nat.le_refl _), fun y c e => ?_, fun q hq => absurd (show q ∈ ([] : List (Addr × Obj)) ++ [] from hq) (by simp), e0.hok.kept kp, rfl⟩
  · have hy : scope.names.lookup y = some .cell ∨ scope.names.lookup y = some .free := hy
    rcases hy with hy | hy
    · exact absurd rfl (S.nocell _ (PySem.mem_of_lookup hy))
    · have ey : y = "__class__" := S.free _ (PySem.mem_of_lookup hy) rfl
      subst ey
      exact ⟨cc, List.lookup_cons_self⟩
  · have z : false = true := z
    cases z
  · obtain ⟨l0, l1, l2⟩ := S.loc
    match i, a, b with
    | 0, a, b =>
      cases a
      cases b
      exact ⟨u0, r0, .inl ⟨l0, rfl⟩⟩
    | 1, a, b =>
      cases a
      cases b
      exact ⟨u1, r1, .inl ⟨l1, rfl⟩⟩
    | 2, a, b =>
      cases a
      cases b
      exact ⟨u2, r2, .inl ⟨l2, rfl⟩⟩
    | 3, a, b => cases b
    | n + 4, a, b => simp at b
  · obtain ⟨_, rfl⟩ := only e
    exact ⟨_, _, kp _ _ ccS.1, rfl⟩
  · obtain ⟨_, rfl⟩ := only e
    exact ccS.2
end
end Own

set_option Elab.async false
set_option linter.all false
set_option maxRecDepth 100000
set_option maxHeartbeats 4000000
/-! The head's look: the library's facts, and an error's own __init__ with its class's cell. -/
namespace Own
open PySem PySem.Spec PyProof.Rows L2
/-! ### Bools of facts -/
/-- an error class with its own __init__ -/
def oexB (K : PySem.W.Frag) (C : Addr) : Bool := (match K.lookup C with
  | some ⟨.type t, _, .cls cd, sl⟩ => decide (t = "type") && ((match cd.mro, sl.toList with
    | .ref D :: bm, [_, _, _, _, some (.builtin n), _] => decide (D = C) && (decide (n = "ValueError.__new__") && PySem.HandSPX.refsVE bm)
    | _, _ => false) && (cd.hasDict && !cd.hasDel))
  | _ => false) && (He.eqO (PySem.W.findIn K (.ref C) "__setattr__") (some (some (.builtin "object.__setattr__"))) && (decide (PySem.W.subIn K (.ref C) (.type "BaseException") = some true) && (decide (PySem.W.typeIn K (.ref C) = some (.type "type")) && PySem.W.keepIn K (.ref C))))
theorem oexB_ok {K : PySem.W.Frag} {C : Addr} (h : oexB K C = true) : OexC K C := by
  obtain ⟨h1, h⟩ := He.ba h
  obtain ⟨h2, h⟩ := He.ba h
  obtain ⟨h3, h⟩ := He.ba h
  obtain ⟨h4, h5⟩ := He.ba h
  refine ⟨?_, He.eqO_ok h2, of_decide_eq_true h3, of_decide_eq_true h4, h5⟩
  split at h1
  · rename_i t dd cd sl ho
    obtain ⟨d1, g1⟩ := He.ba h1
    obtain ⟨h6, g2⟩ := He.ba g1
    obtain ⟨h8, h9⟩ := He.ba g2
    have e1 := of_decide_eq_true d1
    clear d1 g1 g2 h1
    subst e1
    obtain ⟨nm, bs, mro, ns, qn, hd, sn, sub, ab, col, del⟩ := cd
    split at h6
    · rename_i D bm k0 k1 k2 k3 n k5 hm hs
      obtain ⟨d2, h10⟩ := He.ba h6
      obtain ⟨d3, h11⟩ := He.ba h10
      have e2 := of_decide_eq_true d2
      have e3 := of_decide_eq_true d3
      clear d2 d3 h10 h6
      subst e2 e3
      dsimp only at hm h8 h9
      subst hm h8
      have e4 : del = false := by
        cases del with
        | false => rfl
        | true => cases h9
      subst e4
      have hsl : sl = #[k0, k1, k2, k3, some (.builtin "ValueError.__new__"), k5] := by
        obtain ⟨l⟩ := sl
        simp only at hs
        rw [hs]
      subst hsl
      exact ⟨nm, qn, ns, bs, bm, sn, sub, ab, col, dd, k0, k1, k2, k3, k5, ho, h11⟩
    · cases h6
  · cases h1
/-- an error class whose instances are asked for their kind -/
def excCB (K : PySem.W.Frag) (D : Addr) : Bool := He.eqO (PySem.W.findIn K (.ref D) "__getattribute__") (some (some (.builtin "BaseException.__getattribute__"))) && (He.eqO (PySem.W.findIn K (.ref D) "__getattr__") (some none) && (decide (PySem.W.subIn K (.ref D) (.type "BaseException") = some true) &&
  (PySem.W.hasDictIn K D && (He.eqO (PySem.W.findIn K (.ref D) "__class__") (some (some (.builtin "object.__class__"))) && (He.eqO (PySem.W.specialIn K (.builtin "object.__class__") "__get__") (some (some (.builtin "getset_descriptor.__get__"))) &&
  (decide (PySem.W.takesIn K (.builtin "object.__class__") = some true) && decide (PySem.W.mroIn K D (.type "object") = some true)))))))
theorem excCB_ok {K : PySem.W.Frag} {D : Addr} (h : excCB K D = true) : ExcC K D := by
  obtain ⟨h1, h⟩ := He.ba h
  obtain ⟨h2, h⟩ := He.ba h
  obtain ⟨h3, h⟩ := He.ba h
  obtain ⟨h4, h⟩ := He.ba h
  obtain ⟨h5, h⟩ := He.ba h
  obtain ⟨h6, h⟩ := He.ba h
  obtain ⟨h7, h8⟩ := He.ba h
  exact ⟨He.eqO_ok h1, He.eqO_ok h2, of_decide_eq_true h3, h4, He.eqO_ok h5, He.eqO_ok h6, of_decide_eq_true h7, of_decide_eq_true h8⟩
/-! ### a method that captures its class -/
abbrev SupV : Type := Option (Str × Str × Arguments × FuncBody × Scope × Addr × List Str × Value × Addr)
def supObs (K : PySem.W.Frag) (f : Addr) : SupV := match K.lookup f with
  | some ⟨_, _, .func fd, _⟩ => some (fd.name, fd.qualname, fd.params, fd.body, fd.scope, fd.globals, fd.closure.map (·.1), fd.defaults, fd.builtins)
  | _ => none
def supVal (st : Stmt) : SupV := some ("__init__", "Parted.__init__", defArgs st, .stmts (defBody st), defScope st, mainGlobals, ["__class__"], .none, builtinsNs)
def fileB (o : Option Value) (file : Str) : Bool := match o with
  | some (.str g _) => (file == g)
  | _ => false
theorem fileB_ok {o : Option Value} {file : Str} (h : fileB o file = true) : ∃ g t, o = some (.str g t) ∧ (file == g) = true := by
  cases o with
  | none => cases h
  | some v =>
    cases v with
    | str g t => exact ⟨g, t, rfl, h⟩
    | _ => cases h
def supB (K : PySem.W.Frag) (f C : Addr) (file : Str) : Bool := match K.lookup f with
  | some ⟨_, _, .func fd, _⟩ => (match fd.code with
    | .ref cda => PySem.W.codeIn K (.ref cda) "Parted.__init__" && (match K.lookup cda with
      | some ⟨_, _, .fields vs, _⟩ => fileB vs[2]? file
      | _ => false)
    | _ => false) && (match fd.closure with
    | (_, cc) :: _ => (match K.lookup cc with
      | some ⟨_, _, .cell (some (.ref D)), _⟩ => decide (D = C)
      | _ => false)
    | _ => false)
  | _ => false
theorem sup_of {K : PySem.W.Frag} {mg : Str → Option Value} {P : Program} {f C : Addr} {st : Stmt} (e : supObs K f = supVal st) (b : supB K f C P.main.file = true) (oex : OexC K C) (arg : ∃ ar : Arg, ((defArgs st).posonlyargs ++ (defArgs st).args).head? = some ar ∧ ar.arg = "self")
    (sup : mg "super" = none) (opq : PySem.W.nsIn K cStatics "thirdparty.any" = some none) (meth : PySem.W.ks_superIn K C C "__init__" = some (some (.builtin "ValueError.__init__"))) (ve : PySem.W.subIn K (.ref C) (.type "ValueError") = some true) (own : PySem.W.mroIn K C (.ref C) = some true)
    (top : (P.main.scope.names.lookup ("super" : Str)).isSome = false) :
    ∃ (cda cc : Addr) (kV doc pm ct : Value) (an : Option Addr), SupC K mg P C f cda cc (defArgs st) (defBody st) (defScope st) (PySem.W.ksFn "__init__" "Parted.__init__" (defArgs st) (defBody st) (defScope st) .none kV doc pm an (.ref cda) ct cc) := by
  unfold supObs at e
  unfold supB at b
  cases q : K.lookup f with
  | none =>
    rw [q] at b
    cases b
  | some o =>
    obtain ⟨oc, od, dt, osl⟩ := o
    rw [q] at b e
    cases dt with
    | func fd =>
      obtain ⟨n1, n2, n3, n4, n5, n6, n7, n8, n9, n10, n11, n12, n13, n14, n15⟩ := fd
      have e2 : (some (n1, n2, n3, n4, n5, n6, n7.map (·.1), n8, n15) : SupV) = some (("__init__" : Str), ("Parted.__init__" : Str), defArgs st, FuncBody.stmts (defBody st), defScope st, mainGlobals, ([("__class__" : Str)] : List Str), Value.none, builtinsNs) := e
      simp only [Option.some.injEq, Prod.mk.injEq] at e2
      obtain ⟨h1, h2, h3, h4, h5, h6, h7, h8, h9⟩ := e2
      subst h1 h2 h3 h4 h5 h6 h8 h9
      obtain ⟨cc, rfl⟩ : ∃ cc, n7 = [(("__class__" : Str), cc)] := by
        cases n7 with
        | nil => exact absurd (congrArg List.length h7) (by simp)
        | cons p r =>
          cases r with
          | nil =>
            obtain ⟨x, c⟩ := p
            have z : [x] = [("__class__" : Str)] := h7
            have z2 : x = "__class__" := (List.cons.inj z).1
            exact ⟨c, by rw [z2]⟩
          | cons p2 r2 => exact absurd (congrArg List.length h7) (by simp)
      obtain ⟨b1, b2⟩ := He.ba b
      cases n13 with
      | ref cda =>
        obtain ⟨b3, b4⟩ := He.ba b1
        refine ⟨cda, cc, n9, n10, n11, n14, n12, oex, ⟨oc, .none, n9, n10, n11, n14, od, n12, osl, rfl, q⟩, arg, b3, ?_, ?_, sup, opq, meth, ve, own, top⟩
        · cases q2 : K.lookup cda with
          | none =>
            rw [q2] at b4
            cases b4
          | some o2 =>
            obtain ⟨oc2, od2, dt2, osl2⟩ := o2
            rw [q2] at b4
            cases dt2 with
            | fields vs =>
              obtain ⟨g, t, q3, b5⟩ := fileB_ok b4
              exact ⟨oc2, od2, vs, osl2, g, t, rfl, q3, b5⟩
            | _ => cases b4
        · cases q2 : K.lookup cc with
          | none =>
            have b5 : (match K.lookup cc with | some ⟨_, _, .cell (some (.ref D)), _⟩ => decide (D = C) | _ => false) = true := b2
            rw [q2] at b5
            cases b5
          | some o2 =>
            have b5 : (match K.lookup cc with | some ⟨_, _, .cell (some (.ref D)), _⟩ => decide (D = C) | _ => false) = true := b2
            obtain ⟨oc2, od2, dt2, osl2⟩ := o2
            rw [q2] at b5
            cases dt2 with
            | cell u =>
              cases u with
              | none => cases b5
              | some u =>
                cases u with
                | ref D =>
                  have z := of_decide_eq_true b5
                  exact ⟨oc2, od2, osl2, by rw [z]⟩
                | _ => cases b5
            | _ => cases b5
      | _ => cases b1
    | _ => cases b
/-! ### the look -/
def asY (g : Addr → Option Obj) (n : Nat) : List Addr := cStatics :: He.asD g n
abbrev AlY : Type := He.AlX × List SupV
def obsY (n : Nat) (fa : List He.Fa) (fn : List He.DefD) (tf : List He.Defn) (ex : PySem.W.Frag → Bool) (ss : List ((PySem.W.Frag → Addr) × Stmt)) (g : Addr → Option Obj) : AlY :=
  ((He.obsT fa fn [] (He.frT g (asY g n)), ex (He.frT g (asY g n)) && He.tabsB g tf (He.frT g (asY g n))), ss.map fun d => supObs (He.frT g (asY g n)) (d.1 (He.frT g (asY g n))))
def valY (fn : List He.DefD) (ss : List ((PySem.W.Frag → Addr) × Stmt)) (w : World) : AlY := (He.valX fn [] w, ss.map fun d => supVal d.2)
structure SaysY (fa : List He.Fa) (fn : List He.DefD) (tf : List He.Defn) (ex : PySem.W.Frag → Bool) (ss : List ((PySem.W.Frag → Addr) × Stmt)) (w : World) (h : Heap) (K : PySem.W.Frag) : Prop where
  x : He.SaysX fa fn [] tf ex w h K
  s : ss.map (fun d => supObs K (d.1 K)) = ss.map fun d => supVal d.2
theorem saysY_of {n : Nat} {fa : List He.Fa} {fn : List He.DefD} {tf : List He.Defn} {ex : PySem.W.Frag → Bool} {ss : List ((PySem.W.Frag → Addr) × Stmt)} {w : World} {h : Heap} (e : obsY n fa fn tf ex ss h.get? = valY fn ss w) : SaysY fa fn tf ex ss w h (He.frT h.get? (asY h.get? n)) := by
  obtain ⟨e12, e3⟩ := Prod.mk.inj e
  obtain ⟨e1, e2⟩ := Prod.mk.inj e12
  obtain ⟨m, tb⟩ := He.ba e2
  have look : ∀ p ∈ tf, PySem.W.codeHdIn (He.frT h.get? (asY h.get? n)) (He.cT (He.frT h.get? (asY h.get? n)) p).1 (He.cT (He.frT h.get? (asY h.get? n)) p).2 = true ∧ ∃ o, h.get? (He.cT (He.frT h.get? (asY h.get? n)) p).2 = some o ∧ He.emptyTab o = true := fun p hp => by
    obtain ⟨z1, z2⟩ := He.ba (List.all_eq_true.mp tb p hp)
    refine ⟨z1, ?_⟩
    revert z2
    cases h.get? (He.cT (He.frT h.get? (asY h.get? n)) p).2 with
    | none => exact fun z => by cases z
    | some o => exact fun z => ⟨o, rfl, z⟩
  refine ⟨⟨e1, m, fun p hp => (look p hp).1, fun p hp => ?_, fun p hp => ?_⟩, e3⟩
  · obtain ⟨_, o, q, z⟩ := look p hp
    exact He.frT_none q z
  · obtain ⟨_, o, q, z⟩ := look p hp
    rw [q, He.emptyTab_eq z]
def hookY (n : Nat) (fa : List He.Fa) (fn : List He.DefD) (tf : List He.Defn) (ex : PySem.W.Frag → Bool) (ss : List ((PySem.W.Frag → Addr) × Stmt)) : PySem.W.Hook where
  α := AlY
  obs := fun s => obsY n fa fn tf ex ss s.heap.get?
  val := fun w => valY fn ss w
  says := fun w h => ∃ K : PySem.W.Frag, K.In h ∧ SaysY fa fn tf ex ss w h K
  of := fun _ _ e => ⟨_, He.frT_in, saysY_of e⟩
  keeps := fun _ _ _ ⟨K, hK, c⟩ k => ⟨K, PySem.W.Frag.In.keeps hK k, ⟨⟨c.x.t, c.x.more, c.x.hd, c.x.out, fun p hp => k _ _ (c.x.empty p hp)⟩, c.s⟩⟩
theorem obsY_eq {n : Nat} {fa : List He.Fa} {fn : List He.DefD} {tf : List He.Defn} {ex : PySem.W.Frag → Bool} {ss : List ((PySem.W.Frag → Addr) × Stmt)} {g : Addr → Option Obj} {s : Shared} (h : ∀ a, g a = s.heap.get? a) : obsY n fa fn tf ex ss g = (hookY n fa fn tf ex ss).obs s := by
  have e : g = s.heap.get? := funext h
  rw [e] <;> rfl
theorem sup_binds {K : PySem.W.Frag} {name qual : Str} {params : Arguments} {body : List Stmt} {scope : Scope} {dV kV doc pm cdv ct : Value} {an : Option Addr} {cc : Addr} {ps : List Str}
    (h : ∀ us : List Value, us.length = ps.length → bindArgs (PySem.W.ksFn name qual params body scope dV kV doc pm an cdv ct cc) ⟨us, []⟩ = pure (ps.zip us)) : Binds K (PySem.W.ksFn name qual params body scope dV kV doc pm an cdv ct cc) ps [] := fun s us _ hl => by
  rw [List.append_nil] at hl ⊢
  exact .of_eq (h us hl)
end Own

set_option Elab.async false
set_option linter.all false
set_option maxRecDepth 100000
set_option maxHeartbeats 4000000
/-! Places joined by streets: ways, classes, their least places. -/
namespace Own
abbrev Join := List (Nat × Nat)
inductive Way (ps : Join) : Nat → Nat → Prop
  | stay (a : Nat) : Way ps a a
  | fwd {a b c : Nat} : Way ps a b → (b, c) ∈ ps → Way ps a c
  | bwd {a b c : Nat} : Way ps a b → (c, b) ∈ ps → Way ps a c
section
variable {ps qs : Join} {m a b c x y : Nat}
theorem Way.trans (h : Way ps a b) (k : Way ps b c) : Way ps a c := by
  induction k with
  | stay => exact h
  | fwd _ e ih => exact .fwd ih e
  | bwd _ e ih => exact .bwd ih e
theorem Way.symm (h : Way ps a b) : Way ps b a := by
  induction h with
  | stay => exact .stay _
  | fwd _ e ih => exact (Way.bwd (.stay _) e).trans ih
  | bwd _ e ih => exact (Way.fwd (.stay _) e).trans ih
theorem Way.mono (s : ∀ q ∈ ps, q ∈ qs) (h : Way ps a b) : Way qs a b := by
  induction h with
  | stay => exact .stay _
  | fwd _ e ih => exact .fwd ih (s _ e)
  | bwd _ e ih => exact .bwd ih (s _ e)
theorem Way.lt (s : ∀ q ∈ ps, q.1 < m ∧ q.2 < m) (ha : a < m) (h : Way ps a b) : b < m := by
  induction h with
  | stay => exact ha
  | fwd _ e ih => exact (s _ e).2
  | bwd _ e ih => exact (s _ e).1
/-- what holds the begin and is closed holds all that is come to -/
theorem Way.closed {S : Nat → Prop} (h : Way ps a b) (ha : S a) (cl : ∀ q ∈ ps, (S q.1 ↔ S q.2)) : S b := by
  induction h with
  | stay => exact ha
  | fwd _ e ih => exact (cl _ e).mp ih
  | bwd _ e ih => exact (cl _ e).mpr ih
/-- a street more -/
theorem way_snoc : Way (ps ++ [(a, b)]) x y ↔ Way ps x y ∨ (Way ps x a ∧ Way ps b y) ∨ (Way ps x b ∧ Way ps a y) := by
  have up : ∀ {u v}, Way ps u v → Way (ps ++ [(a, b)]) u v := fun h => h.mono fun q hq => List.mem_append_left _ hq
  have e : (a, b) ∈ ps ++ [(a, b)] := List.mem_append_right _ (List.mem_singleton.mpr rfl)
  constructor
  · intro h
    induction h with
    | stay => exact .inl (.stay _)
    | @fwd v w _ e ih =>
      rcases List.mem_append.mp e with e | e
      · rcases ih with h | ⟨h1, h2⟩ | ⟨h1, h2⟩
        · exact .inl (.fwd h e)
        · exact .inr (.inl ⟨h1, .fwd h2 e⟩)
        · exact .inr (.inr ⟨h1, .fwd h2 e⟩)
      · cases List.mem_singleton.mp e
        rcases ih with h | ⟨h1, h2⟩ | ⟨h1, h2⟩
        · exact .inr (.inl ⟨h, .stay _⟩)
        · exact .inr (.inl ⟨h1, .stay _⟩)
        · exact .inl h1
    | @bwd v w _ e ih =>
      rcases List.mem_append.mp e with e | e
      · rcases ih with h | ⟨h1, h2⟩ | ⟨h1, h2⟩
        · exact .inl (.bwd h e)
        · exact .inr (.inl ⟨h1, .bwd h2 e⟩)
        · exact .inr (.inr ⟨h1, .bwd h2 e⟩)
      · cases List.mem_singleton.mp e
        rcases ih with h | ⟨h1, h2⟩ | ⟨h1, h2⟩
        · exact .inr (.inr ⟨h, .stay _⟩)
        · exact .inl h1
        · exact .inr (.inr ⟨h1, .stay _⟩)
  · rintro (h | ⟨h1, h2⟩ | ⟨h1, h2⟩)
    · exact up h
    · exact (Way.fwd (up h1) e).trans (up h2)
    · exact (Way.bwd (up h1) e).trans (up h2)
/-- only what is in the list counts -/
theorem way_same (s : ∀ q, q ∈ ps ↔ q ∈ qs) : Way ps a b ↔ Way qs a b := ⟨fun h => h.mono fun q hq => (s q).mp hq, fun h => h.mono fun q hq => (s q).mpr hq⟩
/-- a street between places that are joined joins no more -/
theorem way_add (h : Way ps a b) (s : ∀ q ∈ qs, q = (a, b) ∨ q ∈ ps) (w : Way qs x y) : Way ps x y := by
  induction w with
  | stay => exact .stay _
  | fwd _ e ih =>
    rcases s _ e with z | z
    · cases z
      exact ih.trans h
    · exact .fwd ih z
  | bwd _ e ih =>
    rcases s _ e with z | z
    · cases z
      exact ih.trans h.symm
    · exact .bwd ih z
end
/-! ### the least of a class -/
def Least (ps : Join) (h : Nat) : Prop := ∀ q, q < h → ¬ Way ps q h
theorem least_of (ps : Join) : ∀ p : Nat, ∃ h, h ≤ p ∧ Way ps h p ∧ Least ps h := fun p => by
  induction p using Nat.strongRecOn with
  | ind p ih =>
    by_cases l : Least ps p
    · exact ⟨p, Nat.le_refl _, .stay _, l⟩
    · have z : ∃ q, q < p ∧ Way ps q p := Classical.byContradiction fun n => l fun q hq w => n ⟨q, hq, w⟩
      obtain ⟨q, hq, w⟩ := z
      obtain ⟨h, h1, h2, h3⟩ := ih q hq
      exact ⟨h, Nat.le_trans h1 (Nat.le_of_lt hq), h2.trans w, h3⟩
theorem least_uniq {ps : Join} {h k : Nat} (a : Least ps h) (b : Least ps k) (w : Way ps h k) : h = k := by
  rcases Nat.lt_trichotomy h k with l | e | l
  · exact (b _ l w).elim
  · exact e
  · exact (a _ l w.symm).elim
noncomputable def cls (m : Nat) (ps : Join) (p : Nat) : List Nat := (List.range m).filter fun q => @decide (Way ps p q) (Classical.propDecidable _)
noncomputable def heads (m : Nat) (ps : Join) : List Nat := (List.range m).filter fun p => @decide (Least ps p) (Classical.propDecidable _)
noncomputable def partsOf (m : Nat) (ps : Join) : List (List Nat) := (heads m ps).map (cls m ps)
section
variable {ps qs : Join} {m a b p q x y : Nat}
theorem mem_cls : q ∈ cls m ps p ↔ q < m ∧ Way ps p q := by
  unfold cls
  rw [List.mem_filter, List.mem_range]
  exact and_congr_right fun _ => @decide_eq_true_iff _ (Classical.propDecidable _)
theorem mem_heads : p ∈ heads m ps ↔ p < m ∧ Least ps p := by
  unfold heads
  rw [List.mem_filter, List.mem_range]
  exact and_congr_right fun _ => @decide_eq_true_iff _ (Classical.propDecidable _)
theorem range_up (m : Nat) : (List.range m).Pairwise (· < ·) := List.pairwise_lt_range
theorem cls_up : (cls m ps p).Pairwise (· < ·) := (range_up m).filter _
theorem heads_up : (heads m ps).Pairwise (· < ·) := (range_up m).filter _
theorem cls_same (w : Way ps p q) : cls m ps p = cls m ps q := by
  unfold cls
  refine List.filter_congr fun x _ => ?_
  have e : Way ps p x ↔ Way ps q x := ⟨fun h => w.symm.trans h, fun h => w.trans h⟩
  exact decide_eq_decide.mpr e
theorem cls_len : (cls m ps p).length ≤ m := by
  have z := List.length_filter_le (fun q => @decide (Way ps p q) (Classical.propDecidable _)) (List.range m)
  rw [List.length_range] at z
  exact z
theorem heads_len : (heads m ps).length ≤ m := by
  have z := List.length_filter_le (fun p => @decide (Least ps p) (Classical.propDecidable _)) (List.range m)
  rw [List.length_range] at z
  exact z
theorem parts_len : (partsOf m ps).length ≤ m := by
  unfold partsOf
  rw [List.length_map]
  exact heads_len
theorem parts_congr (e : ∀ x y, Way ps x y ↔ Way qs x y) : partsOf m ps = partsOf m qs := by
  have h1 : heads m ps = heads m qs := List.filter_congr fun x _ => by
    have z : Least ps x ↔ Least qs x := ⟨fun l q hq w => l q hq ((e _ _).mpr w), fun l q hq w => l q hq ((e _ _).mp w)⟩
    exact decide_eq_decide.mpr z
  have h2 : cls m ps = cls m qs := funext fun p => List.filter_congr fun x _ => by
    exact decide_eq_decide.mpr (e p x)
  unfold partsOf
  rw [h1, h2]
theorem filter_less {α : Type} {l : List α} {f g : α → Bool} (i : ∀ x ∈ l, f x = true → g x = true) (s : ∃ x ∈ l, g x = true ∧ f x = false) : (l.filter f).length < (l.filter g).length := by
  induction l with
  | nil =>
    obtain ⟨x, hx, _⟩ := s
    cases hx
  | cons a l ih =>
    have le : (l.filter f).length ≤ (l.filter g).length := by
      rw [← List.countP_eq_length_filter, ← List.countP_eq_length_filter]
      exact List.countP_mono_left fun x hx => i x (List.mem_cons_of_mem _ hx)
    obtain ⟨x, hx, gx, fx⟩ := s
    rcases List.mem_cons.mp hx with rfl | hx
    · rw [List.filter_cons, List.filter_cons, if_pos gx, if_neg (by rw [fx]; exact Bool.false_ne_true), List.length_cons]
      omega
    · have lt := ih (fun y hy => i y (List.mem_cons_of_mem _ hy)) ⟨x, hx, gx, fx⟩
      rw [List.filter_cons, List.filter_cons]
      by_cases fa : f a = true
      · rw [if_pos fa, if_pos (i a List.mem_cons_self fa), List.length_cons, List.length_cons]
        omega
      · rw [if_neg fa]
        by_cases ga : g a = true
        · rw [if_pos ga, List.length_cons]
          omega
        · rw [if_neg ga]
          exact lt
/-- a street whose ends are not joined without it: a part fewer with it -/
theorem parts_fewer (h : ¬ Way ps a b) (s : ∀ q, q ∈ qs ↔ q = (a, b) ∨ q ∈ ps) (ha : a < m) (hb : b < m) : (partsOf m qs).length < (partsOf m ps).length := by
  unfold partsOf
  rw [List.length_map, List.length_map]
  have up : ∀ {x y}, Way ps x y → Way qs x y := fun w => w.mono fun q hq => (s q).mpr (.inr hq)
  have ab : Way qs a b := .fwd (.stay _) ((s _).mpr (.inl rfl))
  refine filter_less (fun x _ hx => ?_) ?_
  · have l : Least qs x := (@decide_eq_true_iff _ (Classical.propDecidable _)).mp hx
    exact (@decide_eq_true_iff _ (Classical.propDecidable _)).mpr fun q hq w => l q hq (up w)
  · obtain ⟨la, a1, a2, a3⟩ := least_of ps a
    obtain ⟨lb, b1, b2, b3⟩ := least_of ps b
    have ne : la ≠ lb := fun e => h (a2.symm.trans (e ▸ b2))
    have both : Way qs la lb := ((up a2).trans ab).trans (up b2.symm)
    rcases Nat.lt_or_gt_of_ne ne with l | l
    · refine ⟨lb, List.mem_range.mpr (by omega), (@decide_eq_true_iff _ (Classical.propDecidable _)).mpr b3, (@decide_eq_false_iff_not _ (Classical.propDecidable _)).mpr fun z => z _ l both⟩
    · refine ⟨la, List.mem_range.mpr (by omega), (@decide_eq_true_iff _ (Classical.propDecidable _)).mpr a3, (@decide_eq_false_iff_not _ (Classical.propDecidable _)).mpr fun z => z _ l both.symm⟩
theorem parts_grow (s : ∀ q, q ∈ qs ↔ q = (a, b) ∨ q ∈ ps) (ha : a < m) (hb : b < m) : (partsOf m qs).length < (partsOf m ps).length ↔ ¬ Way ps a b := by
  refine ⟨fun l w => ?_, fun h => parts_fewer h s ha hb⟩
  have e : partsOf m ps = partsOf m qs := parts_congr fun x y => ⟨fun h => h.mono fun q hq => (s q).mpr (.inr hq), fun h => way_add w (fun q hq => (s q).mp hq) h⟩
  rw [e] at l
  omega
end
/-! ### lists in order -/
theorem up_uniq : ∀ {l1 l2 : List Nat}, l1.Pairwise (· < ·) → l2.Pairwise (· < ·) → (∀ x, x ∈ l1 ↔ x ∈ l2) → l1 = l2
  | [], [], _, _, _ => rfl
  | [], b :: l2, _, _, e => absurd ((e b).mpr List.mem_cons_self) (by simp)
  | a :: l1, [], _, _, e => absurd ((e a).mp List.mem_cons_self) (by simp)
  | a :: l1, b :: l2, p1, p2, e => by
    rw [List.pairwise_cons] at p1 p2
    have hab : a = b := by
      rcases List.mem_cons.mp ((e a).mp List.mem_cons_self) with h | h
      · exact h
      · rcases List.mem_cons.mp ((e b).mpr List.mem_cons_self) with k | k
        · exact k.symm
        · have := p2.1 a h
          have := p1.1 b k
          omega
    subst hab
    refine congrArg (a :: ·) (up_uniq p1.2 p2.2 fun x => ?_)
    constructor
    · intro h
      rcases List.mem_cons.mp ((e x).mp (List.mem_cons_of_mem _ h)) with k | k
      · have := p1.1 x h
        omega
      · exact k
    · intro h
      rcases List.mem_cons.mp ((e x).mpr (List.mem_cons_of_mem _ h)) with k | k
      · have := p2.1 x h
        omega
      · exact k
theorem nodup_le : ∀ {m : Nat} {xs : List Nat}, xs.Nodup → (∀ x ∈ xs, x < m) → xs.length ≤ m
  | 0, xs, _, h => by
    cases xs with
    | nil => exact Nat.le_refl _
    | cons a r => exact absurd (h a List.mem_cons_self) (by omega)
  | m + 1, xs, nd, h => by
    have ih := nodup_le (m := m) (xs := xs.erase m) (nd.erase _) (fun x hx => by
      have z := (nd.mem_erase_iff).mp hx
      have := h x z.2
      omega)
    have z : xs.length ≤ (xs.erase m).length + 1 := by
      by_cases hm : m ∈ xs
      · rw [List.length_erase_of_mem hm]
        omega
      · rw [List.erase_of_not_mem hm]
        omega
    omega
/-- sorted whole numbers that are these places -/
theorem sorted_cls {S : List Nat} {ys : List Int} {l : List Nat} (p : ys.Perm (S.map fun (q : Nat) => (q : Int))) (up : ys.Pairwise (· ≤ ·)) (nd : S.Nodup) (hl : l.Pairwise (· < ·)) (e : ∀ x, x ∈ S ↔ x ∈ l) : ys = l.map fun (q : Nat) => (q : Int) := by
  have nn : ∀ y ∈ ys, ∃ k : Nat, y = (k : Int) := fun y hy => by
    obtain ⟨k, _, rfl⟩ := List.mem_map.mp (p.mem_iff.mp hy)
    exact ⟨k, rfl⟩
  have back : ∃ zs : List Nat, ys = zs.map fun (q : Nat) => (q : Int) := by
    clear p up
    induction ys with
    | nil => exact ⟨[], rfl⟩
    | cons y ys ih =>
      obtain ⟨k, hk⟩ := nn y List.mem_cons_self
      obtain ⟨zs, hz⟩ := ih fun z hz => nn z (List.mem_cons_of_mem _ hz)
      exact ⟨k :: zs, by rw [hk, hz]; rfl⟩
  obtain ⟨zs, rfl⟩ := back
  have inj : Function.Injective (fun (q : Nat) => (q : Int)) := fun a b h => Int.ofNat.inj h
  have mem : ∀ x, x ∈ zs ↔ x ∈ S := fun x => by
    have z := p.mem_iff (a := (x : Int))
    constructor
    · intro h
      obtain ⟨k, hk, ek⟩ := List.mem_map.mp (z.mp (List.mem_map.mpr ⟨x, h, rfl⟩))
      have : k = x := Int.ofNat.inj ek
      exact this ▸ hk
    · intro h
      obtain ⟨k, hk, ek⟩ := List.mem_map.mp (z.mpr (List.mem_map.mpr ⟨x, h, rfl⟩))
      have : k = x := Int.ofNat.inj ek
      exact this ▸ hk
  have ndz : zs.Nodup := by
    have z : (S.map fun (q : Nat) => (q : Int)).Nodup := by
      rw [List.nodup_iff_pairwise_ne, List.pairwise_map]
      exact (List.nodup_iff_pairwise_ne.mp nd).imp fun h k => h (Int.ofNat.inj k)
    have y := (p.nodup_iff).mpr z
    rw [List.nodup_iff_pairwise_ne, List.pairwise_map] at y
    exact List.nodup_iff_pairwise_ne.mpr (y.imp fun h k => h (by rw [k]))
  have upz : zs.Pairwise (· < ·) := by
    rw [List.pairwise_map] at up
    have y := List.nodup_iff_pairwise_ne.mp ndz
    exact (up.and y).imp fun ⟨h, k⟩ => by omega
  rw [up_uniq upz hl fun x => (mem x).trans (e x)]
end Own

set_option Elab.async false
set_option linter.all false
set_option maxRecDepth 100000
set_option maxHeartbeats 4000000
/-! Steps, and the walks that are found by them: pure. -/
namespace Own
open L2
def natV (q : Nat) : V := .int (q : Int)
def ends (rows : List TRow) : Join := rows.map (·.2)
def normR (r : TRow) : TRow := (r.1, min r.2.1 r.2.2, max r.2.1 r.2.2)
def flipR (r : TRow) : TRow := (r.1, r.2.2, r.2.1)
theorem flipR_flipR (r : TRow) : flipR (flipR r) = r := rfl
theorem normR_flipR (r : TRow) : normR (flipR r) = normR r := by
  show (r.1, min r.2.2 r.2.1, max r.2.2 r.2.1) = (r.1, min r.2.1 r.2.2, max r.2.1 r.2.2)
  rw [Nat.min_comm, Nat.max_comm]
inductive Led (ws : Join) : Nat → Nat → Prop
  | stay (a : Nat) : Led ws a a
  | go {a b c : Nat} : Led ws a b → (b, c) ∈ ws → Led ws a c
section
variable {ws ws' : Join} {m a b c : Nat}
theorem Led.trans (h : Led ws a b) (k : Led ws b c) : Led ws a c := by
  induction k with
  | stay => exact h
  | go _ e ih => exact .go ih e
theorem Led.closed {S : Nat → Prop} (h : Led ws a b) (ha : S a) (cl : ∀ q ∈ ws, S q.1 → S q.2) : S b := by
  induction h with
  | stay => exact ha
  | go _ e ih => exact cl _ e ih
theorem Led.mono (s : ∀ q ∈ ws, q ∈ ws') (h : Led ws a b) : Led ws' a b := by
  induction h with
  | stay => exact .stay _
  | go _ e ih => exact .go ih (s _ e)
theorem Led.way (h : Led ws a b) : Way ws a b := by
  induction h with
  | stay => exact .stay _
  | go _ e ih => exact .fwd ih e
end
/-- both ways -/
def bothWays (rows : List TRow) : List TRow := rows.flatMap fun r => [r, flipR r]
theorem both_nil : bothWays [] = [] := rfl
theorem both_cons (r : TRow) (rows : List TRow) : bothWays (r :: rows) = r :: flipR r :: bothWays rows := rfl
theorem both_snoc (r : TRow) (rows : List TRow) : bothWays (rows ++ [r]) = bothWays rows ++ [r, flipR r] := by
  unfold bothWays
  rw [List.flatMap_append]
  rfl
theorem mem_both {rows : List TRow} {x : TRow} : x ∈ bothWays rows ↔ x ∈ rows ∨ flipR x ∈ rows := by
  unfold bothWays
  rw [List.mem_flatMap]
  constructor
  · rintro ⟨r, hr, h⟩
    simp only [List.mem_cons, List.not_mem_nil, or_false] at h
    rcases h with h | h
    · exact .inl (h ▸ hr)
    · right
      rw [h, flipR_flipR]
      exact hr
  · rintro (h | h)
    · exact ⟨x, h, List.mem_cons_self ..⟩
    · exact ⟨flipR x, h, by rw [flipR_flipR]; simp⟩
theorem both_len (rows : List TRow) : (bothWays rows).length = 2 * rows.length := by
  induction rows with
  | nil => rfl
  | cons r rows ih =>
    rw [both_cons, List.length_cons, List.length_cons, List.length_cons, ih]
    omega
theorem both_flip {rows : List TRow} {x : TRow} (h : x ∈ bothWays rows) : flipR x ∈ bothWays rows := by
  rw [mem_both] at h ⊢
  rw [flipR_flipR]
  exact h.symm
theorem both_filter (p : Nat → Bool) (rows : List TRow) : (bothWays rows).filter (fun x => p x.1) = bothWays (rows.filter fun x => p x.1) := by
  induction rows with
  | nil => rfl
  | cons r rows ih =>
    rw [both_cons]
    have f : (flipR r).1 = r.1 := rfl
    cases h : p r.1 with
    | true => rw [List.filter_cons, if_pos h, List.filter_cons, if_pos (by rw [f]; exact h), ih, List.filter_cons, if_pos h, both_cons]
    | false => rw [List.filter_cons, if_neg (by rw [h]; exact Bool.false_ne_true), List.filter_cons, if_neg (by rw [f, h]; exact Bool.false_ne_true), ih, List.filter_cons, if_neg (by rw [h]; exact Bool.false_ne_true)]
theorem both_filterP (p : Nat → Bool) (rows : List TRow) (h : ∀ r ∈ rows, p r.2.1 = p r.2.2) : (bothWays rows).filter (fun x => p x.2.1) = bothWays (rows.filter fun x => p x.2.1) := by
  induction rows with
  | nil => rfl
  | cons r rows ih =>
    have ih := ih fun x hx => h x (List.mem_cons_of_mem _ hx)
    have hr := h r (List.mem_cons_self ..)
    rw [both_cons]
    have f : (flipR r).2.1 = r.2.2 := rfl
    cases e : p r.2.1 with
    | true => rw [List.filter_cons, if_pos e, List.filter_cons, if_pos (by rw [f, ← hr]; exact e), ih, List.filter_cons, if_pos e, both_cons]
    | false => rw [List.filter_cons, if_neg (by rw [e]; exact Bool.false_ne_true), List.filter_cons, if_neg (by rw [f, ← hr, e]; exact Bool.false_ne_true), ih, List.filter_cons, if_neg (by rw [e]; exact Bool.false_ne_true)]
theorem both_in {m : Nat} {rows : List TRow} (inm : ∀ q ∈ ends rows, q.1 < m ∧ q.2 < m) : ∀ q ∈ ends (bothWays rows), q.1 < m ∧ q.2 < m := fun q hq => by
  obtain ⟨x, hx, rfl⟩ := List.mem_map.mp hq
  rcases mem_both.mp hx with h | h
  · exact inm _ (List.mem_map.mpr ⟨x, h, rfl⟩)
  · have z := inm _ (List.mem_map.mpr ⟨flipR x, h, rfl⟩)
    exact ⟨z.2, z.1⟩
theorem led_both {rows : List TRow} {a b : Nat} : Led (ends (bothWays rows)) a b ↔ Way (ends rows) a b := by
  constructor
  · intro h
    induction h with
    | stay => exact .stay _
    | @go b c _ e ih =>
      obtain ⟨x, hx, ex⟩ := List.mem_map.mp e
      have e1 : x.2.1 = b := congrArg Prod.fst ex
      have e2 : x.2.2 = c := congrArg Prod.snd ex
      rcases mem_both.mp hx with h | h
      · exact .fwd ih (List.mem_map.mpr ⟨x, h, ex⟩)
      · exact .bwd ih (List.mem_map.mpr ⟨flipR x, h, by rw [← e1, ← e2]; rfl⟩)
  · intro h
    induction h with
    | stay => exact .stay _
    | @fwd b c _ e ih =>
      obtain ⟨x, hx, ex⟩ := List.mem_map.mp e
      exact .go ih (List.mem_map.mpr ⟨x, mem_both.mpr (.inl hx), ex⟩)
    | @bwd b c _ e ih =>
      obtain ⟨x, hx, ex⟩ := List.mem_map.mp e
      have e1 : x.2.1 = c := congrArg Prod.fst ex
      have e2 : x.2.2 = b := congrArg Prod.snd ex
      exact .go ih (List.mem_map.mpr ⟨flipR x, mem_both.mpr (.inr hx), by rw [← e1, ← e2]; rfl⟩)
/-! ### walks as they are found -/
abbrev Walks := List (Nat × List TRow)
def wk (W : Walks) : List Nat := W.map (·.1)
def walkTo (W : Walks) (p : Nat) : List TRow := ((W.find? fun e => decide (e.1 = p)).map (·.2)).getD []
def stepW (a : Nat) (S : Walks × List Nat) (st : TRow) : Walks × List Nat :=
  if st.2.1 = a ∧ st.2.2 ∉ wk S.1 then (S.1 ++ [(st.2.2, walkTo S.1 a ++ [st])], S.2 ++ [st.2.2]) else S
def bfs (steps : List TRow) : Nat → Walks × List Nat → Walks
  | 0, S => S.1
  | _ + 1, (W, []) => W
  | n + 1, (W, a :: q) => bfs steps n (steps.foldl (stepW a) (W, q))
def walksF (steps : List TRow) (p : Nat) : Walks := bfs steps 16 ([(p, [])], [p])
theorem bfs_nil (steps : List TRow) (n : Nat) (W : Walks) : bfs steps n (W, []) = W := by
  cases n <;> rfl
theorem walkTo_mem {W : Walks} {k : Nat} (h : k ∈ wk W) : (k, walkTo W k) ∈ W := by
  obtain ⟨e, he, ek⟩ := List.mem_map.mp h
  unfold walkTo
  cases z : W.find? fun e => decide (e.1 = k) with
  | none =>
    have := List.find?_eq_none.mp z e he
    rw [decide_eq_true ek] at this
    exact (this rfl).elim
  | some x =>
    have h1 := List.find?_some z
    have h2 := List.mem_of_find?_eq_some z
    have h3 : x.1 = k := of_decide_eq_true h1
    show (k, x.2) ∈ W
    rw [← h3]
    exact h2
/-- how the walks hang together -/
inductive Tree (steps : List TRow) (p : Nat) : Walks → Prop
  | root : Tree steps p [(p, [])]
  | add {W : Walks} {a : Nat} {w0 : List TRow} {st : TRow} : Tree steps p W → (a, w0) ∈ W → st ∈ steps → st.2.1 = a → st.2.2 ∉ wk W → Tree steps p (W ++ [(st.2.2, w0 ++ [st])])
theorem wk_snoc (W : Walks) (k : Nat) (w : List TRow) : wk (W ++ [(k, w)]) = wk W ++ [k] := by
  unfold wk
  rw [List.map_append]
  rfl
/-- steps in a row from a to c -/
def Run : Nat → List TRow → Nat → Prop
  | a, [], c => a = c
  | a, st :: w, c => st.2.1 = a ∧ Run st.2.2 w c
theorem run_app : ∀ {u v : List TRow} {a c : Nat}, Run a (u ++ v) c ↔ ∃ b, Run a u b ∧ Run b v c
  | [], v, a, c => by
    constructor
    · exact fun h => ⟨a, rfl, h⟩
    · rintro ⟨b, h1, h2⟩
      have e : a = b := h1
      rw [List.nil_append, e]
      exact h2
  | st :: u, v, a, c => by
    show (st.2.1 = a ∧ Run st.2.2 (u ++ v) c) ↔ _
    rw [run_app]
    constructor
    · rintro ⟨e, b, h1, h2⟩
      exact ⟨b, ⟨e, h1⟩, h2⟩
    · rintro ⟨b, ⟨e, h1⟩, h2⟩
      exact ⟨e, b, h1, h2⟩
theorem run_snoc {u : List TRow} {st : TRow} {a : Nat} (h : Run a u st.2.1) : Run a (u ++ [st]) st.2.2 := run_app.mpr ⟨_, h, rfl, rfl⟩
theorem run_led : ∀ {w : List TRow} {a c : Nat}, Run a w c → Led (ends w) a c
  | [], a, c, h => by
    have e : a = c := h
    rw [e]
    exact .stay _
  | st :: w, a, c, ⟨e, h⟩ => by
    have l1 : Led (ends (st :: w)) a st.2.2 := .go (.stay a) (by rw [← e]; exact List.mem_cons_self ..)
    exact l1.trans ((run_led h).mono fun q hq => List.mem_cons_of_mem _ hq)
/-- each place on a run is led to, and leads on -/
theorem run_via : ∀ {w : List TRow} {a c : Nat}, Run a w c → ∀ st ∈ w, Led (ends w) a st.2.2 ∧ Led (ends w) st.2.2 c
  | st :: w, a, c, ⟨e, h⟩, x, hx => by
    have up : ∀ {u v : Nat}, Led (ends w) u v → Led (ends (st :: w)) u v := fun l => l.mono fun q hq => List.mem_cons_of_mem _ hq
    have l1 : Led (ends (st :: w)) a st.2.2 := .go (.stay a) (by rw [← e]; exact List.mem_cons_self ..)
    rcases List.mem_cons.mp hx with z | z
    · rw [z]
      exact ⟨l1, up (run_led h)⟩
    · have ih := run_via h x z
      exact ⟨l1.trans (up ih.1), up ih.2⟩
section
variable {steps : List TRow} {p m : Nat} {W : Walks}
theorem tree_root (T : Tree steps p W) : p ∈ wk W := by
  induction T with
  | root => exact List.mem_cons_self ..
  | add _ _ _ _ _ ih => rw [wk_snoc]; exact List.mem_append_left _ ih
theorem tree_nd (T : Tree steps p W) : (wk W).Nodup := by
  induction T with
  | root => exact (List.nodup_cons.mpr ⟨List.not_mem_nil, List.nodup_nil⟩)
  | add _ _ _ _ n ih =>
    rw [wk_snoc, List.nodup_append]
    refine ⟨ih, (List.nodup_cons.mpr ⟨List.not_mem_nil, List.nodup_nil⟩), fun x hx y hy e => ?_⟩
    rw [List.mem_singleton] at hy
    rw [hy] at e
    rw [e] at hx
    exact n hx
theorem tree_led (T : Tree steps p W) : ∀ k ∈ wk W, Led (ends steps) p k := by
  induction T with
  | root =>
    intro k hk
    rw [List.mem_singleton.mp hk]
    exact .stay _
  | @add W a w0 st T ha hs e n ih =>
    intro k hk
    rw [wk_snoc] at hk
    rcases List.mem_append.mp hk with z | z
    · exact ih k z
    · rw [List.mem_singleton.mp z]
      exact .go (ih a (List.mem_map.mpr ⟨_, ha, rfl⟩)) (List.mem_map.mpr ⟨st, hs, by rw [← e]⟩)
theorem tree_run (T : Tree steps p W) : ∀ e ∈ W, Run p e.2 e.1 ∧ (∀ st ∈ e.2, st ∈ steps ∧ st.2.1 ∈ wk W ∧ st.2.2 ∈ wk W) ∧ e.2.length < W.length := by
  induction T with
  | root =>
    intro e he
    rw [List.mem_singleton.mp he]
    exact ⟨rfl, fun st hst => absurd hst List.not_mem_nil, Nat.zero_lt_one⟩
  | @add W a w0 st T ha hs e n ih =>
    intro x hx
    have len : (W ++ [(st.2.2, w0 ++ [st])]).length = W.length + 1 := by rw [List.length_append]; rfl
    rcases List.mem_append.mp hx with z | z
    · obtain ⟨h1, h2, h3⟩ := ih x z
      refine ⟨h1, fun y hy => ?_, by omega⟩
      obtain ⟨g1, g2, g3⟩ := h2 y hy
      rw [wk_snoc]
      exact ⟨g1, List.mem_append_left _ g2, List.mem_append_left _ g3⟩
    · rw [List.mem_singleton.mp z]
      obtain ⟨h1, h2, h3⟩ := ih _ ha
      refine ⟨run_snoc (by rw [e]; exact h1), fun y hy => ?_, ?_⟩
      · rw [wk_snoc]
        rcases List.mem_append.mp hy with y1 | y1
        · obtain ⟨g1, g2, g3⟩ := h2 y y1
          exact ⟨g1, List.mem_append_left _ g2, List.mem_append_left _ g3⟩
        · rw [List.mem_singleton.mp y1]
          exact ⟨hs, List.mem_append_left _ (by rw [e]; exact List.mem_map.mpr ⟨_, ha, rfl⟩), List.mem_append_right _ (List.mem_singleton.mpr rfl)⟩
      · show (w0 ++ [st]).length < _
        rw [len, List.length_append]
        show w0.length + 1 < _
        have : w0.length < W.length := h3
        omega
/-- where a number has one street, no street is walked twice -/
theorem tree_nums (T : Tree steps p W) (u : ∀ x ∈ steps, ∀ y ∈ steps, x.1 = y.1 → y = x ∨ y = flipR x) : ∀ e ∈ W, (e.2.map (·.1)).Nodup := by
  induction T with
  | root =>
    intro e he
    rw [List.mem_singleton.mp he]
    exact List.nodup_nil
  | @add W a w0 st T ha hs e n ih =>
    intro x hx
    rcases List.mem_append.mp hx with z | z
    · exact ih x z
    · rw [List.mem_singleton.mp z]
      show ((w0 ++ [st]).map (·.1)).Nodup
      rw [List.map_append, List.nodup_append]
      refine ⟨ih _ ha, (List.nodup_cons.mpr ⟨List.not_mem_nil, List.nodup_nil⟩), fun i hi j hj ij => ?_⟩
      obtain ⟨y, hy, ey⟩ := List.mem_map.mp hi
      have hj : j = st.1 := List.mem_singleton.mp hj
      have g := (tree_run T _ ha).2.1 y hy
      rcases u y g.1 st hs (by rw [ey, ij, hj]) with s | s
      · rw [s] at n
        exact n g.2.2
      · rw [s] at n
        exact n g.2.1
/-- the search, in the midst -/
structure BfsI (steps : List TRow) (p m : Nat) (S : Walks × List Nat) : Prop where
  tree : Tree steps p S.1
  lt : ∀ k ∈ wk S.1, k < m
  sub : ∀ a ∈ S.2, a ∈ wk S.1
theorem bfsI_len {S : Walks × List Nat} (I : BfsI steps p m S) : S.1.length ≤ m := by
  have z := nodup_le (tree_nd I.tree) I.lt
  unfold wk at z
  rw [List.length_map] at z
  exact z
theorem stepW_yes {a : Nat} {S : Walks × List Nat} {st : TRow} (h1 : st.2.1 = a) (h2 : st.2.2 ∉ wk S.1) : stepW a S st = (S.1 ++ [(st.2.2, walkTo S.1 a ++ [st])], S.2 ++ [st.2.2]) := if_pos ⟨h1, h2⟩
theorem stepW_no {a : Nat} {S : Walks × List Nat} {st : TRow} (h : ¬ (st.2.1 = a ∧ st.2.2 ∉ wk S.1)) : stepW a S st = S := if_neg h
theorem stepW_I {S : Walks × List Nat} {a : Nat} {st : TRow} (I : BfsI steps p m S) (ha : a ∈ wk S.1) (hs : st ∈ steps) (b : st.2.2 < m) : BfsI steps p m (stepW a S st) := by
  by_cases h : st.2.1 = a ∧ st.2.2 ∉ wk S.1
  · rw [stepW_yes h.1 h.2]
    refine ⟨.add I.tree (walkTo_mem ha) hs h.1 h.2, fun k hk => ?_, fun x hx => ?_⟩
    · rw [wk_snoc] at hk
      rcases List.mem_append.mp hk with z | z
      · exact I.lt k z
      · rw [List.mem_singleton.mp z]
        exact b
    · show x ∈ wk (S.1 ++ [_])
      rw [wk_snoc]
      rcases List.mem_append.mp hx with z | z
      · exact List.mem_append_left _ (I.sub x z)
      · exact List.mem_append_right _ z
  · rw [stepW_no h]
    exact I
theorem stepW_keep {S : Walks × List Nat} {a : Nat} {st : TRow} {k : Nat} (h : k ∈ wk S.1) : k ∈ wk (stepW a S st).1 := by
  by_cases c : st.2.1 = a ∧ st.2.2 ∉ wk S.1
  · rw [stepW_yes c.1 c.2]
    show k ∈ wk (S.1 ++ [_])
    rw [wk_snoc]
    exact List.mem_append_left _ h
  · rw [stepW_no c]
    exact h
theorem stepW_put {S : Walks × List Nat} {a : Nat} {st : TRow} (h : st.2.1 = a) : st.2.2 ∈ wk (stepW a S st).1 := by
  by_cases c : st.2.2 ∈ wk S.1
  · exact stepW_keep c
  · rw [stepW_yes h c]
    show _ ∈ wk (S.1 ++ [_])
    rw [wk_snoc]
    exact List.mem_append_right _ (List.mem_singleton.mpr rfl)
/-- as much as the walks grow, so much longer those that wait; what is new waits -/
theorem stepW_size (S : Walks × List Nat) (a : Nat) (st : TRow) : (stepW a S st).2.length + S.1.length = S.2.length + (stepW a S st).1.length := by
  by_cases c : st.2.1 = a ∧ st.2.2 ∉ wk S.1
  · rw [stepW_yes c.1 c.2, List.length_append, List.length_append]
    show S.2.length + 1 + S.1.length = S.2.length + (S.1.length + 1)
    omega
  · rw [stepW_no c]
theorem stepW_new {S : Walks × List Nat} {a : Nat} {st : TRow} {k : Nat} (h : k ∈ wk (stepW a S st).1) : k ∈ wk S.1 ∨ k ∈ (stepW a S st).2 := by
  by_cases c : st.2.1 = a ∧ st.2.2 ∉ wk S.1
  · rw [stepW_yes c.1 c.2] at h ⊢
    have h : k ∈ wk (S.1 ++ [_]) := h
    rw [wk_snoc] at h
    rcases List.mem_append.mp h with z | z
    · exact .inl z
    · exact .inr (List.mem_append_right _ z)
  · rw [stepW_no c] at h
    exact .inl h
theorem stepW_wait {S : Walks × List Nat} {a : Nat} {st : TRow} {k : Nat} (h : k ∈ S.2) : k ∈ (stepW a S st).2 := by
  by_cases c : st.2.1 = a ∧ st.2.2 ∉ wk S.1
  · rw [stepW_yes c.1 c.2]
    exact List.mem_append_left _ h
  · rw [stepW_no c]
    exact h
/-- all steps of one place -/
structure FoldW (steps : List TRow) (p m a : Nat) (xs : List TRow) (S S' : Walks × List Nat) : Prop where
  I : BfsI steps p m S'
  keep : ∀ k ∈ wk S.1, k ∈ wk S'.1
  size : S'.2.length + S.1.length = S.2.length + S'.1.length
  new : ∀ k ∈ wk S'.1, k ∈ wk S.1 ∨ k ∈ S'.2
  wait : ∀ k ∈ S.2, k ∈ S'.2
  put : ∀ st ∈ xs, st.2.1 = a → st.2.2 ∈ wk S'.1
theorem fold_W {a : Nat} : ∀ {xs : List TRow} {S : Walks × List Nat}, BfsI steps p m S → a ∈ wk S.1 → (∀ st ∈ xs, st ∈ steps ∧ st.2.2 < m) → FoldW steps p m a xs S (xs.foldl (stepW a) S)
  | [], S, I, _, _ => ⟨I, fun _ h => h, rfl, fun _ h => .inl h, fun _ h => h, fun _ h => absurd h List.not_mem_nil⟩
  | x :: xs, S, I, ha, h => by
    have hx := h x (List.mem_cons_self ..)
    have F := fold_W (xs := xs) (S := stepW a S x) (stepW_I I ha hx.1 hx.2) (stepW_keep ha) fun st hst => h st (List.mem_cons_of_mem _ hst)
    have sz := stepW_size S a x
    have sz2 := F.size
    refine ⟨F.I, fun k hk => F.keep k (stepW_keep hk), ?_, fun k hk => ?_, fun k hk => F.wait k (stepW_wait hk), fun st hst e => ?_⟩
    · show (xs.foldl (stepW a) (stepW a S x)).2.length + S.1.length = _
      show _ = S.2.length + (xs.foldl (stepW a) (stepW a S x)).1.length
      omega
    · rcases F.new k hk with z | z
      · rcases stepW_new z with y | y
        · exact .inl y
        · exact .inr (F.wait k y)
      · exact .inr z
    · rcases List.mem_cons.mp hst with z | z
      · rw [z] at e ⊢
        exact F.keep _ (stepW_put e)
      · exact F.put st z e
theorem bfs_spec (inm : ∀ q ∈ ends steps, q.1 < m ∧ q.2 < m) : ∀ {n : Nat} {S : Walks × List Nat}, BfsI steps p m S → (∀ k ∈ wk S.1, k ∉ S.2 → ∀ st ∈ steps, st.2.1 = k → st.2.2 ∈ wk S.1) → S.2.length + (m - S.1.length) ≤ n →
    BfsI steps p m (bfs steps n S, []) ∧ ∀ k ∈ wk (bfs steps n S), ∀ st ∈ steps, st.2.1 = k → st.2.2 ∈ wk (bfs steps n S)
  | n, (W, []), I, cl, _ => by
    rw [bfs_nil]
    exact ⟨I, fun k hk => cl k hk List.not_mem_nil⟩
  | 0, (W, a :: q), I, cl, h => by
    have h : (q.length + 1) + (m - W.length) ≤ 0 := h
    omega
  | n + 1, (W, a :: q), I, cl, h => by
    have h : (q.length + 1) + (m - W.length) ≤ n + 1 := h
    have ha : a ∈ wk W := I.sub a (List.mem_cons_self ..)
    have I0 : BfsI steps p m (W, q) := ⟨I.tree, I.lt, fun x hx => I.sub x (List.mem_cons_of_mem _ hx)⟩
    have F := fold_W (a := a) (xs := steps) I0 ha fun st hst => ⟨hst, (inm _ (List.mem_map.mpr ⟨st, hst, rfl⟩)).2⟩
    have sz : (steps.foldl (stepW a) (W, q)).2.length + W.length = q.length + (steps.foldl (stepW a) (W, q)).1.length := F.size
    have l1 : (steps.foldl (stepW a) (W, q)).1.length ≤ m := bfsI_len F.I
    have l0 : W.length ≤ m := bfsI_len I0
    refine bfs_spec inm (n := n) F.I (fun k hk hn st hst e => ?_) (by omega)
    rcases F.new k hk with z | z
    · by_cases ka : k = a
      · exact F.put st hst (e.trans ka)
      · refine F.keep _ (cl k z (fun y => ?_) st hst e)
        rcases List.mem_cons.mp y with y | y
        · exact ka y
        · exact hn (F.wait k y)
    · exact (hn z).elim
theorem bfs_start (hp : p < m) : BfsI steps p m ([(p, [])], [p]) := ⟨.root, fun k hk => by rw [List.mem_singleton.mp hk]; exact hp, fun a ha => ha⟩
theorem walks_spec (inm : ∀ q ∈ ends steps, q.1 < m ∧ q.2 < m) (hp : p < m) (m16 : m ≤ 16) : Tree steps p (walksF steps p) ∧ (∀ k, k ∈ wk (walksF steps p) ↔ k < m ∧ Led (ends steps) p k) := by
  have z := bfs_spec inm (n := 16) (bfs_start (steps := steps) hp) (fun k hk hn => (hn hk).elim) (by show 1 + (m - 1) ≤ 16; omega)
  refine ⟨z.1.tree, fun k => ⟨fun hk => ⟨z.1.lt k hk, tree_led z.1.tree k hk⟩, fun hk => ?_⟩⟩
  refine hk.2.closed (S := fun k => k ∈ wk (walksF steps p)) (tree_root z.1.tree) fun q hq h1 => ?_
  obtain ⟨st, hst, e⟩ := List.mem_map.mp hq
  rw [← e]
  exact z.2 _ h1 st hst (by rw [← e])
theorem walks_len (inm : ∀ q ∈ ends steps, q.1 < m ∧ q.2 < m) (hp : p < m) (m16 : m ≤ 16) : (walksF steps p).length ≤ m := by
  have z := bfs_spec inm (n := 16) (bfs_start (steps := steps) hp) (fun k hk hn => (hn hk).elim) (by show 1 + (m - 1) ≤ 16; omega)
  exact bfsI_len z.1
end
end Own

set_option Elab.async false
set_option linter.all false
set_option maxRecDepth 100000
set_option maxHeartbeats 4000000
/-! Types compared by !=. -/
namespace Own
open PySem PySem.Spec PyProof.Rows L2
theorem ne_slot {f : Str} (e : f = "__ne__") : Slot "type" f "object.__ne__" := by
  subst e
  refine Slot.of (owner := "object") (n := "__ne__") ?a ?b ?c ?d ?e ?f
  case a =>
    rw [typeLookup_type]
    rw [builtinLookup_eq_fast]
    kernel_rfl
  case f =>
    rw [isSubtype_type]
    kernel_rfl
  case e => first | exact .inl (by decide +kernel) | exact .inr (by decide +kernel)
  all_goals decide +kernel
theorem slot_eq : Slot "type" (Str.ofString "__eq__") "object.__eq__" := TypeEq.slot_type_eq
theorem ne_gives_same {X : String} (hX : ∀ s' : Shared, s'.TypeIs (.type X) "type") : Gives (Builtin.«object.__ne__» ⟨[.type X, .type X], []⟩) (.val (.bool false)) := fun prog w A R s hq => by
  unfold Builtin.«object.__ne__»
  repeat (first
    | with_reducible refine wpAny_cRoomFor_or (.inl rfl) ?_
    | (refine wpAny_bind (m := callSpecialIfBound? (.type X) (Str.ofString "__eq__") [.type X])
        (wpAny_callSpecialIfBound?_slot (hX _) slot_eq (call_gives slot_eq (hX _) F.entry_object_eq (F.args_object_eq_2 _ _) (TypeEq.object_eq_same rfl (by simp)) ?_)))
    | exact hq
    | exact wpAny_pure hq | exact wpAny_truthy_bool hq | (refine wpAny_bind (m := truthy (.bool _)) (wpAny_truthy_bool ?_))
    | wp_step)
theorem ne_gives_other {X Y : String} (hX : ∀ s' : Shared, s'.TypeIs (.type X) "type") (hne : (Value.type X == Value.type Y) = false) : Gives (Builtin.«object.__ne__» ⟨[.type X, .type Y], []⟩) (.val .notImplemented) := fun prog w A R s hq => by
  unfold Builtin.«object.__ne__»
  repeat (first
    | with_reducible refine wpAny_cRoomFor_or (.inl rfl) ?_
    | (refine wpAny_bind (m := callSpecialIfBound? (.type X) (Str.ofString "__eq__") [.type Y])
        (wpAny_callSpecialIfBound?_slot (hX _) slot_eq (call_gives slot_eq (hX _) F.entry_object_eq (F.args_object_eq_2 _ _) (TypeEq.object_eq_other rfl hne) ?_)))
    | exact hq
    | exact wpAny_pure hq
    | wp_step)
section
variable {prog : Program} {w : World} {A : Around} {E : Value → Shared → Prop} {s : Shared} {Q : Value → Shared → Prop}
theorem ne_same {a : String} (h1 : ∀ s' : Shared, s'.TypeIs (.type a) "type") (h : Q (.bool false) s) : wpAny (model prog w) A (compareOp .NotEq (.type a) (.type a)) Q E s := by
  show wpAny _ A (richCompare .NotEq _ _) Q E s
  refine wpAny_richCompare_same (T := "type") (h1 s) (h1 s) (ne_slot rfl) ?_
  exact call_gives (ne_slot (f := (cmpInfo .NotEq).2.1) rfl) (h1 s) F.cmpEntry_ne (F.cmpArgs_ne _ _) (ne_gives_same h1) ⟨(by intro e; cases e), h⟩
theorem ne_other {a b : String} (h1 : ∀ s' : Shared, s'.TypeIs (.type a) "type") (h2 : ∀ s' : Shared, s'.TypeIs (.type b) "type") (ne : a ≠ b) (h : Q (.bool true) s) : wpAny (model prog w) A (compareOp .NotEq (.type a) (.type b)) Q E s := by
  have e1 : (Value.type a == Value.type b) = false := Bool.eq_false_iff.mpr fun z => ne (Value.type.inj (beq_iff_eq.mp z))
  have e2 : (Value.type b == Value.type a) = false := Bool.eq_false_iff.mpr fun z => ne (Value.type.inj (beq_iff_eq.mp z)).symm
  show wpAny _ A (richCompare .NotEq _ _) Q E s
  have c1 := call_gives (prog := prog) (w := w) (A := A) (E := E) (s := s) (Q := fun v s1 => v = .notImplemented ∧ wpAny (model prog w) A (call (.builtin "object.__ne__") [.type b, .type a]) (fun v s2 => v = .notImplemented ∧ Q (.bool true) s2) E s1) (ne_slot (f := "__ne__") rfl) (h1 s) F.cmpEntry_ne (F.cmpArgs_ne _ _) (ne_gives_other h1 e1)
    ⟨rfl, call_gives (ne_slot (f := "__ne__") rfl) (h2 s) F.cmpEntry_ne (F.cmpArgs_ne _ _) (ne_gives_other h2 e2) ⟨rfl, h⟩⟩
  unfold richCompare
  rw [(h1 s).oneThing_none]
  refine wpAny_holding ?_
  refine wpAny_bind (wpAny_cRoomFor_or (.inl rfl) ?_)
  rw [cmpInfo_NotEq]
  dsimp only
  refine wpAny_bind (wpAny_typeOf (h1 s) ?_)
  refine wpAny_bind (wpAny_typeOf (h2 s) ?_)
  have tt : (Value.type "type" != Value.type "type") = false := by simp
  rw [tt]
  simp only [Bool.false_eq_true, if_false, pure_bind, Bool.not_false, if_true]
  refine wpAny_bind (m := tryCompare _ _ _) (wpAny_tryCompare_declines (h1 s) (ne_slot rfl) (wpAny_mono c1 (fun v s1 z => ⟨z.1, ?_⟩) fun _ _ x => x))
  refine wpAny_bind (m := tryCompare _ _ _) (wpAny_tryCompare_declines (h2 s1) (ne_slot rfl) (wpAny_mono z.2 (fun v s2 y => ⟨y.1, ?_⟩) fun _ _ x => x))
  refine wpAny_bind (wpAny_rule ?_)
  have e9 : isSame (Value.type a) (Value.type b) = pure false := by rw [isSame_plain rfl, e1]
  exact wpAny_bind (wpAny_of_eq e9 (wpAny_pure y.2))
end
section
variable {X : Cx}
theorem op_neTy : OpR X (compareOp .NotEq) (fun x y H Q => ∃ m n, x = .ty m ∧ y = .ty n ∧ metaOk m ∧ metaOk n ∧ Q (.bl (decide (m ≠ n))) H) := by
  rintro pins s σ H _ _ a b Q I ra rb ⟨m, n, rfl, rfl, hm, hn, q⟩
  obtain rfl : a = .type m := ra
  obtain rfl : b = .type n := rb
  rcases Decidable.em (m = n) with rfl | ne
  · exact ne_same hm (fin_bl I q (by simp))
  · exact ne_other hm hn ne (fin_bl I q (decide_eq_true ne))
end
end Own
namespace Own
open PySem PySem.Spec PyProof.Rows L2
section
variable {X : Cx}
/-- not in a tuple of data -/
def rNotInDT (K : PySem.W.Frag) : R2 := fun x y H Q => ∃ d ds, Dp K H x d ∧ Dp K H y (.tuple ds) ∧ SeqAt.shaped d = true ∧ SeqAt.shaped (.tuple ds) = true ∧ Q (.bl (!ds.any fun z => PyData.eqv z d)) H
theorem op_notInDT (hu : X.A.units + 65 < cLine) : OpR X (compareOp .NotIn) (rNotInDT X.K) := by
  rintro pins s σ H thing row v u Q I rv ru ⟨d, ds, dv, dt, sv, st, q⟩
  have read1 := Dp.reads I d thing v dv rv
  have read2 := Dp.reads I (.tuple ds) row u dt ru
  exact SeqAt.notIn_tuple_reads read2.choose_spec read1.choose_spec (SeqAt.canLay_of_shaped st) (SeqAt.canLay_of_shaped sv) (room_in_shaped sv hu) (fin_bl I q rfl)
end
end Own


set_option Elab.async false
set_option linter.all false
set_option maxRecDepth 100000
set_option maxHeartbeats 4000000
/-! try: body / except (A, B, C) as n: raise X(..) from n. -/
namespace Own
open PySem PySem.Spec PyProof.Rows L2 HotX
/-- a field set anew: the record, and all other places as they were -/
theorem RecAt.put {h : Heap} {a : Addr} {o : Obj} {vs : Array Value} (r : RecAt h a o vs) (i : Nat) (v : Value) :
    RecAt (h.update a (Obj.mapFields (·.setIfInBounds i v))) a (o.mapFields (·.setIfInBounds i v)) (vs.setIfInBounds i v) :=
  have d := Obj.data_mapFields r.fl (·.setIfInBounds i v)
  ⟨Heap.get?_update_self _ r.at_ (Obj.isFreed_of_fields d), d⟩
section
variable {prog : Program} {w : World} {A : Around} {E : Value → Shared → Prop} {s : Shared} {a : Addr} {o : Obj} {vs : Array Value}
theorem RecAt.noClass (r : RecAt s.heap a o vs) {Q : Bool → Shared → Prop} (q : Q false s) : wpAny (model prog w) A (isType (.ref a)) Q E s := by
  unfold isType loadHead
  refine wpAny_bind (wpAny_loadPart r.at_ ?_)
  rw [r.fl]
  exact wpAny_pure q
/-- an exception is what it is raised as -/
theorem RecAt.itself (r : RecAt s.heap a o vs) (sub : PySem.W.Looks (model prog w) s.heap (isSubtype o.cls (.type "BaseException")) true) (m : String) {Q : Value → Shared → Prop} (q : Q (.ref a) s) :
    wpAny (model prog w) A (excFromValue (.ref a) m) Q E s := by
  unfold excFromValue isExcClass
  refine wpAny_bind (wpAny_bind (r.noClass ?_))
  rw [if_neg Bool.false_ne_true]
  refine wpAny_pure ?_
  rw [if_neg Bool.false_ne_true]
  refine wpAny_bind ((r.ty.andThen sub).here ?_)
  rw [if_pos rfl]
  exact wpAny_pure q
/-- the end of a raise, of an exception that no frame has seen: it flies, the handled one its context -/
theorem RecAt.flies {x1 : Addr} {Q : Flow → Shared → Prop} (r : RecAt s.heap a o vs) (fresh : vs[1]? = some .none) (room : 2 < vs.size) (ofType : PySem.W.Looks (model prog w) s.heap (typeOf o.cls) (.type "type")) (hot : HotAt A x1 s.heap) (ne : x1 ≠ a)
    (out : E (.ref a) { s with heap := s.heap.update a (Obj.mapFields (·.setIfInBounds 2 (.ref x1))) }) :
    wpAny (model prog w) A (do
      let e ← raisedInstance (.ref a)
      setFlight e none
      raiseNew e : Sem Flow) Q E s := by
  unfold raisedInstance
  refine wpAny_bind (wpAny_bind (r.ty.here (wpAny_bind (ofType.here ?_))))
  rw [if_pos (beq_self_eq_true _)]
  refine wpAny_pure ?_
  unfold setFlight
  refine wpAny_bind (wpAny_bind (wpAny_field r.at_ r.fl fresh ?_))
  rw [if_neg (by decide)]
  exact wpAny_pure (raiseNew_hot hot ne r.at_ r.fl room out)
end
/-- the heap behind «from c»: the cause, and that it is told -/
def causeFrom (h : Heap) (a : Addr) (c : Value) : Heap := (h.update a (Obj.mapFields (·.setIfInBounds 3 c))).update a (Obj.mapFields (·.setIfInBounds 4 (.bool true)))
theorem causeFrom_other {h : Heap} {a b : Addr} {c : Value} (ne : a ≠ b) : (causeFrom h a c).get? b = h.get? b :=
  (Heap.get?_update_other _ _ ne).trans (Heap.get?_update_other _ _ ne)
/-- what a raise asks of the new exception a, where x1 is handled and named as the cause -/
structure Raisable (prog : Program) (w : World) (A : Around) (E : Value → Shared → Prop) (c : Sem Value) (x1 : Addr) (a : Addr) (s : Shared) : Prop where
  ex : ∃ (o : Obj) (vs : Array Value) (o1 : Obj) (vs1 : Array Value), RecAt s.heap a o vs ∧ vs[1]? = some .none ∧ 4 < vs.size ∧ RecAt s.heap x1 o1 vs1 ∧
    PySem.W.Looks (model prog w) s.heap (isSubtype o.cls (.type "BaseException")) true ∧ PySem.W.Looks (model prog w) s.heap (isSubtype o1.cls (.type "BaseException")) true ∧ PySem.W.Looks (model prog w) (causeFrom s.heap a (.ref x1)) (typeOf o.cls) (.type "type")
  ne : x1 ≠ a
  hot : HotAt A x1 s.heap
  named : ∀ Q : Value → Shared → Prop, Q (.ref x1) s → wpAny (model prog w) A c Q E s
  out : E (.ref a) { s with heap := (causeFrom s.heap a (.ref x1)).update a (Obj.mapFields (·.setIfInBounds 2 (.ref x1))) }
theorem raise_from {prog : Program} {w : World} {A : Around} {E : Value → Shared → Prop} {env : Env} {s : Shared} {x c : Sem Value} {Q : Flow → Shared → Prop} {x1 : Addr}
    (h : wpAny (model prog w) A x (fun v s₁ => ∃ a, v = .ref a ∧ Raisable prog w A E c x1 a s₁) E s) : wpAny (model prog w) A (raiseStmt env (some x) (some c)) Q E s := by
  unfold raiseStmt
  dsimp only
  refine wpAny_bind (wpAny_mono h (fun v s1 hv => ?_) fun _ _ z => z)
  obtain ⟨a, rfl, R⟩ := hv
  obtain ⟨o, vs, o1, vs1, ra, fresh, room, r1, subA, sub1, ofType⟩ := R.ex
  have r3 := ra.put 3 (.ref x1)
  have r4 := r3.put 4 (.bool true)
  have size3 : 3 < vs.size := by omega
  have size4 : 4 < (vs.setIfInBounds 3 (Value.ref x1)).size := by rw [Array.size_setIfInBounds]; exact room
  have size2 : 2 < ((vs.setIfInBounds 3 (Value.ref x1)).setIfInBounds 4 (Value.bool true)).size := by rw [Array.size_setIfInBounds, Array.size_setIfInBounds]; omega
  have fresh4 : ((vs.setIfInBounds 3 (Value.ref x1)).setIfInBounds 4 (Value.bool true))[1]? = some .none := set_other (by decide) (set_other (by decide) fresh)
  have cls4 : ((o.mapFields (·.setIfInBounds 3 (.ref x1))).mapFields (·.setIfInBounds 4 (.bool true))).cls = o.cls := by simp only [Obj.cls_mapFields]
  have hot4 : HotAt A x1 (causeFrom s1.heap a (.ref x1)) := by
    obtain ⟨q1, o2, v2, q2, q3⟩ := R.hot
    exact ⟨q1, o2, v2, (causeFrom_other R.ne.symm).trans q2, q3⟩
  have last := RecAt.flies (prog := prog) (w := w) (A := A) (E := E) (Q := Q) (s := { s1 with heap := causeFrom s1.heap a (.ref x1) }) r4 fresh4 size2 (by rw [cls4]; exact ofType) hot4 R.ne R.out
  refine wpAny_bind (wpAny_holding (R.named _ (wpAny_bind (wpAny_pure ?_))))
  dsimp only
  refine wpAny_bind (wpAny_holding (ra.itself subA _ ?_))
  rw [if_neg (show ¬ ((Value.ref x1 == Value.none) = true) by simp)]
  have cause : ∀ {Q' : Value → Shared → Prop}, Q' (.ref x1) s1 → wpAny (model prog w) A (holding [.ref a] (excFromValue (.ref x1) "exception causes must derive from BaseException")) Q' E s1 := fun q => wpAny_holding (r1.itself sub1 _ q)
  first
  | refine wpAny_bind (cause (wpAny_bind (wpAny_setField ra.at_ ra.fl size3 (wpAny_bind (wpAny_setField r3.at_ r3.fl size4 ?_)))))
  | refine wpAny_bind (cause (wpAny_bind (wpAny_bind (wpAny_setField ra.at_ ra.fl size3 (wpAny_bind (wpAny_setField r3.at_ r3.fl size4 ?_))))))
  refine wpAny_bind (RecAt.noClass (s := { s1 with heap := causeFrom s1.heap a (.ref x1) }) r4 ?_)
  rw [if_neg Bool.false_ne_true]
  exact last

/-! ### such an exception made, raised from the name of the handled one -/
section
variable {X : Cx} {C : Addr} {bmB : List Value} {B newId initId : String}
/-- X('m'): the record it makes has its six fields -/
theorem pmk5_own {x m : Str} {j : Nat} {p p2 pos : Pos} (F : ExcBaseFacts B newId initId bmB) (q : PySem.W.excIn X.K C bmB newId = true) (gC : X.mg x = some (.ref C)) (kC : PySem.W.keepIn X.K (.ref C) = true) (r : Raises X (.ref C)) (hg : Gl X x)
    (hdb : (x == ("__debug__" : Str)) = false := by decide) : L2H.PMk5 X (.Call (.Name x p) [.Constant (.str m) j p2] [] pos) (fun _ H Q => Q (.ref C) none H) := by
  intro pins s σ H Q I wish
  have told : PA X [.Constant (.str m) j p2] (tCons (tC (.str m)) tNil) := pa_cons pe_str pa_nil
  have args := told.run pos pins s σ H (fun vs H1 => vs = [V.str m] ∧ H1 = H) I ⟨rfl, rfl⟩
  refine wpAny_Call_Name_kw (ld_glob I hg gC (PySem.W.callWith_K (h₀ := X.base) I.ok.mod.kin kC (thn args ?_)) hdb)
  rintro us s1 ⟨vs, H1, I1, rel, rfl, rfl⟩
  obtain ⟨u, rfl⟩ : ∃ u, us = [u] := by
    cases rel with
    | cons _ t =>
      cases t
      exact ⟨_, rfl⟩
  obtain ⟨_, _, _, _, _, _, _, _, _, _, _, _, _, _, _, _, _, objC, names, noInit, mro⟩ := exc_obj I1.kIn q
  exact ⟨I1.kIn, wpAny_call_exc_subT F mro objC names noInit (fun _ e made => L2H.mk_of5 I1 made r wish (I1.hok.gone made.new)) (by rw [sizeLine_eq]; exact (by decide : 1 ≤ 16777216))⟩
end
/-- the exception that this context handles: a, of the class c1 -/
def HandlesC (X : Cx) (a : Addr) (c1 : Value) : Prop := X.A.handled = some (.ref a) ∧ ∃ (o : Obj) (d : Option Addr) (vs : Array Value), (a, o) ∈ X.pn ∧ L2N.Zn c1 d o ∧ o.data = .fields vs
theorem ps_raiseFrom {X : Cx} {W : WX} {e : Expr} {t : L2.St → Hp → XK → Prop} {i : Nat} {n : Str} {x1 : Addr} {c1 : Value} {np pos : Pos} (hc : HandlesC X x1 c1) (tk : L2.Takes X W) (he : L2H.PMk5 X e t) (hi : X.N[i]? = some n) (hln : X.env.kindOf n = some .local)
    (hd1 : (n == ("__debug__" : Str)) = false := by decide) :
    PS X (.Raise (some e) (some (.Name n np)) pos) (fun _ σ H => σ[i]? = some (some (.ref x1)) ∧ PySem.W.subIn X.K c1 (.type "BaseException") = some true ∧ t σ H fun cls d H' => W cls d σ H') := by
  refine ⟨fun pins s σ H D I ⟨slot, sub1, wish⟩ => ?_⟩
  obtain ⟨handled, o1, d1, vs1, pinned, kind1, fl1⟩ := hc
  show wpAny _ _ (do standAt pos; raiseStmt X.env (some (do let v ← eval e X.env; standAt pos; pure v)) (some (do let v ← eval (.Name n np) X.env; standAt pos; pure v))) _ _ _
  refine wpAny_bind (wpAny_standAt (raise_from (x1 := x1) (wpAny_bind (wpAny_mono (he pins s σ H _ I wish) (fun u s1 made => wpAny_bind (wpAny_standAt (wpAny_pure ?_))) fun _ _ z => z))))
  obtain ⟨⟨a, o, vs, sI, H', cls, d, rfl, J, stays, anew, at_, kind, fl, fresh, un, os, bare, ofExc, out⟩, six⟩ := made
  have apart : ∀ {b u}, sI.heap.get? b = some u → a ≠ b := fun q z => by
    rw [← z, anew] at q
    cases q
  have stays2 : ∀ b u, sI.heap.get? b = some u → (causeFrom s1.heap a (.ref x1)).get? b = some u := fun b u q => (causeFrom_other (apart q)).trans (stays b u q)
  have old1 : sI.heap.get? x1 = some o1 := (J.pin (x1, o1) (List.mem_append_left _ pinned)).1
  have here : RecAt s1.heap a o vs := ⟨at_, fl⟩
  have here1 : RecAt s1.heap x1 o1 vs1 := ⟨stays _ _ old1, fl1⟩
  have r4 := (here.put 3 (.ref x1)).put 4 (.bool true)
  have J1 : Inv X pins σ H' s1 := J.landed (B := sI.heap) (fun _ _ q _ => q) stays (Heap.UpToSlots.of_keeps stays) os bare
  have r5 := r4.put 2 (.ref x1)
  refine ⟨a, rfl, ⟨o, vs, o1, vs1, here, fresh, six a o vs rfl at_ fl, here1, by rw [kind.1]; exact (ofExc _ _ (J.kIn.keeps stays)).1, by rw [kind1.1]; exact PySem.W.looks_subIn J1.kIn sub1, by rw [kind.1]; exact (ofExc _ _ (J.kIn.keeps stays2)).2⟩,
    (apart old1).symm, ⟨handled, o1, vs1, here1.at_, fl1, kind1.2.2 vs1 fl1⟩, fun Q' q' => ?_, tk _ _ (XE.new J (fun b u q => ?_) anew r5.at_ ?_ r5.fl ?_ un os bare out)⟩
  · obtain ⟨m, isNs, look⟩ := J1.loc
    obtain ⟨u, ru, l⟩ := look i n (.ref x1) hi slot (.inl hln)
    cases ru
    rcases l with ⟨lo, hm⟩ | ⟨k | k, _⟩
    · exact wpAny_bind (wpAny_Name (wpAny_loadName_local J1.ok.kind lo isNs hm (wpAny_bind (wpAny_standAt (wpAny_pure q')))) hd1)
    · exact nomatch hln.symm.trans k
    · exact nomatch hln.symm.trans k
  · exact (Heap.get?_update_other _ _ (apart q)).trans (stays2 b u q)
  · exact ⟨by simp only [Obj.cls_mapFields]; exact kind.1, by simp only [HandSPX.dict_mapFields]; exact kind.2.1⟩
  · exact set_other (by decide) (set_other (by decide) (set_other (by decide) fresh))

/-- two records that nobody leans on are left out of the heap -/
theorem leave_out {X : Cx} {σ : L2.St} {H : Hp} {s : Shared} {a T : Addr} {o oT : Obj} {vs ts : Array Value} (I : Inv X [] σ H s) (ra : RecAt s.heap a o vs) (rT : RecAt s.heap T oT ts) (ua : H a = none) (uT : H T = none)
    (old : ∀ b u, X.s_0.heap.get? b = some u → b ≠ a ∧ b ≠ T) (pins : ∀ p ∈ X.pn, p.1 ≠ a ∧ p.1 ≠ T) :
    ∃ G : Heap, Inv X [] σ H { s with heap := G } ∧ ∀ b u, G.get? b = some u ↔ (s.heap.get? b = some u ∧ b ≠ a ∧ b ≠ T) := by
  obtain ⟨G, keep, drop⟩ := restrict s.heap fun b => decide (b ≠ a ∧ b ≠ T)
  have key : ∀ b u, G.get? b = some u ↔ (s.heap.get? b = some u ∧ b ≠ a ∧ b ≠ T) := fun b u => by
    by_cases hb : b ≠ a ∧ b ≠ T
    · rw [keep b (decide_eq_true hb)]
      exact ⟨fun e => ⟨e, hb⟩, fun e => e.1⟩
    · rw [drop b (decide_eq_false hb)]
      exact ⟨fun e => (nomatch e), fun e => absurd e.2 hb⟩
  refine ⟨G, I.less (fun b u e => ((key b u).mp e).1) (fun b u n1 n2 e => (key b u).mpr ⟨e, n1, n2⟩) ⟨o, vs, ra.at_, ra.fl⟩ ⟨oT, ts, rT.at_, rT.fl⟩ ua uT old fun p hp => pins p ?_, key⟩
  rw [List.append_nil] at hp
  exact hp
section
variable {X : Cx} {i : Nat} {n : Str} {pos : Pos} {Wout : WX} {NB : Value → Shared → Prop}
/-- the context of the suite, whose exceptions go out by way of its end -/
abbrev suiteF (X : Cx) (a : Addr) (pn : List (Addr × Obj)) (n : Str) (pos : Pos) (NB : Value → Shared → Prop) : Cx :=
  { X with A := X.A.mark (some (.ref a)), calm := false, pn := pn, xe := AsSuiteRaised (model X.prog X.w) (X.A.mark (some (.ref a))) X.env n pos NB }
theorem suiteF_of {a : Addr} {pn pn' : List (Addr × Obj)} {σ : L2.St} {H : Hp} {s : Shared} (I : Inv (X.suite a pn) pn' σ H s) : Inv (suiteF X a pn n pos NB) pn' σ H s := by
  have k := I.ok
  exact ⟨⟨k.mod, k.kind, k.glob, k.blt, k.above, k.inj, k.has, k.cab, fun z => (nomatch z), k.frames, k.stk, k.exf, k.bs, k.bsz, k.noex, k.exfs, k.funs, k.frf⟩, I.os, I.bare, I.base, I.loc, I.cell, I.free, I.freeC, I.pin, I.hok, I.len⟩
/-- the suite's state as one of the def around, with pins of our choice -/
theorem repin {a : Addr} {pn0 pn' pn : List (Addr × Obj)} {σ : L2.St} {H : Hp} {s : Shared} (ok : X.Ok) (J : Inv (suiteF X a pn0 n pos NB) pn' σ H s) (h : ∀ p ∈ pn, PinFacts X H s p) : Inv (X.tr pn X.xe) [] σ H s :=
  ⟨ok.toTry _ _, J.os, J.bare, J.base, J.loc, J.cell, J.free, J.freeC, fun p hp => h p (by simpa using hp), J.hok, J.len⟩
theorem unpin {pn : List (Addr × Obj)} {σ : L2.St} {H : Hp} {s : Shared} (ok : X.Ok) (J : Inv (X.tr pn X.xe) [] σ H s) (sub : ∀ p ∈ X.pn, p ∈ pn) : Inv X [] σ H s :=
  ⟨ok, J.os, J.bare, J.base, J.loc, J.cell, J.free, J.freeC, fun p hp => J.pin p (by simpa using sub p (by simpa using hp)), J.hok, J.len⟩
/-- an exception that this frame has noted flies on -/
theorem goes_on {A' : Around} {B : Heap} {σ : L2.St} {H : Hp} {s : Shared} {a T : Addr} {cls : Value} {d : Option Addr} (hs : X.stack = X.env :: X.outer) (hf : X.env.frame = some X.env.locals) (tk : Takes X Wout) (hnb : ∀ u s, X.xe u s → NB u s) (I : Inv X [] σ H { s with heap := B })
    (held : HandSPX.HeldZ (PySem.W.hideAll B (frs X.stack)) (X.env :: X.outer) a (Zc cls d) X.env.locals s.heap) (sub : ∀ b u, B.get? b = some u → s.heap.get? b = some u) (un : H a = none) (bare : AllBare s.gens) (wish : Wout cls d σ H) :
    wpAny (model X.prog X.w) A' (passOn "try.except-as" (.ref a) X.env : Sem Flow) (fun _ _ => False) NB s := by
  obtain ⟨_, _, _, o, vs, T, oT, ts, at_, _, fl, traced, _⟩ := id held
  have end_ : wpAny (model X.prog X.w) A' (setFlight (.ref a) X.env.frame) (fun _ s2 => wpAny (model X.prog X.w) A' (throw (.ref a) : Sem Flow) (fun _ _ => False) NB s2) NB s := by
    rw [hf]
    refine HandSPX.setFlight_onZ held fun h2 held2 up2 => wpAny_throw (hnb _ _ (tk _ _ ⟨a, PySem.W.hideAll B (frs X.stack), { s with heap := B }, [], σ, H, cls, d, rfl, I, fun b u e off => PySem.W.hideAll_get _ e off,
      (Heap.UpToSlots.of_keeps sub).trans up2, .inr (.inr ?_), un, rfl, bare, wish⟩))
    rw [hs]
    rw [← hs] at held2 ⊢
    exact held2
  unfold PySem.passOn
  refine wpAny_bind (wpAny_field at_ fl traced ?_)
  rw [if_neg (fun z => by simp at z)]
  first
    | exact wpAny_bind (wpAny_pure (wpAny_bind end_))
    | exact wpAny_bind end_
/-- the suite's exceptions go out by way of its end -/
theorem suite_out {a : Addr} {pn0 : List (Addr × Obj)} (hs : X.stack = X.env :: X.outer) (hf : X.env.frame = some X.env.locals) (hex : X.ex = []) (ok : X.Ok) (hN : X.N.Nodup) (hi : X.N[i]? = some n) (hln : X.env.kindOf n = some .local) (tk : Takes X Wout)
    (hp0 : ∀ p ∈ X.pn, p ∈ pn0) (hnb : ∀ u s, X.xe u s → NB u s) : Takes (suiteF X a pn0 n pos NB) (fun cls d σ H => Wout cls d (σ.set i none) H) := by
  rintro _ s' ⟨e, B, sI, ps, σ, H, cls, d, rfl, J, ground, upto, sky, un, os, bare, wish⟩
  have frames : (X.A.mark (some (.ref a))).frames = some (X.env :: X.outer) := (show X.A.frames = _ from ok.frames).trans (congrArg some hs)
  rw [show (suiteF X a pn0 n pos NB).stack = X.env :: X.outer from hs] at sky
  -- what is done behind the note
  have noted : ∀ h1, HandSPX.HeldZ B (X.env :: X.outer) e (Zc cls d) X.env.locals h1 → s'.heap.UpToSlots h1 →
      wpAny (model X.prog X.w) (X.A.mark (some (.ref a))) (do bindName X.env n .none; unbindBehindTheSuite X.env n pos)
        (fun _ s₂ => wpAny (model X.prog X.w) (X.A.mark (some (.ref a))) (passOn "try.except-as" (.ref e) X.env : Sem Flow) (fun _ _ => False) NB s₂)
        (fun y s₂ => wpAny (model X.prog X.w) (X.A.mark (some (.ref a))) (setFlight (.ref e) none) (fun _ s₃ => NB y s₃) NB s₂) { s' with heap := h1 } := by
    intro h1 held up1
    have J1 := J.landed (s' := { s' with heap := h1 }) ground held.1 (upto.trans up1) os bare
    obtain ⟨_, newE, ff, o, vs, T, oT, ts, atE, kind, flE, traced, newT, neT, atT, flT, flight⟩ := id held
    have rE : RecAt h1 e o vs := ⟨atE, flE⟩
    have rT : RecAt h1 T oT ts := ⟨atT, flT⟩
    have unT : H T = none := (J.inGround ground).gone newT
    have offE := rE.off ff
    have offT := rT.off ff
    have here := repin (pn := (e, o) :: (T, oT) :: X.pn) ok J1 fun p hp => by
      rcases List.mem_cons.mp hp with z | hp
      · exact z ▸ RecAt.pin (s := { s' with heap := h1 }) rE un hf offE
      · rcases List.mem_cons.mp hp with z | hp
        · exact z ▸ RecAt.pin (s := { s' with heap := h1 }) rT unT hf offT
        · exact J1.pin p (List.mem_append_left _ (hp0 p hp))
    refine gone_ok (X := X.tr ((e, o) :: (T, oT) :: X.pn) X.xe) here hN hi hln fun s2 there => ?_
    have pinE := there.pin (e, o) (List.mem_append_left _ List.mem_cons_self)
    have pinT := there.pin (T, oT) (List.mem_append_left _ (List.mem_cons_of_mem _ List.mem_cons_self))
    have rE2 : RecAt s2.heap e o vs := ⟨pinE.1, flE⟩
    have rT2 : RecAt s2.heap T oT ts := ⟨pinT.1, flT⟩
    have J2 := unpin ok there fun p hp => List.mem_cons_of_mem _ (List.mem_cons_of_mem _ hp)
    have apart : ∀ b u, sI.heap.get? b = some u → b ≠ e ∧ b ≠ T := fun b u q => by
      by_cases hb : b ∈ frs (X.env :: X.outer)
      · exact ⟨fun z => offE (z ▸ hb), fun z => offT (z ▸ hb)⟩
      · have q2 := ground b u q (by rw [show (suiteF X a pn0 n pos NB).stack = X.env :: X.outer from hs]; exact hb)
        exact ⟨fun z => (by rw [z, newE] at q2; cases q2), fun z => (by rw [z, newT] at q2; cases q2)⟩
    obtain ⟨G, JG, key⟩ := leave_out J2 rE2 rT2 un unT (fun b u q => by
      obtain ⟨u2, q2⟩ := J.base.there b u q (by rw [hex]; exact fun z => nomatch z)
      exact apart b u2 q2) fun p hp => apart p.1 p.2 (J.pin p (List.mem_append_left _ (hp0 p hp))).1
    have hidden : ∀ b, (b = e ∨ b = T) → (PySem.W.hideAll G (frs X.stack)).get? b = none := fun b hb => by
      cases q : (PySem.W.hideAll G (frs X.stack)).get? b with
      | none => rfl
      | some u =>
        obtain ⟨_, n1, n2⟩ := (key b u).mp (PySem.W.of_hideAll _ q)
        exact absurd hb (fun z => z.elim n1 n2)
    have held2 : HandSPX.HeldZ (PySem.W.hideAll G (frs X.stack)) (X.env :: X.outer) e (Zc cls d) X.env.locals s2.heap := by
      refine ⟨fun b u q => ((key b u).mp (PySem.W.of_hideAll _ q)).1, hidden e (.inl rfl), ?_, o, vs, T, oT, ts, rE2.at_, kind, flE, traced, hidden T (.inr rfl), neT, rT2.at_, flT, flight⟩
      rw [← hs]
      exact funFrames_none J2.stack fun b hb => PySem.W.hideAll_none _ hb
    exact goes_on (T := T) hs hf tk hnb JG held2 (fun b u q => ((key b u).mp q).1) un J2.bare wish
  show wpAny (model X.prog X.w) _ (noteFrame (.ref e) X.env) _ _ _
  rcases sky with ⟨stays, newE, ff, o, vs, atE, kind, flE, fresh⟩ | flying | held
  · exact HandSPX.look_newZ Zc.steady frames ff hf atE stays newE flE fresh kind noted
  · exact HandSPX.looks_onZ Zc.steady frames hf flying noted
  · exact HandSPX.againZ hf held.2.2.2 (noted _ held (Heap.UpToSlots.refl _))
/-- more in the heap: it flies all the same -/
theorem flies_in {B h h' : Heap} {l : List Env} {a : Addr} {Z : Obj → Prop} (x : HandSPX.FlyingZ B l a Z h) (more : ∀ b u, h.get? b = some u → h'.get? b = some u) : HandSPX.FlyingZ B l a Z h' := by
  obtain ⟨stays, newA, ff, o, vs, T, oT, ts, at_, kind, fl, traced, newT, ne, atT, flT, none_⟩ := x
  exact ⟨fun b u q => more b u (stays b u q), newA, Heap.FunFrames.of_keeps (fun b u q _ => ⟨u, more b u q, rfl⟩) ff, o, vs, T, oT, ts, more _ _ at_, kind, fl, traced, newT, ne, more _ _ atT, flT, none_⟩
/-- what the clause of three names wishes of an exception of the body -/
def wFrom (K : PySem.W.Frag) (c1 c2 c3 : Value) (i : Nat) (ts : Addr → Value → WX → TS) (Wout : WX) : WX := fun cls d σ H =>
  ∃ b, PySem.W.exmAny K cls [c1, c2, c3] = some b ∧ (b = true → ∀ a, H a = none → ts a cls (fun cls2 d2 σ2 H2 => Wout cls2 d2 (σ2.set i none) H2) { nx := fun _ _ => False, rt := fun _ _ => False } (σ.set i (some (.ref a))) H) ∧
    (b = false → Wout cls d σ H)
end
section
variable {X : Cx} {x1 x2 x3 n : Str} {c1 c2 c3 : Value} {i k : Nat} {body suite : List Stmt} {b₀ : Stmt} {p1 p2 p3 tpos pos pos' : Pos} {tb : WX → TS} {ts : Addr → Value → WX → TS} {Wout : WX}
theorem ps_try_from (hs : X.stack = X.env :: X.outer) (hf : X.env.frame = some X.env.locals) (hex : X.ex = []) (hN : X.N.Nodup) (hi : X.N[i]? = some n) (hln : X.env.kindOf n = some .local) (hc1 : Names X x1 c1) (hc2 : Names X x2 c2) (hc3 : Names X x3 c3)
    (hpa : ∀ hd : Option Value, PassesOwnAt (model X.prog X.w) (X.A.mark hd) X.A X.env X.xe) (tk : L2.Takes X Wout)
    (hb : ∀ (W : WX) (pn : List (Addr × Obj)) (xe : Value → Shared → Prop), L2N.Takes (X.tr pn xe) W → PassesOwn (model X.prog X.w) X.A X.env xe → PSs (X.tr pn xe) body (tb W))
    (hsu : ∀ (a : Addr) (cls : Value) (pn : List (Addr × Obj)) (NB : Value → Shared → Prop) (W : WX), Takes (suiteF X a pn n pos' NB) W → HandlesC (suiteF X a pn n pos' NB) a cls → PSs (suiteF X a pn n pos' NB) (b₀ :: suite) (ts a cls W)) :
    PS X (.Try body [.ExceptHandler (some (.Tuple [.Name x1 p1, .Name x2 p2, .Name x3 p3] k tpos)) (some n) (b₀ :: suite) pos'] [] [] pos) (fun D σ H => tb (wFrom X.K c1 c2 c3 i ts Wout) D σ H) := by
  refine ⟨fun pins s σ H D I wish => wpAny_Try_except ?_⟩
  have ok := I.ok
  have frames : X.A.frames = some (X.env :: X.outer) := ok.frames.trans (congrArg some hs)
  have run := hb (wFrom X.K c1 c2 c3 i ts Wout) (X.pn ++ pins) (fun e s₁ => wpAny (model X.prog X.w) X.A (noteFrame e X.env) (fun _ s₂ => wpAny (model X.prog X.w) X.A (setFlight e none) (fun _ s₃ =>
    wpAny (model X.prog X.w) X.A (handleBy e X.env [.ExceptHandler (some (.Tuple [.Name x1 p1, .Name x2 p2, .Name x3 p3] k tpos)) (some n) (b₀ :: suite) pos']) (SP X pins D) X.xe s₃) X.xe s₂) X.xe s₁) ?caught PassesOwn.looking
  case caught =>
    rintro _ s' ⟨a, B, sI, ps, σ', H', cls, d, rfl, J', ground, upto, sky, un, os, bare, hit, names, yes, no⟩
    have J : Inv X pins σ' H' sI := J'.ofTry ok
    rw [show (X.tr (X.pn ++ pins) _).stack = X.env :: X.outer from hs] at sky
    show wpAny (model X.prog X.w) X.A (noteFrame (.ref a) X.env) _ _ _
    refine L2N.Sky.land L2N.Zn.steady frames hf sky fun h3 fl3 up3 => ?_
    have J3 : Inv X pins σ' H' { s' with heap := h3 } := J.landed ground fl3.1 (upto.trans up3) os bare
    obtain ⟨o3, v3, at3, kind3, rec3⟩ := fl3.there
    have off : a ∉ frs (X.env :: X.outer) := RecAt.off ⟨at3, rec3⟩ fl3.2.2.1
    obtain ⟨_, _, nL, nF, _⟩ := RecAt.pin (s := { s' with heap := h3 }) ⟨at3, rec3⟩ un hf off
    have S3 := J3.suite at3 rec3 un nL nF
    have named : ∀ {xx : Str} {c : Value} {np : Pos} {Q E : Value → Shared → Prop}, Names X xx c → Q c { s' with heap := h3 } → wpAny (model X.prog X.w) (X.A.mark (some (.ref a))) (eval (.Name xx np) X.env) Q E { s' with heap := h3 } := by
      rintro xx c np Q E ⟨glob, dbg, own | ⟨hidden, built, noName⟩⟩ q
      · exact ld_glob (X := X.suite a ((a, o3) :: (X.pn ++ pins))) S3 glob own q dbg
      · exact ld_blt (X := X.suite a ((a, o3) :: (X.pn ++ pins))) S3 glob hidden built q noName dbg
    refine wpAny_handleBy_cons (codeAny_handlers_test (wpAny_Tuple ?_)) (fun z => nomatch z)
    refine wpAny_items_cons (named hc1 (wpAny_items_cons (named hc2 (wpAny_items_cons (named hc3 (wpAny_items_nil ⟨by size_fits, ?_⟩))))))
    -- the tuple of the three is there
    have more : ∀ b u, h3.get? b = some u → (h3.push { cls := .type "tuple", data := .seq [c1, c2, c3].toArray }).get? b = some u := fun _ _ q => Heap.get?_push_of_some _ q
    have there := Heap.get?_push_size h3 (o := { cls := .type "tuple", data := .seq [c1, c2, c3].toArray }) rfl
    have fl5 := flies_in fl3 more
    have isOf := RecAt.ty (prog := X.prog) (w := X.w) (h := h3.push { cls := .type "tuple", data := .seq [c1, c2, c3].toArray }) ⟨more _ _ at3, rec3⟩
    rw [kind3.1] at isOf
    have meets := PySem.W.exm_tup3 (M := model X.prog X.w) (J3.kIn.keeps more) isOf there names
    have up5 := (upto.trans up3).trans (Heap.UpToSlots.of_keeps more)
    refine meets.here ?_
    generalize h3.push { cls := .type "tuple", data := .seq [c1, c2, c3].toArray } = h5 at fl5 up5 ⊢
    cases hit with
    | false => exact flies_by (s' := { s' with heap := h5 }) hs hf tk J ground up5 (L2H.flyingZ_imp (fun _ z => z.zc) fl5) un os bare (no rfl)
    | true =>
      refine codeAny_handlers_suite_as (HandSPX.lands_againZ fl5 fun h4 fl4 up4 => ?_)
      obtain ⟨o4, v4, at4, kind4, rec4⟩ := fl4.there
      have S4 := (J.landed (s' := { s' with heap := h4 }) ground fl4.1 (up5.trans up4) os bare).suite at4 rec4 un nL nF
      refine store_ok (X := X.suite a ((a, o4) :: (X.pn ++ pins))) (v := .ref a) S4 hN hi (.inl hln) rfl (fun s5 S5 => ?_) (.inr hln)
      have way := suite_out (a := a) (pn0 := (a, o4) :: (X.pn ++ pins)) (pos := pos') (NB := notedBy (model X.prog X.w) (X.A.mark (some (.ref a))) X.env (cameBackBy (model X.prog X.w) X.A X.env X.xe)) hs hf hex ok hN hi hln tk
        (fun p hp => List.mem_cons_of_mem _ (List.mem_append_left _ hp)) (hpa (some (.ref a)))
      have out := (hsu a cls _ _ _ way ⟨rfl, o4, d, v4, List.mem_cons_self, kind4, rec4⟩).run [] s5 _ H' _ (suiteF_of S5) (yes rfl a un)
      refine wpAny_mono out (fun f s6 told => ?_) fun _ _ z => z
      cases f with
      | next => exact told.elim fun _ ⟨_, _, z⟩ => z.elim
      | brk => exact told.elim fun _ ⟨_, _, z⟩ => z.elim
      | cont => exact told.elim fun _ ⟨_, _, z⟩ => z.elim
      | ret u => exact told.elim fun _ ⟨_, _, _, _, z⟩ => z.elim
  refine wpAny_mono (run.run [] s σ H D (I.toTry _) wish) (fun f s1 told => ?_) fun _ _ z => z
  cases f with
  | next =>
    obtain ⟨σ', H', J', q⟩ := told
    exact wpAny_execs_nil ⟨σ', H', J'.ofTry ok, q⟩
  | ret u =>
    obtain ⟨v, σ', H', J', r, q⟩ := told
    exact ⟨v, σ', H', J'.ofTry ok, r, q⟩
  | brk =>
    obtain ⟨σ', H', J', q⟩ := told
    exact ⟨σ', H', J'.ofTry ok, q⟩
  | cont =>
    obtain ⟨σ', H', J', q⟩ := told
    exact ⟨σ', H', J'.ofTry ok, q⟩
end
end Own

set_option Elab.async false
set_option linter.all false
set_option maxRecDepth 100000
set_option maxHeartbeats 4000000
/-! Towns written: rows of words, numbers by figures. -/
namespace Own
open PySem PySem.Spec PyProof.Rows L2
/-! ### a text's parts -/
theorem spl_ne (S : List Nat) : ∀ (l : List Nat) (k : Nat) (acc : List Nat), _root_.TL.spl S k acc l ≠ []
  | [], k, acc => by rw [_root_.TL.spl_nil]; exact fun z => nomatch z
  | c :: r, 0, acc => by
    rw [_root_.TL.spl]
    split
    · exact fun z => nomatch z
    · exact spl_ne S r 0 _
  | c :: r, k + 1, acc => by
    rw [_root_.TL.spl]
    exact spl_ne S r k _
theorem spl_part_le (S : List Nat) : ∀ (l : List Nat) (k : Nat) (acc p : List Nat), p ∈ _root_.TL.spl S k acc l → p.length ≤ acc.length + l.length
  | [], k, acc, p, h => by
    rw [_root_.TL.spl_nil] at h
    rw [List.mem_singleton.mp h]
    exact Nat.le_add_right _ _
  | c :: r, 0, acc, p, h => by
    rw [_root_.TL.spl] at h
    split at h
    · rcases List.mem_cons.mp h with e | h
      · rw [e]; exact Nat.le_add_right _ _
      · have z := spl_part_le S r _ _ p h
        simp only [List.length_nil, List.length_cons] at z ⊢
        omega
    · have z := spl_part_le S r 0 _ p h
      simp only [List.length_append, List.length_cons, List.length_nil] at z ⊢
      omega
  | c :: r, k + 1, acc, p, h => by
    rw [_root_.TL.spl] at h
    have z := spl_part_le S r k _ p h
    simp only [List.length_cons] at z ⊢
    omega
theorem split_ne {x : Str} {c : Nat} (hc : c < 256) : Txt.split x ⟨#[c]⟩ ≠ [] := fun z => by
  have e := _root_.TL.split_spl x ⟨#[c]⟩ (fun z => nomatch z) (_root_.TL.kind_ok (by simp [hc]))
  rw [z] at e
  exact spl_ne _ _ _ _ e.symm
theorem split_part_le {x p : Str} {c : Nat} (hc : c < 256) (h : p ∈ Txt.split x ⟨#[c]⟩) : p.length ≤ x.length := by
  have e := _root_.TL.split_spl x ⟨#[c]⟩ (fun z => nomatch z) (_root_.TL.kind_ok (by simp [hc]))
  have h2 := List.mem_map_of_mem (f := _root_.TL.tl) h
  rw [e] at h2
  have z := spl_part_le _ _ _ _ _ h2
  rw [_root_.TL.len_tl, _root_.TL.len_tl]
  simpa using z
theorem split_many {x y : Str} : (Txt.split x y).length ≤ x.length + 2 := PyProof.Rows.split_le x y
/-! ### numbers -/
def numT (k : Nat) : Str := Str.ofString (toString ((k : Nat) : Int))
/-- the program's -/
def numP (z : Str) : Option Nat := (List.range 17).find? fun k => decide (z = numT k)
def isFig (c : Nat) : Bool := decide (48 ≤ c) && decide (c ≤ 57)
/-- the law's -/
def numL (z : Str) : Option Nat := match z.cps.toList with
  | [c] => if isFig c then some (c - 48) else none
  | [c, d] => if isFig c && isFig d && decide (c ≠ 48) then some ((c - 48) * 10 + (d - 48)) else none
  | _ => none
theorem numP_le {z : Str} {k : Nat} (h : numP z = some k) : k ≤ 16 := by
  have z := List.mem_range.mp (List.mem_of_find?_eq_some h)
  omega
theorem num_one : ∀ a < 10, numP ⟨#[48 + a]⟩ = some a := by decide +kernel
theorem num_two : ∀ a < 10, ∀ b < 10, a ≠ 0 → a * 10 + b ≤ 16 → numP ⟨#[48 + a, 48 + b]⟩ = some (a * 10 + b) := by decide +kernel
theorem num_back : ∀ k < 17, numL (numT k) = some k := by decide +kernel
theorem str_of {z : Str} {l : List Nat} (h : z.cps.toList = l) : z = ⟨l.toArray⟩ := by
  rw [← h]
theorem num_PL {z : Str} {k : Nat} : numP z = some k ↔ numL z = some k ∧ k ≤ 16 := by
  refine ⟨fun h => ⟨?_, numP_le h⟩, fun ⟨h, hk⟩ => ?_⟩
  · have e0 := List.find?_some (p := fun k => decide (z = numT k)) (l := List.range 17) h
    have e := of_decide_eq_true e0
    rw [e]
    exact num_back k (by have := numP_le h; omega)
  · unfold numL at h
    split at h
    · rename_i c e
      rw [str_of e]
      split at h
      · rename_i hf
        simp only [isFig, Bool.and_eq_true, decide_eq_true_eq] at hf
        cases h
        have q := num_one (c - 48) (by omega)
        rw [show 48 + (c - 48) = c by omega] at q
        exact q
      · cases h
    · rename_i c d e
      rw [str_of e]
      split at h
      · rename_i hf
        simp only [isFig, Bool.and_eq_true, decide_eq_true_eq, ne_eq] at hf
        cases h
        have q := num_two (c - 48) (by omega) (d - 48) (by omega) (by omega) hk
        rw [show 48 + (c - 48) = c by omega, show 48 + (d - 48) = d by omega] at q
        exact q
      · cases h
    · cases h
/-! ### rows -/
abbrev sBl : Str := Str.ofString " "
abbrev sNl : Str := Str.ofString "\n"
theorem bl_eq : sBl = ⟨#[32]⟩ := by decide +kernel
theorem nl_eq : sNl = ⟨#[10]⟩ := by decide +kernel
theorem rows_ne {z : Str} : Txt.split z sNl ≠ [] := by rw [nl_eq]; exact split_ne (by decide)
theorem rows_le {z p : Str} (h : p ∈ Txt.split z sNl) : p.length ≤ z.length := by rw [nl_eq] at h; exact split_part_le (by decide) h
theorem words_ne {z : Str} : Txt.split z sBl ≠ [] := by rw [bl_eq]; exact split_ne (by decide)
theorem words_le {z p : Str} (h : p ∈ Txt.split z sBl) : p.length ≤ z.length := by rw [bl_eq] at h; exact split_part_le (by decide) h
def rowW (z : Str) : List Str := Txt.split z sBl
def goodW (m : Nat) (z : Str) : Option (Nat × Nat) := match rowW z with
  | [a, b] => match numP a, numP b with
    | some i, some j => if i ≠ j ∧ i < m ∧ j < m then some (i, j) else none
    | _, _ => none
  | _ => none
def headW (z : Str) : Option Nat := match rowW z with
  | [h, w] => if h = "places" then (match numP w with
    | some m => if 1 ≤ m then some m else none
    | none => none) else none
  | _ => none
def pairD (m : Nat) (z : Str) : Nat × Nat := (goodW m z).getD (0, 0)
def pairsP (m : Nat) (r : List Str) : Option (List (Nat × Nat)) := if r.length ≤ 60 ∧ ∀ z ∈ r, (goodW m z).isSome = true then some (r.map (pairD m)) else none
def parseP : List Str → Option (Nat × List (Nat × Nat))
  | [] => none
  | z :: r => match headW z with
    | some m => (pairsP m r).map fun J => (m, J)
    | none => none
def parseT (z : Str) : Option (Nat × List (Nat × Nat)) := parseP (Txt.split z sNl)
theorem goodW_some {m : Nat} {z : Str} {q : Nat × Nat} (h : goodW m z = some q) : ∃ a b : Str, rowW z = [a, b] ∧ numP a = some q.1 ∧ numP b = some q.2 ∧ q.1 ≠ q.2 ∧ q.1 < m ∧ q.2 < m := by
  unfold goodW at h
  split at h
  · rename_i a b e
    split at h
    · rename_i i j e1 e2
      split at h
      · rename_i c
        cases h
        exact ⟨a, b, e, e1, e2, c⟩
      · cases h
    · cases h
  · cases h
theorem goodW_of {m : Nat} {z a b : Str} {i j : Nat} (e : rowW z = [a, b]) (e1 : numP a = some i) (e2 : numP b = some j) (c : i ≠ j ∧ i < m ∧ j < m) : goodW m z = some (i, j) := by
  unfold goodW
  rw [e]
  dsimp only
  rw [e1, e2]
  dsimp only
  rw [if_pos c]
theorem headW_some {z : Str} {m : Nat} (h : headW z = some m) : ∃ w : Str, rowW z = [("places" : Str), w] ∧ numP w = some m ∧ 1 ≤ m := by
  unfold headW at h
  split at h
  · rename_i a b e
    split at h
    · rename_i c
      subst c
      split at h
      · rename_i k e1
        split at h
        · cases h
          exact ⟨b, e, e1, by assumption⟩
        · cases h
      · cases h
    · cases h
  · cases h
theorem headW_of {z w : Str} {m : Nat} (e : rowW z = [("places" : Str), w]) (e1 : numP w = some m) (c : 1 ≤ m) : headW z = some m := by
  unfold headW
  rw [e]
  dsimp only
  rw [if_pos rfl, e1]
  dsimp only
  rw [if_pos c]
theorem pairD_of {m : Nat} {z : Str} {q : Nat × Nat} (h : goodW m z = some q) : pairD m z = q := by
  unfold pairD
  rw [h]
  rfl
theorem pairs_some {m : Nat} {r : List Str} {J : List (Nat × Nat)} (h : pairsP m r = some J) : r.length ≤ 60 ∧ (∀ z ∈ r, goodW m z = some (pairD m z)) ∧ J = r.map (pairD m) := by
  unfold pairsP at h
  split at h
  · rename_i c
    cases h
    refine ⟨c.1, fun z hz => ?_, rfl⟩
    obtain ⟨q, e⟩ := Option.isSome_iff_exists.mp (c.2 z hz)
    rw [e, pairD_of e]
  · cases h
theorem pairs_of {m : Nat} {r : List Str} (h1 : r.length ≤ 60) (h2 : ∀ z ∈ r, ∃ q, goodW m z = some q) : pairsP m r = some (r.map (pairD m)) := by
  unfold pairsP
  rw [if_pos ⟨h1, fun z hz => by
    obtain ⟨q, e⟩ := h2 z hz
    rw [e]
    rfl⟩]
theorem pairs_bad {m : Nat} {r : List Str} {z : Str} (hz : z ∈ r) (h : goodW m z = none) : pairsP m r = none := by
  unfold pairsP
  rw [if_neg fun c => by
    have q := c.2 z hz
    rw [h] at q
    cases q]
theorem pairs_long {m : Nat} {r : List Str} (h : 60 < r.length) : pairsP m r = none := by
  unfold pairsP
  rw [if_neg fun c => by omega]
theorem pairs_ok {m : Nat} {r : List Str} {J : List (Nat × Nat)} (h : pairsP m r = some J) : J.length ≤ 60 ∧ ∀ q ∈ J, q.1 ≠ q.2 ∧ q.1 < m ∧ q.2 < m := by
  obtain ⟨h1, h2, rfl⟩ := pairs_some h
  refine ⟨by rw [List.length_map]; exact h1, fun q hq => ?_⟩
  obtain ⟨z, hz, rfl⟩ := List.mem_map.mp hq
  obtain ⟨_, _, _, _, _, c⟩ := goodW_some (h2 z hz)
  exact c

theorem headW_no1 {z : Str} (h : ∀ a b, rowW z ≠ [a, b]) : headW z = none := by
  cases q : headW z with
  | none => rfl
  | some m =>
    obtain ⟨w, e, _⟩ := headW_some q
    exact absurd e (h _ _)
theorem headW_no2 {z a b : Str} (e : rowW z = [a, b]) (h : ¬ (a = "places" ∧ ∃ m, numP b = some m ∧ 1 ≤ m)) : headW z = none := by
  cases q : headW z with
  | none => rfl
  | some m =>
    obtain ⟨w, e2, e3, e4⟩ := headW_some q
    rw [e] at e2
    cases e2
    exact absurd ⟨rfl, m, e3, e4⟩ h
theorem goodW_no1 {m : Nat} {z : Str} (h : ∀ a b, rowW z ≠ [a, b]) : goodW m z = none := by
  cases q : goodW m z with
  | none => rfl
  | some m =>
    obtain ⟨a, b, e, _⟩ := goodW_some q
    exact absurd e (h _ _)
theorem goodW_no2 {m : Nat} {z a b : Str} (e : rowW z = [a, b]) (h : ¬ ∃ i j, numP a = some i ∧ numP b = some j ∧ i ≠ j ∧ i < m ∧ j < m) : goodW m z = none := by
  cases q : goodW m z with
  | none => rfl
  | some q =>
    obtain ⟨a1, b1, e2, e3, e4, e5⟩ := goodW_some q
    rw [e] at e2
    cases e2
    exact absurd ⟨_, _, e3, e4, e5⟩ h
theorem parse_no1 {z : Str} {r : List Str} (h : headW z = none) : parseP (z :: r) = none := by
  unfold parseP
  dsimp only
  rw [h]
theorem parse_no2 {z : Str} {r : List Str} {m : Nat} (e : headW z = some m) (h : pairsP m r = none) : parseP (z :: r) = none := by
  unfold parseP
  dsimp only
  rw [e]
  dsimp only
  rw [h]
  rfl
theorem parse_of {z : Str} {r : List Str} {m : Nat} {J : List (Nat × Nat)} (e : headW z = some m) (h : pairsP m r = some J) : parseP (z :: r) = some (m, J) := by
  unfold parseP
  dsimp only
  rw [e]
  dsimp only
  rw [h]
  rfl
theorem parse_some {zs : List Str} {m : Nat} {J : List (Nat × Nat)} (h : parseP zs = some (m, J)) : ∃ z r, zs = z :: r ∧ headW z = some m ∧ pairsP m r = some J := by
  cases zs with
  | nil => cases h
  | cons z r =>
    refine ⟨z, r, rfl, ?_⟩
    cases q : headW z with
    | none =>
      rw [parse_no1 q] at h
      cases h
    | some m2 =>
      cases q2 : pairsP m2 r with
      | none =>
        rw [parse_no2 q q2] at h
        cases h
      | some J2 =>
        rw [parse_of q q2] at h
        cases h
        exact ⟨rfl, q2⟩
theorem cutD (xs : List V) (c : Nat) : cutV xs (some (c : Int)) none = xs.drop c := by
  unfold cutV
  rw [HT.sIx_none, HT.sIx_nat]
  by_cases h : c ≤ xs.length
  · rw [Nat.min_eq_left h, List.take_of_length_le (by rw [List.length_drop]; exact Nat.le_refl _)]
  · rw [Nat.min_eq_right (by omega), List.drop_of_length_le (Nat.le_refl _), List.drop_of_length_le (by omega)]
    simp
theorem tyName_str {x : V} {H : Hp} (e : tyName x H = some "str") : ∃ z, x = .str z := by
  have no : ∀ {n : String}, n ≠ "str" → some n = some "str" → False := fun h z => h (Option.some.inj z)
  cases x with
  | str z => exact ⟨z, rfl⟩
  | ref p =>
    simp only [tyName] at e
    split at e
    · exact (no (by decide) e).elim
    · exact (no (by decide) e).elim
    · exact (no (by decide) e).elim
    · exact (no (by decide) e).elim
    · cases e
  | byt y => cases e
  | flt y => cases e
  | ty y => cases e
  | _ => exact (no (by decide) e).elim
/-- rows of a new town -/
def numbT : Nat → List (Nat × Nat) → List TRow
  | _, [] => []
  | n, q :: J => (n, q.1, q.2) :: numbT (n + 1) J
theorem numbT_len : ∀ (n : Nat) (J : List (Nat × Nat)), (numbT n J).length = J.length
  | _, [] => rfl
  | n, q :: J => by rw [numbT, List.length_cons, List.length_cons, numbT_len]
theorem numbT_snoc : ∀ (n : Nat) (J : List (Nat × Nat)) (q : Nat × Nat), numbT n (J ++ [q]) = numbT n J ++ [(n + J.length, q.1, q.2)]
  | n, [], q => rfl
  | n, r :: J, q => by
    rw [List.cons_append, numbT, numbT, numbT_snoc, List.cons_append, List.length_cons, Nat.add_right_comm n 1 J.length, ← Nat.add_assoc]
/-! ### callees whose exceptions' context is None -/
section
variable (P : Program) (w : World) (K : PySem.W.Frag) (mg : Str → Option Value) (base : Heap)
structure CalN (k : Nat) (x : Str) (sp : Sp) : Prop where
  ex : ∃ (f : Addr) (fd : FuncData) (ps : List Str), FnOk P w K mg base (L2N.CX P w) k f fd ps sp ∧ mg x = some (.ref f) ∧ PySem.W.keepIn K (.ref f) = true ∧ Binds K fd ps []
structure MetN (k : Nat) (C : Addr) (m : Str) (sp : Sp) : Prop where
  ex : ∃ (f : Addr) (fd : FuncData) (ps : List Str), Cls K C ∧ Meth K C m f ∧ FnOk P w K mg base (L2N.CX P w) k f fd ps sp ∧ Binds K fd ps []
structure MakN (k : Nat) (x : Str) (C : Addr) (sp : Sp) : Prop where
  ex : ∃ (f : Addr) (fd : FuncData) (ps : List Str), Mk K C f ∧ FnOk P w K mg base (L2N.CX P w) k f fd ps sp ∧ mg x = some (.ref C) ∧ Binds K fd ps []
end
/-- text times whole number -/
theorem op_mulS {X : Cx} : OpR X (binaryOp .Mult) (fun x y H Q => ∃ z n, x = .str z ∧ y = .int n ∧ MulOk z n ∧ Q (.str (Txt.mul z n)) H) := by
  rintro pins s σ H _ _ _ _ Q I ra rb ⟨z, n, rfl, rfl, ok, q⟩
  obtain ⟨⟨ta, rfl⟩, tb, rfl⟩ := And.intro ra rb
  exact SB.mul ok fun tc tk => ⟨.str (Txt.mul z n), H, I.tok _, ⟨tc, rfl⟩, q⟩
theorem numP_T {z : Str} {k : Nat} (hk : k < 17) (e : z = numT k) : numP z = some k := by
  rw [num_PL, e]
  exact ⟨num_back k hk, by omega⟩
theorem numP_no {z : Str} (h : ∀ j < 17, z ≠ numT j) : numP z = none := by
  cases q : numP z with
  | none => rfl
  | some k =>
    have e0 := List.find?_some (p := fun k => decide (z = numT k)) (l := List.range 17) q
    exact absurd (of_decide_eq_true e0) (h k (by have := numP_le q; omega))
theorem two_of {l : List Str} (h : (l.map V.str).length = 2) : ∃ a b, l = [a, b] := by
  match l, h with
  | [a, b], _ => exact ⟨a, b, rfl⟩
end Own

set_option Elab.async false
set_option linter.all false
set_option maxRecDepth 100000
set_option maxHeartbeats 4000000
namespace K10
open PySem PySem.Spec PyProof.Rows L2 Own
def top (i : Nat) : Stmt := PySem.Challenge.pw_onewaytown_k10_towns_written.main.body.getD i (.Pass ⟨0, 0, 0, 0⟩)
/-! ### what the top has written -/
abbrev gA (K : PySem.W.Frag) (x : Str) : Addr := He.ga K x
/-- an error class without a body of its own -/
structure ErrT (K : PySem.W.Frag) (mg : Str → Option Value) (y : Str) : Prop where
  m : mg y = some (.ref (gA K y))
  x : PySem.W.excIn K (gA K y) He.veBase "ValueError.__new__" = true
  k : PySem.W.keepIn K (.ref (gA K y)) = true
  b : PySem.W.subIn K (.ref (gA K y)) (.type "BaseException") = some true
  t : PySem.W.typeIn K (.ref (gA K y)) = some (.type "type")
structure Txt (K : PySem.W.Frag) (mg : Str → Option Value) : Prop where
  f_type : mg "type" = none
  f_int : mg "int" = none
  f_len : mg "len" = none
  g_MOST_PLACES : ∃ u, mg "MOST_PLACES" = some u ∧ RelV (.int 16) u
  g_MOST_STREETS : ∃ u, mg "MOST_STREETS" = some u ∧ RelV (.int 60) u
  cl : Cls K (gA K "Town")
  nMany : NoAttr K (gA K "Town") "_many"
  nEnds : NoAttr K (gA K "Town") "_ends"
  nBuilt : NoAttr K (gA K "Town") "_built"
  BadCount : ErrT K mg "BadCount"
  BadPlace : ErrT K mg "BadPlace"
  BadStreet : ErrT K mg "BadStreet"
  TooMany : ErrT K mg "TooMany"
abbrev FnP (K : PySem.W.Frag) (x q : Str) (st : Stmt) (f : Addr) (fd : FuncData) : Prop := FunD K x q (defArgs st) (defBody st) (defScope st) [] [] f fd
/-! ### the program: is_whole and Town -/
def spWhole : Sp := fun vs H Q _ => ∃ (x : V) (lo hi : Int), vs = [x, .int lo, .int hi] ∧ (∃ n, tyName x H = some n) ∧ Q (.bl (isW x lo hi)) H
abbrev s_is_whole : Stmt := top 10
abbrev N_is_whole : List Str := ["thing", "least", "most"]
theorem sc_is_whole : FnScope N_is_whole ["thing", "least", "most"] (defScope s_is_whole) := ⟨rfl, rfl, rfl, by decide +kernel, rfl, by decide +kernel, by decide +kernel⟩
section
variable {P : Program} {w : World} {K : PySem.W.Frag} {mg : Str → Option Value} {base : Heap} {f : Addr} {fd : FuncData}
theorem ok_is_whole (T : Txt K mg) (D : FnP K "is_whole" "is_whole" s_is_whole f fd) : FnOk P w K mg base (L2.CX P w) 1 f fd ["thing", "least", "most"] spWhole := by
  have nd := sc_is_whole.nd
  refine D.ok sc_is_whole (fun vs H Q E h => ?_) (fun cdv A outer s H vs Q E hr h => ?_)
  · obtain ⟨x, lo, hi, rfl, _⟩ := h
    rfl
  · obtain ⟨x, lo, hi, rfl, ⟨n, hn⟩, k⟩ := h
    have hu := hu_of hr
    refine ⟨_, (pss_one (ps_ret (pe_and (pe_cmpR op_eqTy (pe_callTy call_tyOf rfl T.f_type (by decide +kernel) (pa_cons (pv 0) pa_nil)) (pe_bltn (v := .ty "int") (u := .type "int") rfl T.f_int (by decide +kernel) rfl) (nomark _)) (pe_one (pe_chain op_le op_le (pv 1) (pv 0) (pv 2)))))), ?_⟩
    refine ⟨_, rfl, x, n, rfl, hn, n, "int", rfl, rfl, tyName_meta hn, meta_all.2.2.1, _, rfl, ?_⟩
    refine if_both (fun e => ?_) (fun e => ?_)
    · have en := of_decide_eq_true e
      rw [en] at hn
      obtain ⟨i, rfl⟩ := tyName_int hn
      refine ⟨_, rfl, _, rfl, _, _, rfl, rfl, _, rfl, ?_⟩
      refine if_both (fun e1 => ?_) (fun e1 => ?_)
      · refine ⟨_, rfl, _, _, rfl, rfl, ?_⟩
        have z : isW (.int i) lo hi = decide (i ≤ hi) := by
          show (decide (lo ≤ i) && decide (i ≤ hi)) = decide (i ≤ hi)
          rw [e1]
          rfl
        rw [z] at k
        exact k
      · have z : isW (.int i) lo hi = false := by
          show (decide (lo ≤ i) && decide (i ≤ hi)) = false
          rw [e1]
          rfl
        rw [z] at k
        exact k
    · have z : isW x lo hi = false := by
        cases x with
        | int i =>
          exfalso
          cases hn
          cases e
        | _ => rfl
      rw [z] at k
      exact k
end
def spInit (K : PySem.W.Frag) (C : Addr) : Sp := fun vs H Q E => ∃ (p dx : Addr) (x : V), vs = [.ref p, x] ∧ H p = some (.ins C dx []) ∧ (∃ n, tyName x H = some n) ∧
  (isW x 1 16 = false → E (.ref (gA K "BadCount")) none H) ∧
  (∀ (m : Nat), x = .int (m : Int) → 1 ≤ m → m ≤ 16 → ∀ (d : Addr) (H' : Hp), H d = none → TownAt C H' p d m [] 0 → (∀ b o, H b = some o → b ≠ p → H' b = some o) → Q .non H')
def spPlaces (C : Addr) : Sp := fun vs H Q _ => ∃ (p d : Addr) (m : Nat) (rows : List TRow) (n : Nat), vs = [.ref p] ∧ TownAt C H p d m rows n ∧ Q (.int (m : Int)) H
/-- build: refused as it says, in its order; else a row more -/
def spBuild (K : PySem.W.Frag) (C : Addr) : Sp := fun vs H Q E => ∃ (p d : Addr) (m : Nat) (rows : List TRow) (n : Nat) (x y : V), vs = [.ref p, x, y] ∧ TownAt C H p d m rows n ∧ (∃ t, tyName x H = some t) ∧ (∃ t, tyName y H = some t) ∧
  ((isW x 0 ((m : Int) - 1) = false ∨ isW y 0 ((m : Int) - 1) = false ∨ x = y) → E (.ref (gA K "BadPlace")) none H) ∧
  (∀ a b : Nat, x = .int (a : Int) → y = .int (b : Int) → a < m → b < m → a ≠ b → 60 ≤ rows.length → E (.ref (gA K "TooMany")) none H) ∧
  (∀ a b : Nat, x = .int (a : Int) → y = .int (b : Int) → a < m → b < m → a ≠ b → rows.length < 60 → ∀ H', TownAt C H' p d m (rows ++ [(n, a, b)]) (n + 1) → Keeps H H' p d → Q (.int (n : Int)) H')
/-- dig: a street that is there goes, anything else is refused -/
def spDig (K : PySem.W.Frag) (C : Addr) : Sp := fun vs H Q E => ∃ (p d : Addr) (m : Nat) (rows : List TRow) (n : Nat) (x : V), vs = [.ref p, x] ∧ TownAt C H p d m rows n ∧ (∃ t, tyName x H = some t) ∧
  ((¬ ∃ s : Nat, x = .int (s : Int) ∧ s ∈ rows.map (·.1)) → E (.ref (gA K "BadStreet")) none H) ∧
  (∀ s : Nat, x = .int (s : Int) → s ∈ rows.map (·.1) → ∀ H', TownAt C H' p d m (rows.filter fun r => decide (r.1 ≠ s)) n → Keeps H H' p d → Q .non H')
def spStreets (C : Addr) : Sp := fun vs H Q _ => ∃ (p d : Addr) (m : Nat) (rows : List TRow) (n : Nat), vs = [.ref p] ∧ TownAt C H p d m rows n ∧
  ∀ (l : Addr) (H' : Hp), H l = none → Same H H' → TL H' l (rows.map rowV) → Q (.ref l) H'
abbrev s_Town_init : Stmt := inClass (top 14) 0
abbrev N_Town_init : List Str := ["self", "many"]
theorem sc_Town_init : FnScope N_Town_init ["self", "many"] (defScope s_Town_init) := ⟨rfl, rfl, rfl, by decide +kernel, rfl, by decide +kernel, by decide +kernel⟩
abbrev s_Town_places : Stmt := inClass (top 14) 1
abbrev N_Town_places : List Str := ["self"]
theorem sc_Town_places : FnScope N_Town_places ["self"] (defScope s_Town_places) := ⟨rfl, rfl, rfl, by decide +kernel, rfl, by decide +kernel, by decide +kernel⟩
abbrev s_Town_build : Stmt := inClass (top 14) 2
abbrev N_Town_build : List Str := ["self", "one", "other", "street"]
theorem sc_Town_build : FnScope N_Town_build ["self", "one", "other"] (defScope s_Town_build) := ⟨rfl, rfl, rfl, by decide +kernel, rfl, by decide +kernel, by decide +kernel⟩
abbrev s_Town_dig : Stmt := inClass (top 14) 3
abbrev N_Town_dig : List Str := ["self", "street"]
theorem sc_Town_dig : FnScope N_Town_dig ["self", "street"] (defScope s_Town_dig) := ⟨rfl, rfl, rfl, by decide +kernel, rfl, by decide +kernel, by decide +kernel⟩
abbrev s_Town_streets : Stmt := inClass (top 14) 4
abbrev N_Town_streets : List Str := ["self", "street", "one", "other"]
theorem sc_Town_streets : FnScope N_Town_streets ["self"] (defScope s_Town_streets) := ⟨rfl, rfl, rfl, by decide +kernel, rfl, by decide +kernel, by decide +kernel⟩
section
variable {P : Program} {w : World} {K : PySem.W.Frag} {mg : Str → Option Value} {base : Heap} {f : Addr} {fd : FuncData}
theorem ok_init (T : Txt K mg) (D : FnP K "__init__" "Town.__init__" s_Town_init f fd) (c_is_whole : CalX P w K mg base 1 "is_whole" spWhole) : FnOk P w K mg base (L2.CX P w) 2 f fd ["self", "many"] (spInit K (gA K "Town")) := by
  have nd := sc_Town_init.nd
  refine D.ok sc_Town_init (fun vs H Q E h => ?_) (fun cdv A outer s H vs Q E hr h => ?_)
  · obtain ⟨p, dx, x, rfl, _⟩ := h
    rfl
  · obtain ⟨p, dx, x, rfl, hp, ⟨n, hn⟩, no, yes⟩ := h
    have hu := hu_of hr
    obtain ⟨f_is_whole, fd_is_whole, ps_is_whole, F_is_whole, m_is_whole, k_is_whole, b_is_whole⟩ := c_is_whole.ex
    refine ⟨_, (pss_cons (ps_if (pt_not (pt_val (pe_call F_is_whole (hr.mono (by decide)) rfl m_is_whole k_is_whole b_is_whole .nil passF (pa_cons (pv 1) (pa_cons pe_int (pa_cons (C8.pe_gc rfl T.g_MOST_PLACES) pa_nil)))))) (pss_one (ps_raise rfl (takes_of rfl rfl rfl rfl) (pmk_own PySem.F.excBase_ValueError T.BadCount.x T.BadCount.m T.BadCount.k (raises_own T.BadCount.b T.BadCount.t) rfl))) pss_nil)
      (pss_cons (ps_fld (pv 0) (pv 1) rfl)
      (pss_cons (ps_fld (pv 0) pe_dnewK rfl)
      (pss_one (ps_fld (pv 0) pe_int rfl))))), ?_⟩
    refine ⟨_, rfl, x, 1, 16, rfl, ⟨n, hn⟩, _, rfl, ?_⟩
    refine if_both (fun e => ?_) (fun e => ?_)
    · exact no (by simpa using e)
    · obtain ⟨i, rfl, h1, h2⟩ := isW_int (show isW x 1 16 = true by simpa using e)
      obtain ⟨m, rfl⟩ : ∃ m : Nat, i = (m : Int) := ⟨i.toNat, (Int.toNat_of_nonneg (by omega)).symm⟩
      refine ⟨_, rfl, _, rfl, p, gA K "Town", dx, [], rfl, hp, T.cl, T.nMany, (by show 0 < 1000; decide), ?_⟩
      intro d hd
      obtain ⟨ndp, hd0⟩ := upd_none hd
      refine ⟨_, rfl, p, gA K "Town", dx, _, rfl, (by rw [upd_ne ndp.symm]; exact upd_same), T.cl, T.nEnds, (by show 1 < 1000; decide), ?_⟩
      refine ⟨_, rfl, p, gA K "Town", dx, _, rfl, upd_same, T.cl, T.nBuilt, (by show 2 < 1000; decide), ?_⟩
      refine yes m rfl (by omega) (by omega) d _ hd0 ⟨⟨dx, Eq.trans upd_same (congrArg (fun l => some (HO.ins (gA K "Town") dx l)) (tF_new m d))⟩, ⟨[], by rw [upd_ne ndp, upd_ne ndp, upd_same], .nil⟩, ⟨List.Pairwise.nil, fun r hr => (nomatch hr), fun r hr => (nomatch hr), (by show 0 ≤ 60; decide)⟩, by omega⟩ fun b o e hb => ?_
      rw [upd_ne hb, upd_ne hb, upd_ne (ne_of_none e hd0), upd_ne hb]
      exact e
theorem ok_places (T : Txt K mg) (D : FnP K "places" "Town.places" s_Town_places f fd) : FnOk P w K mg base (L2.CX P w) 1 f fd ["self"] (spPlaces (gA K "Town")) := by
  have nd := sc_Town_places.nd
  refine D.ok sc_Town_places (fun vs H Q E h => ?_) (fun cdv A outer s H vs Q E hr h => ?_)
  · obtain ⟨p, d, m, rows, n, rfl, _⟩ := h
    rfl
  · obtain ⟨p, d, m, rows, n, rfl, W, k⟩ := h
    obtain ⟨dx, h1⟩ := W.ob
    refine ⟨_, (pss_one (ps_ret (pe_fld (pv 0) rfl))), ?_⟩
    exact ⟨_, rfl, p, _, dx, _, _, rfl, h1, T.cl, T.nMany, tF_many _ _ _, k⟩
theorem ok_build (T : Txt K mg) (D : FnP K "build" "Town.build" s_Town_build f fd) (c_is_whole : CalX P w K mg base 1 "is_whole" spWhole) : FnOk P w K mg base (L2.CX P w) 2 f fd ["self", "one", "other"] (spBuild K (gA K "Town")) := by
  have nd := sc_Town_build.nd
  refine D.ok sc_Town_build (fun vs H Q E h => ?_) (fun cdv A outer s H vs Q E hr h => ?_)
  · obtain ⟨p, d, m, rows, n, x, y, rfl, _⟩ := h
    rfl
  · obtain ⟨p, d, m, rows, n, x, y, rfl, W, hx, hy, bad, many, good⟩ := h
    have hu := hu_of hr
    obtain ⟨dx, h1⟩ := W.ob
    obtain ⟨kvs, h2, ents⟩ := W.dc
    have npd := W.pd
    obtain ⟨f_is_whole, fd_is_whole, ps_is_whole, F_is_whole, m_is_whole, k_is_whole, b_is_whole⟩ := c_is_whole.ex
    refine ⟨_, (pss_cons (ps_if (pt_not (pt_val (pe_call F_is_whole (hr.mono (by decide)) rfl m_is_whole k_is_whole b_is_whole .nil passF (pa_cons (pv 1) (pa_cons pe_int (pa_cons (pe_op op_sub (pe_fld (pv 0) rfl) pe_int) pa_nil)))))) (pss_one (ps_raise rfl (takes_of rfl rfl rfl rfl) (pmk_own PySem.F.excBase_ValueError T.BadPlace.x T.BadPlace.m T.BadPlace.k (raises_own T.BadPlace.b T.BadPlace.t) rfl))) pss_nil)
      (pss_cons (ps_if (pt_not (pt_val (pe_call F_is_whole (hr.mono (by decide)) rfl m_is_whole k_is_whole b_is_whole .nil passF (pa_cons (pv 2) (pa_cons pe_int (pa_cons (pe_op op_sub (pe_fld (pv 0) rfl) pe_int) pa_nil)))))) (pss_one (ps_raise rfl (takes_of rfl rfl rfl rfl) (pmk_own PySem.F.excBase_ValueError T.BadPlace.x T.BadPlace.m T.BadPlace.k (raises_own T.BadPlace.b T.BadPlace.t) rfl))) pss_nil)
      (pss_cons (ps_if (pt_cmpR op_eq (pv 1) (pv 2) (nomark _)) (pss_one (ps_raise rfl (takes_of rfl rfl rfl rfl) (pmk_own PySem.F.excBase_ValueError T.BadPlace.x T.BadPlace.m T.BadPlace.k (raises_own T.BadPlace.b T.BadPlace.t) rfl))) pss_nil)
      (pss_cons (ps_if (pt_cmpR op_ge (pe_callB call_lenD rfl T.f_len PySem.boot_len (pa_cons (pe_fld (pv 0) rfl) pa_nil)) (C8.pe_gc rfl T.g_MOST_STREETS) (nomark _)) (pss_one (ps_raise rfl (takes_of rfl rfl rfl rfl) (pmk_own PySem.F.excBase_ValueError T.TooMany.x T.TooMany.m T.TooMany.k (raises_own T.TooMany.b T.TooMany.t) rfl))) pss_nil)
      (pss_cons (ps_set (i := 3) nd rfl (Or.inl rfl) (pe_fld (pv 0) rfl))
      (pss_cons (ps_dput hu (pe_fld (pv 0) rfl) (pv 3) (pe_tup (pa_cons (pv 1) (pa_cons (pv 2) pa_nil))) rfl)
      (pss_cons (ps_fld (pv 0) (pe_op op_add (pv 3) pe_int) rfl)
      (pss_one (ps_ret (pv 3)))))))))), ?_⟩
    refine ⟨_, rfl, _, rfl, p, _, dx, _, _, rfl, h1, T.cl, T.nMany, tF_many _ _ _, _, _, rfl, rfl, x, 0, _, rfl, hx, _, rfl, ?_⟩
    refine if_both (fun e => bad (.inl (by simpa using e))) (fun e => ?_)
    refine ⟨_, rfl, _, rfl, p, _, dx, _, _, rfl, h1, T.cl, T.nMany, tF_many _ _ _, _, _, rfl, rfl, y, 0, _, rfl, hy, _, rfl, ?_⟩
    refine if_both (fun e2 => bad (.inr (.inl (by simpa using e2)))) (fun e2 => ?_)
    obtain ⟨a, rfl, ha⟩ := isW_nat (show isW x 0 ((m : Int) - 1) = true by simpa using e)
    obtain ⟨b, rfl, hb⟩ := isW_nat (show isW y 0 ((m : Int) - 1) = true by simpa using e2)
    refine ⟨_, rfl, _, rfl, rfl, _, rfl, ?_⟩
    refine if_both (fun e3 => bad (.inr (.inr (by simpa using e3)))) (fun e3 => ?_)
    have ne : a ≠ b := by
      intro z
      rw [z] at e3
      simp at e3
    refine ⟨_, rfl, p, _, dx, _, _, rfl, h1, T.cl, T.nEnds, tF_ends _ _ _, d, kvs, rfl, h2, _, _, rfl, rfl, _, rfl, ?_⟩
    refine if_both (fun e4 => ?_) (fun e4 => ?_)
    · refine many a b rfl rfl ha hb ne ?_
      have z := of_decide_eq_true e4
      rw [ents_len ents] at z
      omega
    · have few : rows.length < 60 := by
        have z := of_decide_eq_false e4
        rw [ents_len ents] at z
        omega
      refine ⟨_, rfl, p, _, dx, _, _, rfl, h1, T.cl, T.nBuilt, tF_built _ _ _, ?_⟩
      refine ⟨_, rfl, _, rfl, (by show 2 ≤ sizeLine; decide), fun t ht => ?_⟩
      have npt : p ≠ t := ne_of_none h1 ht
      have ndt : d ≠ t := ne_of_none h2 ht
      have newKey : valV kvs (Sum.inl (n : Int) : Key) = none := by
        have z := ents_has n ents
        cases q : valV kvs (Sum.inl (n : Int) : Key) with
        | none => rfl
        | some v =>
          rw [q] at z
          have z2 := of_decide_eq_true z.symm
          obtain ⟨r, hr1, hr2⟩ := List.mem_map.mp z2
          have := W.ok.below r hr1
          omega
      refine ⟨_, rfl, p, _, dx, _, _, rfl, (by rw [upd_ne npt]; exact h1), T.cl, T.nEnds, tF_ends _ _ _, _, rfl, d, _, rfl, DPut.k (k := Sum.inl (n : Int)) (by rw [upd_ne ndt]; exact h2) (by rw [ents_len ents]; exact Nat.lt_of_lt_of_le few (by rw [sizeLine_eq]; decide)), ?_⟩
      refine ⟨_, rfl, _, _, rfl, rfl, _, rfl, p, _, dx, _, rfl, (by rw [upd_ne npd, upd_ne npt]; exact h1), T.cl, T.nBuilt, (by show 3 < 1000; decide), ?_⟩
      refine ⟨_, rfl, ?_⟩
      refine good a b rfl rfl ha hb ne few _ ⟨⟨dx, Eq.trans upd_same (congrArg (fun l => some (HO.ins (gA K "Town") dx l)) (tF_put m d n (n + 1)))⟩, ⟨_, by rw [upd_ne npd.symm]; exact upd_same, ?_⟩, W.ok.snoc few ha hb ne, W.pm⟩ fun c o hc hcp hcd => ?_
      · rw [putK_new _ newKey]
        refine ents_snoc (r := (n, a, b)) (t := t) ?_ (ents_ext (fun t2 xs e5 => ?_) ents)
        · rw [upd_ne npt.symm, upd_ne ndt.symm]
          exact upd_same
        · rw [upd_ne (ne_of e5 h1 (by intro z; cases z)), upd_ne (ne_of e5 h2 (by intro z; cases z)), upd_ne (ne_of_none e5 ht)]
          exact e5
      · rw [upd_ne hcp, upd_ne hcd, upd_ne (ne_of_none hc ht)]
        exact hc
theorem ok_dig (T : Txt K mg) (D : FnP K "dig" "Town.dig" s_Town_dig f fd) (c_is_whole : CalX P w K mg base 1 "is_whole" spWhole) : FnOk P w K mg base (L2.CX P w) 2 f fd ["self", "street"] (spDig K (gA K "Town")) := by
  have nd := sc_Town_dig.nd
  refine D.ok sc_Town_dig (fun vs H Q E h => ?_) (fun cdv A outer s H vs Q E hr h => ?_)
  · obtain ⟨p, d, m, rows, n, x, rfl, _⟩ := h
    rfl
  · obtain ⟨p, d, m, rows, n, x, rfl, W, hx, bad, good⟩ := h
    have hu := hu_of hr
    obtain ⟨dx, h1⟩ := W.ob
    obtain ⟨kvs, h2, ents⟩ := W.dc
    have npd := W.pd
    obtain ⟨f_is_whole, fd_is_whole, ps_is_whole, F_is_whole, m_is_whole, k_is_whole, b_is_whole⟩ := c_is_whole.ex
    refine ⟨_, (pss_cons (ps_if (PW.pt (pw_or (pt_not (pt_val (pe_call F_is_whole (hr.mono (by decide)) rfl m_is_whole k_is_whole b_is_whole .nil passF (pa_cons (pv 1) (pa_cons pe_int (pa_cons (pe_op op_sub (pe_fld (pv 0) rfl) pe_int) pa_nil)))))) (pw_or1 (pt_cmp (pc_dnotin hu (pv 1) (pe_fld (pv 0) rfl)))))) (pss_one (ps_raise rfl (takes_of rfl rfl rfl rfl) (pmk_own PySem.F.excBase_ValueError T.BadStreet.x T.BadStreet.m T.BadStreet.k (raises_own T.BadStreet.b T.BadStreet.t) rfl))) pss_nil)
      (pss_one (ps_ddel (pe_fld (pv 0) rfl) (pv 1)))), ?_⟩
    refine ⟨_, rfl, _, rfl, p, _, dx, _, _, rfl, h1, T.cl, T.nBuilt, tF_built _ _ _, _, _, rfl, rfl, x, 0, _, rfl, hx, _, rfl, ?_⟩
    refine if_both (fun e => ?_) (fun e => ?_)
    · refine if_yes rfl (bad fun ⟨s, e1, e2⟩ => ?_)
      obtain ⟨r, hr1, hr2⟩ := List.mem_map.mp e2
      have lt := W.ok.below r hr1
      rw [e1, isW_true (by omega) (by omega)] at e
      cases e
    · obtain ⟨s, rfl, hs⟩ := isW_nat (show isW x 0 ((n : Int) - 1) = true by simpa using e)
      refine ⟨_, rfl, _, rfl, p, _, dx, _, _, rfl, h1, T.cl, T.nEnds, tF_ends _ _ _, d, _, rfl, DGet.k (k := Sum.inl (s : Int)) h2, _, rfl, ?_⟩
      refine if_both (fun e1 => ?_) (fun e1 => ?_)
      · refine bad fun ⟨s2, e2, e3⟩ => ?_
        have es : s2 = s := (Int.ofNat.inj (V.int.inj e2)).symm
        rw [es] at e3
        have z := ents_has s ents
        rw [decide_eq_true e3] at z
        rw [z] at e1
        cases e1
      · have there : (valV kvs (Sum.inl (s : Int) : Key)).isSome = true := by
          cases q : valV kvs (Sum.inl (s : Int) : Key) with
          | none => rw [q] at e1; cases e1
          | some v => rfl
        have hin : s ∈ rows.map (·.1) := by
          rw [ents_has s ents] at there
          exact of_decide_eq_true there
        refine ⟨_, rfl, p, _, dx, _, _, rfl, h1, T.cl, T.nEnds, tF_ends _ _ _, _, rfl, d, kvs, Sum.inl (s : Int), rfl, h2, rfl, there, ?_⟩
        refine good s rfl hin _ ⟨⟨dx, by rw [upd_ne npd]; exact h1⟩, ⟨_, upd_same, ents_ext (fun t xs e5 => ?_) (ents_drop s ents)⟩, W.ok.drop _, W.pm⟩ fun c o hc hcp hcd => ?_
        · rw [upd_ne (ne_of e5 h2 (by intro z; cases z))]
          exact e5
        · rw [upd_ne hcd]
          exact hc
end
section
variable {P : Program} {w : World} {K : PySem.W.Frag} {mg : Str → Option Value} {base : Heap} {f : Addr} {fd : FuncData}
theorem ok_streets (T : Txt K mg) (D : FnP K "streets" "Town.streets" s_Town_streets f fd) : FnOk P w K mg base (L2.CX P w) 1 f fd ["self"] (spStreets (gA K "Town")) := by
  have nd := sc_Town_streets.nd
  refine D.ok sc_Town_streets (fun vs H Q E h => ?_) (fun cdv A outer s H vs Q E hr h => ?_)
  · obtain ⟨p, d, m, rows, n, rfl, _⟩ := h
    rfl
  · obtain ⟨p, d, m, rows, n, rfl, W, k⟩ := h
    obtain ⟨dx, h1⟩ := W.ob
    obtain ⟨kvs, h2, ents⟩ := W.dc
    have npd := W.pd
    refine ⟨_, (pss_one (ps_ret (pe_lock (pe_lc (own := [("street", 1), ("one", 2), ("other", 3)]) (g := (gTup K 2 (gCons (gName 1) (gCons (gTup K 2 (gCons (gName 2) (gCons (gName 3) gNil))) gNil)))) rfl nd (pi_items (pe_fld (pv 0) rfl)) (blkOk_by (own := [("street", 1), ("one", 2), ("other", 3)]) (N := N_Town_streets) (sc := defScope s_Town_streets) (by decide +kernel)) (fun _ _ _ _ _ => (pg_tup rfl (pgs_cons (pg_name (i := 1) nd rfl (Or.inl rfl)) (pgs_cons (pg_tup rfl (pgs_cons (pg_name (i := 2) nd rfl (Or.inl rfl)) (pgs_cons (pg_name (i := 3) nd rfl (Or.inl rfl)) pgs_nil))) pgs_nil)))) (fun _ _ _ _ _ => pts_nil) (fun _ _ _ _ _ => (pe_tup (pa_cons (pv 1) (pa_cons (pv 2) (pa_cons (pv 3) pa_nil))))))))), ?_⟩
    refine ⟨d, .dK kvs, h2, trivial, fun od => ?_⟩
    refine ⟨_, rfl, p, _, dx, _, _, rfl, (by rw [upd_ne npd]; exact h1), T.cl, T.nEnds, tF_ends _ _ _, d, od, kvs, rfl, upd_same, ?_⟩
    intro D hD
    obtain ⟨nDd, hD0⟩ := upd_none hD
    have len := ents_len ents
    have small : rows.length < sizeLine := Nat.lt_of_le_of_lt W.ok.few (by rw [sizeLine_eq]; decide)
    refine lc_it walk_items (fun i H' => ∃ vs, H' D = some (.lst vs) ∧ Tups H' vs ((rows.take i).map rowV) ∧ H' d = some (.frz od (.dK kvs)) ∧ ∀ b o, b ≠ d → H b = some o → H' b = some o)
      ⟨[], upd_same, .nil, (by rw [upd_ne nDd.symm]; exact upd_same), fun b o hb e => by rw [upd_ne (ne_of_none e hD0), upd_ne hb]; exact e⟩ (fun i H' _ ⟨_, _, _, z, _⟩ => z) ?_ ?_
    · rintro i x H1 H2 hi ⟨vs, e1, e2, e3, e4⟩ ⟨t, kk, v, rfl, ht, rfl, hk, hv⟩
      obtain ⟨kv, hkv⟩ : ∃ kv, kvs[i]? = some kv := ⟨_, List.getElem?_eq_getElem hi⟩
      obtain ⟨r, t2, hr1, rfl, hr2⟩ := ents_get ents hkv
      dsimp only at hk hv
      rw [hkv] at hk hv
      cases hk
      cases hv
      have ntd : t2 ≠ d := by
        intro z
        rw [z, h2] at hr2
        cases hr2
      have nDt : D ≠ t := ne_of_none e1 ht
      have hr3 := e4 _ _ ntd hr2
      refine ⟨t, _, rfl, SqT.of upd_same, rfl, _, _, rfl, _, _, rfl, t2, _, rfl, SqT.of (by rw [upd_ne (ne_of_none hr3 ht)]; exact hr3), rfl, _, _, rfl, _, _, rfl, rfl, rfl, rfl, ?_⟩
      refine ⟨_, rfl, _, rfl, _, rfl, (by show 3 ≤ sizeLine; decide), fun q hq => ?_⟩
      obtain ⟨nqt, hq0⟩ := upd_none hq
      have nDq : D ≠ q := ne_of_none e1 hq0
      have keep : ∀ b o, b ≠ D → H1 b = some o → upd (upd (upd H1 t (.tup [.int (r.1 : Int), V.ref t2])) q (.tup (rowV r))) D (.lst (vs ++ [V.ref q])) b = some o := fun b o nb e => by
        rw [upd_ne nb, upd_ne (ne_of_none e hq0), upd_ne (ne_of_none e ht)]
        exact e
      refine ⟨vs, by rw [upd_ne nDq, upd_ne nDt]; exact e1, ?_, vs ++ [V.ref q], upd_same, ?_, ?_, ?_⟩
      · rw [tups_len e2, List.length_map, List.length_take]
        omega
      · rw [take_snoc hr1, List.map_append]
        refine tups_snoc (by rw [upd_ne nDq.symm]; exact upd_same) (tups_ext (fun b xs e => keep b _ (fun z => ?_) e) e2)
        rw [z, e1] at e
        cases e
      · exact keep _ _ nDd.symm e3
      · intro b o hb e
        exact keep b o (ne_of_none e hD0) (e4 b o hb e)
    · rintro H1 ⟨vs, e1, e2, e3, e4⟩
      rw [len, List.take_length] at e2
      refine ⟨e3, k D _ hD0 (fun b o e => ?_) ⟨vs, by rw [upd_ne nDd]; exact e1, tups_ext (fun b xs e => ?_) e2⟩⟩
      · by_cases hb : b = d
        · rw [hb, h2] at e
          cases e
          rw [hb]
          exact upd_same
        · rw [upd_ne hb]
          exact e4 b o hb e
      · rw [upd_ne (fun z => by rw [z, e3] at e; cases e)]
        exact e
end
end K10

set_option Elab.async false
set_option linter.all false
set_option maxRecDepth 100000
set_option maxHeartbeats 4000000
namespace K10
open PySem PySem.Spec PyProof.Rows L2 Own
/-! ### the program again: what it raises has no context -/
section
variable {P : Program} {w : World} {K : PySem.W.Frag} {mg : Str → Option Value} {base : Heap} {f : Addr} {fd : FuncData}
theorem ok_initN (T : Txt K mg) (D : FnP K "__init__" "Town.__init__" s_Town_init f fd) (c_is_whole : CalX P w K mg base 1 "is_whole" spWhole) : FnOk P w K mg base (L2N.CX P w) 2 f fd ["self", "many"] (spInit K (gA K "Town")) := by
  have nd := sc_Town_init.nd
  refine D.ok sc_Town_init (fun vs H Q E h => ?_) (fun cdv A outer s H vs Q E hr h => ?_)
  · obtain ⟨p, dx, x, rfl, _⟩ := h
    rfl
  · obtain ⟨p, dx, x, rfl, hp, ⟨n, hn⟩, no, yes⟩ := h
    have hu := hu_of hr
    obtain ⟨f_is_whole, fd_is_whole, ps_is_whole, F_is_whole, m_is_whole, k_is_whole, b_is_whole⟩ := c_is_whole.ex
    refine ⟨_, (pss_cons (ps_if (pt_not (pt_val (pe_call F_is_whole (hr.mono (by decide)) rfl m_is_whole k_is_whole b_is_whole .nil passF (pa_cons (pv 1) (pa_cons pe_int (pa_cons (C8.pe_gc rfl T.g_MOST_PLACES) pa_nil)))))) (pss_one (L2N.ps_raise rfl (L2N.takes_of rfl rfl rfl rfl) (L2N.pmk_own PySem.F.excBase_ValueError T.BadCount.x T.BadCount.m T.BadCount.k (raises_own T.BadCount.b T.BadCount.t) rfl))) pss_nil)
      (pss_cons (ps_fld (pv 0) (pv 1) rfl)
      (pss_cons (ps_fld (pv 0) pe_dnewK rfl)
      (pss_one (ps_fld (pv 0) pe_int rfl))))), ?_⟩
    refine ⟨_, rfl, x, 1, 16, rfl, ⟨n, hn⟩, _, rfl, ?_⟩
    refine if_both (fun e => ?_) (fun e => ?_)
    · exact no (by simpa using e)
    · obtain ⟨i, rfl, h1, h2⟩ := isW_int (show isW x 1 16 = true by simpa using e)
      obtain ⟨m, rfl⟩ : ∃ m : Nat, i = (m : Int) := ⟨i.toNat, (Int.toNat_of_nonneg (by omega)).symm⟩
      refine ⟨_, rfl, _, rfl, p, gA K "Town", dx, [], rfl, hp, T.cl, T.nMany, (by show 0 < 1000; decide), ?_⟩
      intro d hd
      obtain ⟨ndp, hd0⟩ := upd_none hd
      refine ⟨_, rfl, p, gA K "Town", dx, _, rfl, (by rw [upd_ne ndp.symm]; exact upd_same), T.cl, T.nEnds, (by show 1 < 1000; decide), ?_⟩
      refine ⟨_, rfl, p, gA K "Town", dx, _, rfl, upd_same, T.cl, T.nBuilt, (by show 2 < 1000; decide), ?_⟩
      refine yes m rfl (by omega) (by omega) d _ hd0 ⟨⟨dx, Eq.trans upd_same (congrArg (fun l => some (HO.ins (gA K "Town") dx l)) (tF_new m d))⟩, ⟨[], by rw [upd_ne ndp, upd_ne ndp, upd_same], .nil⟩, ⟨List.Pairwise.nil, fun r hr => (nomatch hr), fun r hr => (nomatch hr), (by show 0 ≤ 60; decide)⟩, by omega⟩ fun b o e hb => ?_
      rw [upd_ne hb, upd_ne hb, upd_ne (ne_of_none e hd0), upd_ne hb]
      exact e
theorem ok_buildN (T : Txt K mg) (D : FnP K "build" "Town.build" s_Town_build f fd) (c_is_whole : CalX P w K mg base 1 "is_whole" spWhole) : FnOk P w K mg base (L2N.CX P w) 2 f fd ["self", "one", "other"] (spBuild K (gA K "Town")) := by
  have nd := sc_Town_build.nd
  refine D.ok sc_Town_build (fun vs H Q E h => ?_) (fun cdv A outer s H vs Q E hr h => ?_)
  · obtain ⟨p, d, m, rows, n, x, y, rfl, _⟩ := h
    rfl
  · obtain ⟨p, d, m, rows, n, x, y, rfl, W, hx, hy, bad, many, good⟩ := h
    have hu := hu_of hr
    obtain ⟨dx, h1⟩ := W.ob
    obtain ⟨kvs, h2, ents⟩ := W.dc
    have npd := W.pd
    obtain ⟨f_is_whole, fd_is_whole, ps_is_whole, F_is_whole, m_is_whole, k_is_whole, b_is_whole⟩ := c_is_whole.ex
    refine ⟨_, (pss_cons (ps_if (pt_not (pt_val (pe_call F_is_whole (hr.mono (by decide)) rfl m_is_whole k_is_whole b_is_whole .nil passF (pa_cons (pv 1) (pa_cons pe_int (pa_cons (pe_op op_sub (pe_fld (pv 0) rfl) pe_int) pa_nil)))))) (pss_one (L2N.ps_raise rfl (L2N.takes_of rfl rfl rfl rfl) (L2N.pmk_own PySem.F.excBase_ValueError T.BadPlace.x T.BadPlace.m T.BadPlace.k (raises_own T.BadPlace.b T.BadPlace.t) rfl))) pss_nil)
      (pss_cons (ps_if (pt_not (pt_val (pe_call F_is_whole (hr.mono (by decide)) rfl m_is_whole k_is_whole b_is_whole .nil passF (pa_cons (pv 2) (pa_cons pe_int (pa_cons (pe_op op_sub (pe_fld (pv 0) rfl) pe_int) pa_nil)))))) (pss_one (L2N.ps_raise rfl (L2N.takes_of rfl rfl rfl rfl) (L2N.pmk_own PySem.F.excBase_ValueError T.BadPlace.x T.BadPlace.m T.BadPlace.k (raises_own T.BadPlace.b T.BadPlace.t) rfl))) pss_nil)
      (pss_cons (ps_if (pt_cmpR op_eq (pv 1) (pv 2) (nomark _)) (pss_one (L2N.ps_raise rfl (L2N.takes_of rfl rfl rfl rfl) (L2N.pmk_own PySem.F.excBase_ValueError T.BadPlace.x T.BadPlace.m T.BadPlace.k (raises_own T.BadPlace.b T.BadPlace.t) rfl))) pss_nil)
      (pss_cons (ps_if (pt_cmpR op_ge (pe_callB call_lenD rfl T.f_len PySem.boot_len (pa_cons (pe_fld (pv 0) rfl) pa_nil)) (C8.pe_gc rfl T.g_MOST_STREETS) (nomark _)) (pss_one (L2N.ps_raise rfl (L2N.takes_of rfl rfl rfl rfl) (L2N.pmk_own PySem.F.excBase_ValueError T.TooMany.x T.TooMany.m T.TooMany.k (raises_own T.TooMany.b T.TooMany.t) rfl))) pss_nil)
      (pss_cons (ps_set (i := 3) nd rfl (Or.inl rfl) (pe_fld (pv 0) rfl))
      (pss_cons (ps_dput hu (pe_fld (pv 0) rfl) (pv 3) (pe_tup (pa_cons (pv 1) (pa_cons (pv 2) pa_nil))) rfl)
      (pss_cons (ps_fld (pv 0) (pe_op op_add (pv 3) pe_int) rfl)
      (pss_one (ps_ret (pv 3)))))))))), ?_⟩
    refine ⟨_, rfl, _, rfl, p, _, dx, _, _, rfl, h1, T.cl, T.nMany, tF_many _ _ _, _, _, rfl, rfl, x, 0, _, rfl, hx, _, rfl, ?_⟩
    refine if_both (fun e => bad (.inl (by simpa using e))) (fun e => ?_)
    refine ⟨_, rfl, _, rfl, p, _, dx, _, _, rfl, h1, T.cl, T.nMany, tF_many _ _ _, _, _, rfl, rfl, y, 0, _, rfl, hy, _, rfl, ?_⟩
    refine if_both (fun e2 => bad (.inr (.inl (by simpa using e2)))) (fun e2 => ?_)
    obtain ⟨a, rfl, ha⟩ := isW_nat (show isW x 0 ((m : Int) - 1) = true by simpa using e)
    obtain ⟨b, rfl, hb⟩ := isW_nat (show isW y 0 ((m : Int) - 1) = true by simpa using e2)
    refine ⟨_, rfl, _, rfl, rfl, _, rfl, ?_⟩
    refine if_both (fun e3 => bad (.inr (.inr (by simpa using e3)))) (fun e3 => ?_)
    have ne : a ≠ b := by
      intro z
      rw [z] at e3
      simp at e3
    refine ⟨_, rfl, p, _, dx, _, _, rfl, h1, T.cl, T.nEnds, tF_ends _ _ _, d, kvs, rfl, h2, _, _, rfl, rfl, _, rfl, ?_⟩
    refine if_both (fun e4 => ?_) (fun e4 => ?_)
    · refine many a b rfl rfl ha hb ne ?_
      have z := of_decide_eq_true e4
      rw [ents_len ents] at z
      omega
    · have few : rows.length < 60 := by
        have z := of_decide_eq_false e4
        rw [ents_len ents] at z
        omega
      refine ⟨_, rfl, p, _, dx, _, _, rfl, h1, T.cl, T.nBuilt, tF_built _ _ _, ?_⟩
      refine ⟨_, rfl, _, rfl, (by show 2 ≤ sizeLine; decide), fun t ht => ?_⟩
      have npt : p ≠ t := ne_of_none h1 ht
      have ndt : d ≠ t := ne_of_none h2 ht
      have newKey : valV kvs (Sum.inl (n : Int) : Key) = none := by
        have z := ents_has n ents
        cases q : valV kvs (Sum.inl (n : Int) : Key) with
        | none => rfl
        | some v =>
          rw [q] at z
          have z2 := of_decide_eq_true z.symm
          obtain ⟨r, hr1, hr2⟩ := List.mem_map.mp z2
          have := W.ok.below r hr1
          omega
      refine ⟨_, rfl, p, _, dx, _, _, rfl, (by rw [upd_ne npt]; exact h1), T.cl, T.nEnds, tF_ends _ _ _, _, rfl, d, _, rfl, DPut.k (k := Sum.inl (n : Int)) (by rw [upd_ne ndt]; exact h2) (by rw [ents_len ents]; exact Nat.lt_of_lt_of_le few (by rw [sizeLine_eq]; decide)), ?_⟩
      refine ⟨_, rfl, _, _, rfl, rfl, _, rfl, p, _, dx, _, rfl, (by rw [upd_ne npd, upd_ne npt]; exact h1), T.cl, T.nBuilt, (by show 3 < 1000; decide), ?_⟩
      refine ⟨_, rfl, ?_⟩
      refine good a b rfl rfl ha hb ne few _ ⟨⟨dx, Eq.trans upd_same (congrArg (fun l => some (HO.ins (gA K "Town") dx l)) (tF_put m d n (n + 1)))⟩, ⟨_, by rw [upd_ne npd.symm]; exact upd_same, ?_⟩, W.ok.snoc few ha hb ne, W.pm⟩ fun c o hc hcp hcd => ?_
      · rw [putK_new _ newKey]
        refine ents_snoc (r := (n, a, b)) (t := t) ?_ (ents_ext (fun t2 xs e5 => ?_) ents)
        · rw [upd_ne npt.symm, upd_ne ndt.symm]
          exact upd_same
        · rw [upd_ne (ne_of e5 h1 (by intro z; cases z)), upd_ne (ne_of e5 h2 (by intro z; cases z)), upd_ne (ne_of_none e5 ht)]
          exact e5
      · rw [upd_ne hcp, upd_ne hcd, upd_ne (ne_of_none hc ht)]
        exact hc
end
/-! ### notes: numbers, rows of two words -/
structure TxtN (K : PySem.W.Frag) (mg : Str → Option Value) : Prop extends Txt K mg where
  f_str : mg "str" = none
  f_range : mg "range" = none
  BadText : ErrT K mg "BadText"
def spNumber (K : PySem.W.Frag) : Sp := fun vs H Q E => ∃ z : Str, vs = [.str z] ∧ (numP z = none → E (.ref (gA K "BadText")) none H) ∧ (∀ k : Nat, numP z = some k → Q (.int (k : Int)) H)
def spTwo (K : PySem.W.Frag) : Sp := fun vs H Q E => ∃ z : Str, vs = [.str z] ∧ z.length + 2 ≤ sizeLine ∧ ((∀ a b, rowW z ≠ [a, b]) → ∀ H', Same H H' → E (.ref (gA K "BadText")) none H') ∧
  (∀ a b, rowW z = [a, b] → ∀ (p : Addr) (H' : Hp), H p = none → Same H H' → H' p = some (.lst [.str a, .str b]) → Q (.ref p) H')
theorem numT_log : ∀ k < 17, ((k : Nat) : Int).natAbs.log2 < 1920 := by decide +kernel
abbrev s_number : Stmt := top 16
abbrev N_number : List Str := ["word", "number"]
theorem sc_number : FnScope N_number ["word"] (defScope s_number) := ⟨rfl, rfl, rfl, by decide +kernel, rfl, by decide +kernel, by decide +kernel⟩
abbrev s_two_words : Stmt := top 17
abbrev N_two_words : List Str := ["row", "words"]
theorem sc_two_words : FnScope N_two_words ["row"] (defScope s_two_words) := ⟨rfl, rfl, rfl, by decide +kernel, rfl, by decide +kernel, by decide +kernel⟩
section
variable {P : Program} {w : World} {K : PySem.W.Frag} {mg : Str → Option Value} {base : Heap} {f : Addr} {fd : FuncData}
theorem ok_number (T : TxtN K mg) (D : FnP K "_number" "_number" s_number f fd) : FnOk P w K mg base (L2N.CX P w) 1 f fd ["word"] (spNumber K) := by
  have nd := sc_number.nd
  refine D.ok sc_number (fun vs H Q E h => ?_) (fun cdv A outer s H vs Q E hr h => ?_)
  · obtain ⟨z, rfl, _⟩ := h
    rfl
  · obtain ⟨z, rfl, no, yes⟩ := h
    have hu := hu_of hr
    refine ⟨_, (pss_cons (ps_for (passes_of rfl) rfl (pi_range1 rfl T.f_range (pa_cons (pe_op op_add (C8.pe_gc rfl T.g_MOST_PLACES) pe_int) pa_nil)) (pg_name (i := 1) nd rfl (Or.inl rfl)) (pss_one (ps_if (pt_cmpR op_eq (pv 0) (pe_callTy call_str_int rfl T.f_str (by decide +kernel) (pa_cons (pv 1) pa_nil)) (nomark _)) (pss_one (ps_ret (pv 1))) pss_nil)))
      (pss_one (L2N.ps_raise rfl (L2N.takes_of rfl rfl rfl rfl) (L2N.pmk_own PySem.F.excBase_ValueError T.BadText.x T.BadText.m T.BadText.k (raises_own T.BadText.b T.BadText.t) rfl)))), ?_⟩
    refine ⟨_, _, rfl, rfl, (17 : Int), rfl, by decide, by decide, ?_⟩
    refine for_it walk_range (fun i σ' H' => ∃ u, σ' = [some (.str z), u] ∧ H' = H ∧ ∀ j < i, z ≠ numT j) ⟨_, rfl, rfl, fun j hj => absurd hj (Nat.not_lt_zero j)⟩ (fun _ _ _ _ _ => trivial) ?_ ?_
    · rintro i x σ' H1 H2 hi ⟨u, rfl, rfl, hj⟩ ⟨rfl, rfl⟩
      dsimp only
      rw [Int.zero_add]
      refine ⟨_, rfl, _, rfl, _, rfl, numT_log i hi, rfl, _, rfl, ?_⟩
      refine if_both (fun e => ?_) (fun e => ?_)
      · have ez : z = numT i := V.str.inj (of_decide_eq_true e)
        exact ⟨_, rfl, yes i (numP_T hi ez)⟩
      · refine ⟨_, rfl, rfl, fun j hlt => ?_⟩
        by_cases hji : j = i
        · rw [hji]
          intro ez
          have z := of_decide_eq_false e
          exact z (congrArg V.str ez)
        · exact hj j (by omega)
    · rintro σ' H1 ⟨u, rfl, rfl, hj⟩
      exact no (numP_no hj)
theorem ok_two (T : TxtN K mg) (D : FnP K "_two_words" "_two_words" s_two_words f fd) : FnOk P w K mg base (L2N.CX P w) 1 f fd ["row"] (spTwo K) := by
  have nd := sc_two_words.nd
  refine D.ok sc_two_words (fun vs H Q E h => ?_) (fun cdv A outer s H vs Q E hr h => ?_)
  · obtain ⟨z, rfl, _⟩ := h
    rfl
  · obtain ⟨z, rfl, hz, no, yes⟩ := h
    have hu := hu_of hr
    refine ⟨_, (pss_cons (ps_set (i := 1) nd rfl (Or.inl rfl) (pe_split (pv 0) pe_str))
      (pss_cons (ps_if (pt_cmpR op_ne (pe_callB call_len_seq rfl T.f_len PySem.boot_len (pa_cons (pv 1) pa_nil)) pe_int (nomark _)) (pss_one (L2N.ps_raise rfl (L2N.takes_of rfl rfl rfl rfl) (L2N.pmk_own PySem.F.excBase_ValueError T.BadText.x T.BadText.m T.BadText.k (raises_own T.BadText.b T.BadText.t) rfl))) pss_nil)
      (pss_one (ps_ret (pv 1))))), ?_⟩
    refine ⟨_, rfl, ⟨z, rfl⟩, _, _, rfl, rfl, rfl, hz, fun p hp => ?_⟩
    have sm := same_new (o := .lst ((Txt.split z " ").map V.str)) hp
    refine ⟨_, rfl, p, _, rfl, .inl (SqL.of upd_same), rfl, _, rfl, ?_⟩
    have end_ : ∀ b : Bool, (b = false → ∃ a c, rowW z = [a, c]) → (b = true → ∀ a c, rowW z ≠ [a, c]) → (if b = true then E (.ref (gA K "BadText")) none (upd H p (.lst ((Txt.split z " ").map V.str))) else Q (.ref p) (upd H p (.lst ((Txt.split z " ").map V.str)))) := by
      intro b h1 h2
      cases b with
      | true => exact no (h2 rfl) _ sm
      | false =>
        obtain ⟨a, c, e⟩ := h1 rfl
        refine yes a c e p _ hp sm ?_
        have e2 : (Txt.split z " ").map V.str = [.str a, .str c] := by
          rw [show Txt.split z " " = [a, c] from e]
          rfl
        rw [e2]
        exact upd_same
    have done := end_ (!decide (V.int ↑(List.map V.str (Txt.split z " ")).length = V.int 2)) (fun e => ?_) (fun e a c e2 => ?_)
    · generalize (!decide (V.int ↑(List.map V.str (Txt.split z " ")).length = V.int 2)) = b at done ⊢
      cases b with
      | true => exact done
      | false => exact ⟨_, rfl, done⟩
    · have z2 := of_decide_eq_true (by simpa using e : decide (V.int ↑(List.map V.str (Txt.split z " ")).length = V.int 2) = true)
      exact two_of (Int.ofNat.inj (V.int.inj z2))
    · rw [show Txt.split z " " = [a, c] from e2] at e
      cases e
end
end K10

set_option Elab.async false
set_option linter.all false
set_option maxRecDepth 100000
set_option maxHeartbeats 4000000
namespace K10
open PySem PySem.Spec PyProof.Rows L2 Own
/-! ### notes: a town of rows -/
abbrev readErrs : List Str := ["BadCount", "BadPlace", "TooMany", "BadText"]
def spTownOf (K : PySem.W.Frag) (C : Addr) : Sp := fun vs H Q E => ∃ (l : Addr) (zs : List Str), vs = [.ref l] ∧ H l = some (.lst (zs.map V.str)) ∧ zs ≠ [] ∧ (∀ z ∈ zs, z.length + 2 ≤ sizeLine) ∧ zs.length ≤ sizeLine ∧
  (parseP zs = none → ∀ y ∈ readErrs, ∀ H', Same H H' → E (.ref (gA K y)) none H') ∧
  (∀ m J, parseP zs = some (m, J) → ∀ (p d : Addr) (H' : Hp), H p = none → H d = none → Same H H' → TownAt C H' p d m (numbT 0 J) J.length → Q (.ref p) H')
abbrev s_town_of : Stmt := top 18
abbrev N_town_of : List Str := ["rows", "head", "many", "town", "row", "one", "other"]
theorem sc_town_of : FnScope N_town_of ["rows"] (defScope s_town_of) := ⟨rfl, rfl, rfl, by decide +kernel, rfl, by decide +kernel, by decide +kernel⟩
section
variable {P : Program} {w : World} {K : PySem.W.Frag} {mg : Str → Option Value} {base : Heap} {f : Addr} {fd : FuncData}
theorem ok_town_of (T : TxtN K mg) (D : FnP K "_town_of" "_town_of" s_town_of f fd) (c_number : CalN P w K mg base 1 "_number" (spNumber K)) (c_two_words : CalN P w K mg base 1 "_two_words" (spTwo K)) (c_Town : MakN P w K mg base 2 "Town" (gA K "Town") (spInit K (gA K "Town")))
    (c_Town_build : MetN P w K mg base 2 (gA K "Town") "build" (spBuild K (gA K "Town"))) : FnOk P w K mg base (L2N.CX P w) 4 f fd ["rows"] (spTownOf K (gA K "Town")) := by
  have nd := sc_town_of.nd
  refine D.ok sc_town_of (fun vs H Q E h => ?_) (fun cdv A outer s H vs Q E hr h => ?_)
  · obtain ⟨l, zs, rfl, _⟩ := h
    rfl
  · obtain ⟨l, zs, rfl, hl, hne, hz, hsz, no, yes⟩ := h
    have hu := hu_of hr
    obtain ⟨f_number, fd_number, ps_number, F_number, m_number, k_number, b_number⟩ := c_number.ex
    obtain ⟨f_two_words, fd_two_words, ps_two_words, F_two_words, m_two_words, k_two_words, b_two_words⟩ := c_two_words.ex
    obtain ⟨f_Town, fd_Town, ps_Town, M_Town, F_Town, m_Town, b_Town⟩ := c_Town.ex
    obtain ⟨f_Town_build, fd_Town_build, ps_Town_build, c_Town_build, M_Town_build, F_Town_build, b_Town_build⟩ := c_Town_build.ex
    refine ⟨_, (pss_cons (ps_asg (pe_call F_two_words (hr.mono (by decide)) rfl m_two_words k_two_words b_two_words .nil (L2N.passes_call (L2N.takes_of rfl rfl rfl rfl) (fun _ _ _ _ h => h)) (pa_cons (pe_ix ix_list (pv 0) pe_int (fun _ _ => rfl)) pa_nil)) (pg_unl rfl (pgs_cons (pg_name (i := 1) nd rfl (Or.inl rfl)) (pgs_cons (pg_name (i := 2) nd rfl (Or.inl rfl)) pgs_nil))))
      (pss_cons (ps_if (pt_cmpR op_ne (pv 1) pe_str (nomark _)) (pss_one (L2N.ps_raise rfl (L2N.takes_of rfl rfl rfl rfl) (L2N.pmk_own PySem.F.excBase_ValueError T.BadText.x T.BadText.m T.BadText.k (raises_own T.BadText.b T.BadText.t) rfl))) pss_nil)
      (pss_cons (ps_set (i := 3) nd rfl (Or.inl rfl) (pe_make M_Town F_Town (hr.mono (by decide)) rfl m_Town b_Town .nil (L2N.passes_call (L2N.takes_of rfl rfl rfl rfl) (fun _ _ _ _ h => h)) (pa_cons (pe_call F_number (hr.mono (by decide)) rfl m_number k_number b_number .nil (L2N.passes_call (L2N.takes_of rfl rfl rfl rfl) (fun _ _ _ _ h => h)) (pa_cons (pv 2) pa_nil)) pa_nil)))
      (pss_cons (ps_for (passes_of rfl) rfl (pi_list (pe_slice sl_list (pv 0) (po_some pe_int) po_none)) (pg_name (i := 4) nd rfl (Or.inl rfl)) (pss_cons (ps_asg (pe_call F_two_words (hr.mono (by decide)) rfl m_two_words k_two_words b_two_words .nil (L2N.passes_call (L2N.takes_of rfl rfl rfl rfl) (fun _ _ _ _ h => h)) (pa_cons (pv 4) pa_nil)) (pg_unl rfl (pgs_cons (pg_name (i := 5) nd rfl (Or.inl rfl)) (pgs_cons (pg_name (i := 6) nd rfl (Or.inl rfl)) pgs_nil))))
      (pss_one (ps_expr (pe_meth (pv 3) c_Town_build M_Town_build F_Town_build (hr.mono (by decide)) b_Town_build .nil (L2N.passes_call (L2N.takes_of rfl rfl rfl rfl) (fun _ _ _ _ h => h)) (pa_cons (pe_call F_number (hr.mono (by decide)) rfl m_number k_number b_number .nil (L2N.passes_call (L2N.takes_of rfl rfl rfl rfl) (fun _ _ _ _ h => h)) (pa_cons (pv 5) pa_nil)) (pa_cons (pe_call F_number (hr.mono (by decide)) rfl m_number k_number b_number .nil (L2N.passes_call (L2N.takes_of rfl rfl rfl rfl) (fun _ _ _ _ h => h)) (pa_cons (pv 6) pa_nil)) pa_nil)))))))
      (pss_one (ps_ret (pv 3))))))), ?_⟩
    obtain ⟨z0, r, rfl⟩ : ∃ z0 r, zs = z0 :: r := by
      cases zs with
      | nil => exact absurd rfl hne
      | cons z0 r => exact ⟨z0, r, rfl⟩
    refine ⟨_, rfl, l, _, (0 : Int), .str z0, rfl, rfl, SqL.of hl, atI_nat (j := 0) (xs := (z0 :: r).map V.str) (v := .str z0) (by rfl), ?_⟩
    refine ⟨z0, rfl, hz z0 (List.mem_cons_self ..), fun nt H' sm => ?_, fun a b eab p1 H1 hp1 sm1 h1 => ?_⟩
    · exact no (parse_no1 (headW_no1 nt)) "BadText" (by decide) H' sm
    refine ⟨p1, _, rfl, SqL.of h1, rfl, _, _, rfl, _, _, rfl, rfl, ?_⟩
    refine ⟨_, rfl, rfl, _, rfl, ?_⟩
    refine if_both (fun c => ?_) (fun c => ?_)
    · refine no (parse_no1 (headW_no2 eab fun z => ?_)) "BadText" (by decide) _ sm1
      rw [z.1] at c
      simp at c
    have ea : a = "places" := by
      have z := of_decide_eq_true (by simpa using c : decide (V.str a = V.str "places") = true)
      exact V.str.inj z
    refine ⟨_, rfl, b, rfl, fun nb => ?_, fun m em => ?_⟩
    · refine no (parse_no1 (headW_no2 eab fun z => ?_)) "BadText" (by decide) _ sm1
      obtain ⟨_, k, ek, _⟩ := z
      rw [nb] at ek
      cases ek
    intro p dx np ndx nep
    have m16 := numP_le em
    refine ⟨p, dx, _, rfl, upd_same, ⟨"int", rfl⟩, fun bad => ?_, fun m' e' m1 m2 d H2 hd W kp => ⟨rfl, ?_⟩⟩
    · refine no (parse_no1 (headW_no2 eab fun z => ?_)) "BadCount" (by decide) _ (sm1.trans ((same_new ndx).trans (same_new (by rw [upd_ne nep.symm]; exact np))))
      obtain ⟨_, k, ek, k1⟩ := z
      rw [em] at ek
      cases ek
      rw [isW_true (by omega) (by omega)] at bad
      cases bad
    have em' : m' = m := (Int.ofNat.inj (V.int.inj e')).symm
    subst em'
    have hw : headW z0 = some m' := headW_of (by rw [eab, ea]) em m1
    obtain ⟨ndp, hd1⟩ := upd_none hd
    obtain ⟨_, hd0⟩ := upd_none hd1
    have sm2 : Same H H2 := sm1.trans (Same.made np ndx kp)
    have hlp : H p = none := sm1.free np
    refine ⟨_, rfl, _, rfl, l, _, rfl, SqL.of (sm2 _ _ hl), fun S hS => ?_⟩
    have eS : (upd H2 S (.lst (cutV ((z0 :: r).map V.str) (some 1) none))) S = some (.lst (r.map V.str)) := by
      rw [show cutV ((z0 :: r).map V.str) (some 1) none = ((z0 :: r).map V.str).drop 1 from cutD _ 1]
      exact upd_same
    refine ⟨S, rfl, ⟨_, SqL.of eS⟩, ?_⟩
    have sm3 := sm2.trans (same_new (o := .lst (cutV ((z0 :: r).map V.str) (some 1) none)) hS)
    have W3 := W.same (same_new (o := .lst (cutV ((z0 :: r).map V.str) (some 1) none)) hS)
    generalize upd H2 S (.lst (cutV ((z0 :: r).map V.str) (some 1) none)) = H3 at eS sm3 W3 ⊢
    have szr : ∀ z ∈ r, z.length + 2 ≤ sizeLine := fun z hz2 => hz z (List.mem_cons_of_mem _ hz2)
    have hd0' : H d = none := sm1.free hd0
    refine for_it walk_list (fun i σ' H' => ∃ (u4 u5 u6 : Option V), σ' = [some (.ref l), some (.str a), some (.str b), some (.ref p), u4, u5, u6] ∧ TownAt (gA K "Town") H' p d m' (numbT 0 ((r.take i).map (pairD m'))) i ∧ H' S = some (.lst (r.map V.str)) ∧ Same H H' ∧ (∀ z ∈ r.take i, ∃ q, goodW m' z = some q))
      ⟨none, none, none, rfl, by rw [List.take_zero]; exact W3, eS, sm3, fun z hz2 => by rw [List.take_zero] at hz2; cases hz2⟩ (fun i σ' H' _ ⟨_, _, _, _, _, z, _⟩ => SqL.of z) ?_ ?_
    · rintro i x σ' H4 H5 hi ⟨u4, u5, u6, rfl, Wi, eSi, smi, good⟩ ⟨rfl, hx⟩
      obtain ⟨z, hzi⟩ : ∃ z, r[i]? = some z := by
        rw [List.getElem?_map] at hx
        cases q : r[i]? with
        | none => rw [q] at hx; cases hx
        | some z => exact ⟨z, rfl⟩
      rw [List.getElem?_map, hzi] at hx
      cases hx
      have hzr : z ∈ r := List.mem_of_getElem? hzi
      have stop : goodW m' z = none → parseP (z0 :: r) = none := fun e => parse_no2 hw (pairs_bad hzr e)
      refine ⟨_, rfl, z, rfl, szr z hzr, fun nt H' sm => ?_, fun a1 b1 eab1 p5 H6 hp5 sm6 h6 => ?_⟩
      · exact no (stop (goodW_no1 nt)) "BadText" (by decide) H' (smi.trans sm)
      refine ⟨p5, _, rfl, SqL.of h6, rfl, _, _, rfl, _, _, rfl, rfl, ?_⟩
      have W6 := Wi.same sm6
      have e6 := sm6 _ _ eSi
      have smA := smi.trans sm6
      obtain ⟨dxi, hpi⟩ := id W6.ob
      obtain ⟨kvi, hdi, _⟩ := id W6.dc
      refine ⟨_, rfl, p, dxi, _, rfl, hpi, tF_no _ _ _ (by decide +kernel) (by decide +kernel) (by decide +kernel), ?_⟩
      refine ⟨_, rfl, a1, rfl, fun n1 => ?_, fun i1 ei1 => ?_⟩
      · refine no (stop (goodW_no2 eab1 fun ⟨_, _, q1, _⟩ => ?_)) "BadText" (by decide) _ smA
        rw [n1] at q1
        cases q1
      refine ⟨_, rfl, b1, rfl, fun n1 => ?_, fun j1 ej1 => ?_⟩
      · refine no (stop (goodW_no2 eab1 fun ⟨_, _, _, q1, _⟩ => ?_)) "BadText" (by decide) _ smA
        rw [n1] at q1
        cases q1
      refine ⟨p, d, m', _, i, _, _, rfl, W6, ⟨"int", rfl⟩, ⟨"int", rfl⟩, fun bad => ?_, fun x y ex ey hx hy ne many => ?_, fun x y ex ey hx hy ne few H7 W7 kp7 => ?_⟩
      · refine no (stop (goodW_no2 eab1 fun ⟨i2, j2, q1, q2, q3, q4, q5⟩ => ?_)) "BadPlace" (by decide) _ smA
        rw [ei1] at q1
        rw [ej1] at q2
        cases q1
        cases q2
        rcases bad with c | c | c
        · rw [isW_true (by omega) (by omega)] at c
          cases c
        · rw [isW_true (by omega) (by omega)] at c
          cases c
        · exact q3 (Int.ofNat.inj (V.int.inj c))
      · refine no (parse_no2 hw (pairs_long ?_)) "TooMany" (by decide) _ smA
        rw [numbT_len, List.length_map, List.length_take] at many
        rw [List.length_map] at hi
        omega
      · cases ex
        cases ey
        have gq : goodW m' z = some (i1, j1) := goodW_of eab1 ei1 ej1 ⟨ne, hx, hy⟩
        have tk : r.take (i + 1) = r.take i ++ [z] := take_snoc hzi
        have li : ((r.take i).map (pairD m')).length = i := by
          rw [List.length_map, List.length_take]
          rw [List.length_map] at hi
          omega
        refine ⟨_, _, _, rfl, ?_, kp7 _ _ e6 (ne_of e6 hpi (by intro z; cases z)) (ne_of e6 hdi (by intro z; cases z)), fun c o hc => kp7 _ _ (smA _ _ hc) (ne_of_none hc hlp) (ne_of_none hc hd0'), fun y hy2 => ?_⟩
        · rw [tk, List.map_append, List.map_cons, List.map_nil, pairD_of gq, numbT_snoc, li, Nat.zero_add]
          exact W7
        · rw [tk] at hy2
          rcases List.mem_append.mp hy2 with h | h
          · exact good y h
          · rw [List.mem_singleton.mp h]
            exact ⟨_, gq⟩
    · rintro σ' H4 ⟨u4, u5, u6, rfl, W4, eS4, sm4, good⟩
      rw [List.length_map, List.take_length] at W4 good
      have few : r.length ≤ 60 := by
        have z := W4.ok.few
        rw [numbT_len, List.length_map] at z
        exact z
      refine ⟨_, rfl, yes m' _ (parse_of hw (pairs_of few good)) p d H4 hlp hd0' sm4 ?_⟩
      rw [List.length_map]
      exact W4
end
end K10

set_option Elab.async false
set_option linter.all false
set_option maxRecDepth 100000
set_option maxHeartbeats 4000000
namespace K10
open PySem PySem.Spec PyProof.Rows L2 Own
/-! ### notes: read -/
def spRead (K : PySem.W.Frag) (C : Addr) : Sp := fun vs H Q E => ∃ x : V, vs = [x] ∧ (∃ n, tyName x H = some n) ∧ (∀ z, x = .str z → z.length + 4 ≤ sizeLine) ∧
  ((∀ z, x = .str z → parseT z = none) → ∀ H', Same H H' → E (.ref (gA K "BadText")) none H') ∧
  (∀ z m J, x = .str z → parseT z = some (m, J) → ∀ (p d : Addr) (H' : Hp), H p = none → H d = none → Same H H' → TownAt C H' p d m (numbT 0 J) J.length → Q (.ref p) H')
structure TxtR (K : PySem.W.Frag) (mg : Str → Option Value) : Prop extends TxtN K mg where
  hit : ∀ y ∈ readErrs, PySem.W.exmAny K (.ref (gA K y)) [.ref (gA K "BadCount"), .ref (gA K "BadPlace"), .ref (gA K "TooMany")] = some (decide (y ≠ "BadText"))
theorem TxtR.sub {K : PySem.W.Frag} {mg : Str → Option Value} (T : TxtR K mg) : ∀ y ∈ readErrs, PySem.W.subIn K (.ref (gA K y)) (.type "BaseException") = some true := fun y hy => by
  simp only [readErrs, List.mem_cons, List.not_mem_nil, or_false] at hy
  rcases hy with h | h | h | h <;> rw [h]
  · exact T.BadCount.b
  · exact T.BadPlace.b
  · exact T.TooMany.b
  · exact T.BadText.b
abbrev s_read : Stmt := top 20
abbrev N_read : List Str := ["text", "why"]
theorem sc_read : FnScope N_read ["text"] (defScope s_read) := ⟨rfl, rfl, rfl, by decide +kernel, rfl, by decide +kernel, by decide +kernel⟩
section
variable {P : Program} {w : World} {K : PySem.W.Frag} {mg : Str → Option Value} {base : Heap} {f : Addr} {fd : FuncData}
theorem ok_read (T : TxtR K mg) (D : FnP K "read" "read" s_read f fd) (c_town_of : CalN P w K mg base 4 "_town_of" (spTownOf K (gA K "Town"))) : FnOk P w K mg base (L2.CX P w) 5 f fd ["text"] (spRead K (gA K "Town")) := by
  have nd := sc_read.nd
  refine D.ok sc_read (fun vs H Q E h => ?_) (fun cdv A outer s H vs Q E hr h => ?_)
  · obtain ⟨x, rfl, _⟩ := h
    rfl
  · obtain ⟨x, rfl, ⟨n, hn⟩, hz, no, yes⟩ := h
    have hu := hu_of hr
    obtain ⟨f_town_of, fd_town_of, ps_town_of, F_town_of, m_town_of, k_town_of, b_town_of⟩ := c_town_of.ex
    refine ⟨_, (pss_cons (ps_if (pt_cmpR op_neTy (pe_callTy call_tyOf rfl T.f_type (by decide +kernel) (pa_cons (pv 0) pa_nil)) (pe_bltn (v := .ty "str") (u := .type "str") rfl T.f_str (by decide +kernel) rfl) (nomark _)) (pss_one (ps_raise rfl (takes_of rfl rfl rfl rfl) (pmk_own PySem.F.excBase_ValueError T.BadText.x T.BadText.m T.BadText.k (raises_own T.BadText.b T.BadText.t) rfl))) pss_nil)
      (pss_one (ps_try_from (i := 1) (c1 := .ref (gA K "BadCount")) (c2 := .ref (gA K "BadPlace")) (c3 := .ref (gA K "TooMany")) (ts := fun a cls W => fun _ σ H => σ[1]? = some (some (.ref a)) ∧ PySem.W.subIn K cls (.type "BaseException") = some true ∧ W (.ref (gA K "BadText")) none σ H) (tb := fun W => tRet (tCallS (spTownOf K (gA K "Town")) (WE W) (tCons (tM1 (fun x xs H Q => ∃ a b, x = .str a ∧ xs = [.str b] ∧ (b.length == 0) = false ∧ a.length + 2 ≤ sizeLine ∧ rNewStrs (Txt.split a b) H Q) (tVar 0) (tC (.str "\n"))) tNil))) rfl rfl rfl nd rfl rfl ⟨rfl, by decide, .inl T.BadCount.m⟩ ⟨rfl, by decide, .inl T.BadPlace.m⟩ ⟨rfl, by decide, .inl T.TooMany.m⟩ (L2H.passesAt_of rfl) (takes_of rfl rfl rfl rfl) (fun W pn xe tk _ => pss_one (ps_ret (pe_callS F_town_of (hr.mono (by decide)) rfl m_town_of k_town_of b_town_of (fun σ => L2N.passAt tk σ) (pa_cons (pe_split (pv 0) pe_str) pa_nil)))) (fun a cls pn NB W tk hand => pss_one (ps_raiseFrom hand tk (pmk5_own PySem.F.excBase_ValueError T.BadText.x T.BadText.m T.BadText.k (raises_own T.BadText.b T.BadText.t) rfl) rfl rfl))))), ?_⟩
    refine ⟨_, rfl, x, n, rfl, hn, n, "str", rfl, rfl, tyName_meta hn, meta_all.2.2.2.1, _, rfl, ?_⟩
    refine if_both (fun e => ?_) (fun e => ?_)
    · refine no (fun z ez => ?_) H (Same.refl _)
      rw [ez] at hn
      cases hn
      simp at e
    have en : n = "str" := by simpa using e
    rw [en] at hn
    obtain ⟨z, rfl⟩ := tyName_str hn
    have hz1 := hz z rfl
    refine ⟨_, rfl, ⟨z, rfl⟩, z, _, rfl, rfl, rfl, (by omega), fun l hl => ?_⟩
    have sm := same_new (o := .lst ((Txt.split z "\n").map V.str)) hl
    refine ⟨l, Txt.split z "\n", rfl, upd_same, rows_ne, fun p hp => ?_, ?_, fun bad y hy H' sm' => ?_, fun m J e p d H' hp hd sm' W => ?_⟩
    · have q : p.length ≤ z.length := rows_le hp
      omega
    · have q : (Txt.split z "\n").length ≤ z.length + 2 := split_many
      omega
    · have out := no (fun z' ez => by cases ez; exact bad) H' (sm.trans sm')
      refine ⟨_, T.hit y hy, fun _ a ha => ⟨rfl, T.sub y hy, out⟩, fun eb => ?_⟩
      have ey : y = "BadText" := by simpa using eb
      rw [ey]
      exact out
    · exact yes z m J rfl e p d H' (sm.free hp) (sm.free hd) (sm.trans sm') W
end
end K10

set_option Elab.async false
set_option linter.all false
set_option maxRecDepth 100000
set_option maxHeartbeats 4000000
namespace K10
open PySem PySem.Spec PyProof.Rows L2 Own
/-! ### the law's helpers: mixed, seed, ends, pairs, many -/
def spMixed : Sp := fun vs H Q _ => ∃ (c k : Int), vs = [.int c, .int k] ∧ Fit c ∧ 0 ≤ k ∧ k ≤ 1000 ∧ ∀ r : Int, 0 ≤ r → r < 2147483629 → Q (.int r) H
def spSeed (K : PySem.W.Frag) : Sp := fun vs H Q _ => ∃ (a : Addr) (ns : List Int), vs = [.ref a] ∧ SqL K H a (ns.map V.int) ∧ (∀ z ∈ ns, Fit z) ∧ ∀ (r : Int) (H' : Hp), 0 ≤ r → r < 2147483629 → Same H H' → Q (.int r) H'
def spEnds : Sp := fun vs H Q _ => ∃ (m : Nat) (way k num : Int), vs = [.int (m : Int), .int way, .int k, .int num] ∧ 2 ≤ m ∧ m ≤ 16 ∧ 0 ≤ k ∧ 0 ≤ num ∧
  ∀ (p : Addr) (H' : Hp) (q : Pair), H p = none → Same H H' → H' p = some (.tup (pairV q)) → PairOk m q → Q (.ref p) H'
def spPairs (K : PySem.W.Frag) : Sp := fun vs H Q _ => ∃ (a : Addr) (ns : List Int) (seed : Int) (m most : Nat), vs = [.ref a, .int seed, .int (m : Int), .int (most : Int)] ∧ SqL K H a (ns.map V.int) ∧ (∀ z ∈ ns, Fit z) ∧ Fit seed ∧ 1 ≤ m ∧ m ≤ 16 ∧ ns.length ≤ 63 ∧ most ≤ 60 ∧
  ∀ (l : Addr) (H' : Hp) (ps : List Pair), H l = none → Same H H' → TL H' l (ps.map pairV) → (∀ q ∈ ps, PairOk m q) → ps.length ≤ most → (m = 1 → ps = []) → Q (.ref l) H'
def spMany : Sp := fun vs H Q _ => ∃ (seed : Int) (most : Nat), vs = [.int seed, .int (most : Int)] ∧ Fit seed ∧ 1 ≤ most ∧ ∀ (m : Nat) (H' : Hp), 1 ≤ m → m ≤ most → Same H H' → Q (.int (m : Int)) H'
abbrev s_law_mixed : Stmt := top 22
abbrev N_law_mixed : List Str := ["_law_cell", "_law_k"]
theorem sc_law_mixed : FnScope N_law_mixed ["_law_cell", "_law_k"] (defScope s_law_mixed) := ⟨rfl, rfl, rfl, by decide +kernel, rfl, by decide +kernel, by decide +kernel⟩
abbrev s_law_seed : Stmt := top 23
abbrev N_law_seed : List Str := ["_law_script", "_law_found", "_law_k", "_law_cell"]
theorem sc_law_seed : FnScope N_law_seed ["_law_script"] (defScope s_law_seed) := ⟨rfl, rfl, rfl, by decide +kernel, rfl, by decide +kernel, by decide +kernel⟩
abbrev s_law_ends : Stmt := top 24
abbrev N_law_ends : List Str := ["_law_many_here", "_law_way", "_law_k", "_law_number_here", "_law_one", "_law_other", "_law_same", "_law_place"]
theorem sc_law_ends : FnScope N_law_ends ["_law_many_here", "_law_way", "_law_k", "_law_number_here"] (defScope s_law_ends) := ⟨rfl, rfl, rfl, by decide +kernel, rfl, by decide +kernel, by decide +kernel⟩
abbrev s_law_pairs : Stmt := top 25
abbrev N_law_pairs : List Str := ["_law_script", "_law_seed_here", "_law_many_here", "_law_most", "_law_way", "_law_far", "_law_found", "_law_k", "_law_cell"]
theorem sc_law_pairs : FnScope N_law_pairs ["_law_script", "_law_seed_here", "_law_many_here", "_law_most"] (defScope s_law_pairs) := ⟨rfl, rfl, rfl, by decide +kernel, rfl, by decide +kernel, by decide +kernel⟩
abbrev s_law_many : Stmt := top 26
abbrev N_law_many : List Str := ["_law_seed_here", "_law_most"]
theorem sc_law_many : FnScope N_law_many ["_law_seed_here", "_law_most"] (defScope s_law_many) := ⟨rfl, rfl, rfl, by decide +kernel, rfl, by decide +kernel, by decide +kernel⟩
structure TxtL (mg : Str → Option Value) : Prop where
  f_enumerate : mg "enumerate" = none
  f_min : mg "min" = none
  f_len : mg "len" = none
  f_range : mg "range" = none
theorem min_nat (x y : Nat) : (if (y : Int) < (x : Int) then (y : Int) else (x : Int)) = ((min x y : Nat) : Int) := by
  split <;> omega
theorem max_nat (x y : Nat) : (if (y : Int) > (x : Int) then (y : Int) else (x : Int)) = ((max x y : Nat) : Int) := by
  split <;> omega
structure TxtM (mg : Str → Option Value) : Prop extends TxtL mg where
  f_list : mg "list" = none
  f_max : mg "max" = none
section
variable {P : Program} {w : World} {K : PySem.W.Frag} {mg : Str → Option Value} {base : Heap} {f : Addr} {fd : FuncData}
theorem ok_mixed (D : FnP K "_law_mixed" "_law_mixed" s_law_mixed f fd) : FnOk P w K mg base (L2.CX P w) 1 f fd ["_law_cell", "_law_k"] spMixed := by
  have nd := sc_law_mixed.nd
  refine D.ok sc_law_mixed (fun vs H Q E h => ?_) (fun cdv A outer s H vs Q E hr h => ?_)
  · obtain ⟨c, j, rfl, _⟩ := h
    rfl
  · obtain ⟨c, j, rfl, fc, j0, j1, k⟩ := h
    have sq : 0 ≤ 2 * j * j ∧ 2 * j * j ≤ 2000000 := by
      have a1 : 0 ≤ j * j := Int.mul_nonneg j0 j0
      have a2 : j * j ≤ 1000 * 1000 := Int.mul_le_mul j1 j1 j0 (by omega)
      have a3 : 2 * j * j = 2 * (j * j) := Int.mul_assoc 2 j j
      omega
    refine ⟨_, (pss_one (ps_ret (pe_op op_mod (pe_op op_mulG (pe_op op_mod (pe_op op_add (pe_op op_add (pe_op op_mulG (pv 0) (pe_op op_add pe_int (pe_op op_mulG (pe_op op_mulG pe_int (pv 1)) (pv 1)))) (pe_op op_mulG pe_int (pv 1))) pe_int) pe_int) pe_int) pe_int))), ?_⟩
    refine ⟨_, rfl, _, rfl, _, _, rfl, rfl, mul_fit (fit_range (by omega) (by omega)) (fit_range (by omega) (by omega)), _, rfl, _, _, rfl, rfl, mul_fit (fit_range (by omega) (by omega)) (fit_range (by omega) (by omega)), _, _, rfl, rfl,
      _, _, rfl, rfl, mul_fit fc (fit_range (by omega) (by omega)), _, rfl, _, _, rfl, rfl, mul_fit (fit_range (by omega) (by omega)) (fit_range (by omega) (by omega)), _, _, rfl, rfl, _, _, rfl, rfl, _, _, rfl, rfl, (by show (0 : Int) < 2147483647; decide),
      _, _, rfl, rfl, ?_, _, _, rfl, rfl, (by show (0 : Int) < 2147483629; decide), ?_⟩
    · have z := emod_lt (i := c * (48271 + 2 * j * j) + 69621 * j + 11) (m := 2147483647) (by decide)
      exact mul_fit (fit_range z.1 (by omega)) (fit_range (by omega) (by omega))
    · have z := emod_lt (i := (c * (48271 + 2 * j * j) + 69621 * j + 11) % 2147483647 * 69621) (m := 2147483629) (by decide)
      exact k _ z.1 z.2
theorem ok_seed (T : TxtL mg) (D : FnP K "_law_seed" "_law_seed" s_law_seed f fd) (c_law_mixed : CalX P w K mg base 1 "_law_mixed" spMixed) : FnOk P w K mg base (L2.CX P w) 2 f fd ["_law_script"] (spSeed K) := by
  have nd := sc_law_seed.nd
  refine D.ok sc_law_seed (fun vs H Q E h => ?_) (fun cdv A outer s H vs Q E hr h => ?_)
  · obtain ⟨a, ns, rfl, _⟩ := h
    rfl
  · obtain ⟨a, ns, rfl, hS, fits, k⟩ := h
    obtain ⟨f_law_mixed, fd_law_mixed, ps_law_mixed, F_law_mixed, m_law_mixed, k_law_mixed, b_law_mixed⟩ := c_law_mixed.ex
    refine ⟨_, (pss_cons (ps_set (i := 1) nd rfl (Or.inl rfl) pe_int)
      (pss_cons (ps_for (passes_of rfl) rfl (pi_enum rfl T.f_enumerate (pa_cons (pv 0) pa_nil)) (pg_tup rfl (pgs_cons (pg_name (i := 2) nd rfl (Or.inl rfl)) (pgs_cons (pg_name (i := 3) nd rfl (Or.inl rfl)) pgs_nil))) (pss_one (ps_set (i := 1) nd rfl (Or.inl rfl) (pe_op op_mod (pe_op op_add (pe_op op_mulG (pv 1) pe_int) (pe_call F_law_mixed (hr.mono (by decide)) rfl m_law_mixed k_law_mixed b_law_mixed .nil passF (pa_cons (pv 3) (pa_cons (pe_op op_mod (pv 2) pe_int) pa_nil)))) pe_int))))
      (pss_one (ps_ret (pv 1))))), ?_⟩
    refine ⟨_, rfl, a, _, rfl, hS, for_it walk_enum (fun i σ H' => ∃ (g : Int) (u v : Option V), σ = [some (.ref a), some (.int g), u, v] ∧ 0 ≤ g ∧ g < 2147483629 ∧ Same H H') ⟨7, none, none, rfl, by decide, by decide, Same.refl H⟩ (fun i σ H' _ ⟨_, _, _, _, _, _, sm⟩ => sm.seq hS) ?_ ?_⟩
    · rintro i x σ H1 H2 hi ⟨g, u, v, rfl, g0, g1, sm⟩ ⟨t, y, z, rfl, ht, rfl, hy, hz⟩
      cases hy
      obtain ⟨c, hc, rfl⟩ := int_item hz
      have sm2 : Same H (upd H1 t (.tup [.int (i : Int), .int c])) := sm.trans (same_new ht)
      have r60 := emod_lt (i := (i : Int)) (m := 60) (by decide)
      refine ⟨t, _, rfl, SqT.of upd_same, rfl, _, _, rfl, _, _, rfl, rfl, ?_⟩
      refine ⟨_, rfl, _, _, rfl, rfl, mul_fit (fit_range g0 (by omega)) (fit_range (by omega) (by omega)), _, rfl, _, rfl, _, _, rfl, rfl, (by show (0 : Int) < 60; decide), c, _, rfl, fits c (List.mem_of_getElem? hc), r60.1, by omega, fun r r0 r1 => ?_⟩
      refine ⟨_, _, rfl, rfl, _, _, rfl, rfl, (by show (0 : Int) < 2147483629; decide), ?_⟩
      have z := emod_lt (i := g * 999983 + r) (m := 2147483629) (by decide)
      exact ⟨_, some (.int (i : Int)), some (.int c), rfl, z.1, z.2, sm2⟩
    · rintro σ H1 ⟨g, u, v, rfl, g0, g1, sm⟩
      exact ⟨_, rfl, k g H1 g0 g1 sm⟩
theorem ok_many (T : TxtL mg) (D : FnP K "_law_many" "_law_many" s_law_many f fd) (c_law_mixed : CalX P w K mg base 1 "_law_mixed" spMixed) : FnOk P w K mg base (L2.CX P w) 2 f fd ["_law_seed_here", "_law_most"] spMany := by
  have nd := sc_law_many.nd
  refine D.ok sc_law_many (fun vs H Q E h => ?_) (fun cdv A outer s H vs Q E hr h => ?_)
  · obtain ⟨a, m, rfl, _⟩ := h
    rfl
  · obtain ⟨seed, most, rfl, fs, hm, k⟩ := h
    obtain ⟨f_law_mixed, fd_law_mixed, ps_law_mixed, F_law_mixed, m_law_mixed, k_law_mixed, b_law_mixed⟩ := c_law_mixed.ex
    refine ⟨_, (pss_one (ps_ret (pe_callB (call_min2 rfl) rfl T.f_min (by decide +kernel) (pa_cons (pv 1) (pa_cons (pe_ix ix_list (pe_lst (pa_cons pe_int (pa_cons pe_int (pa_cons pe_int (pa_cons pe_int (pa_cons pe_int (pa_cons pe_int (pa_cons pe_int (pa_cons pe_int (pa_cons pe_int (pa_cons pe_int pa_nil))))))))))) (pe_op op_mod (pe_call F_law_mixed (hr.mono (by decide)) rfl m_law_mixed k_law_mixed b_law_mixed .nil passF (pa_cons (pv 0) (pa_cons pe_int pa_nil))) pe_int) (fun _ _ => rfl)) pa_nil))))), ?_⟩
    refine ⟨_, rfl, (by show 10 ≤ sizeLine; decide), fun l hl => ?_⟩
    refine ⟨_, rfl, seed, 60, rfl, fs, by decide, by decide, fun r r0 r1 => ?_⟩
    refine ⟨_, _, rfl, rfl, (by show (0 : Int) < 10; decide), ?_⟩
    have z := emod_lt (i := r) (m := 10) (by decide)
    obtain ⟨v, hv, hin⟩ := at_lt (xs := [V.int 1, V.int 2, V.int 3, V.int 4, V.int 5, V.int 6, V.int 7, V.int 9, V.int 12, V.int 16]) z.1 z.2
    obtain ⟨j, rfl, j0⟩ : ∃ j : Nat, v = V.int (j : Int) ∧ 1 ≤ j := by
      simp only [List.mem_cons, List.not_mem_nil, or_false] at hin
      rcases hin with h | h | h | h | h | h | h | h | h | h <;> rw [h]
      · exact ⟨1, rfl, by decide⟩
      · exact ⟨2, rfl, by decide⟩
      · exact ⟨3, rfl, by decide⟩
      · exact ⟨4, rfl, by decide⟩
      · exact ⟨5, rfl, by decide⟩
      · exact ⟨6, rfl, by decide⟩
      · exact ⟨7, rfl, by decide⟩
      · exact ⟨9, rfl, by decide⟩
      · exact ⟨12, rfl, by decide⟩
      · exact ⟨16, rfl, by decide⟩
    refine ⟨l, _, _, _, rfl, rfl, SqL.of upd_same, hv, _, _, rfl, ?_⟩
    by_cases lt : (j : Int) < (most : Int)
    · rw [if_pos lt]
      exact k j _ j0 (by omega) (same_new hl)
    · rw [if_neg lt]
      exact k most _ hm (Nat.le_refl _) (same_new hl)
end
end K10

set_option Elab.async false
set_option linter.all false
set_option maxRecDepth 100000
set_option maxHeartbeats 4000000
namespace K10
open PySem PySem.Spec PyProof.Rows L2 Own
section
variable {P : Program} {w : World} {K : PySem.W.Frag} {mg : Str → Option Value} {base : Heap} {f : Addr} {fd : FuncData}
theorem ok_ends (T : TxtL mg) (D : FnP K "_law_ends" "_law_ends" s_law_ends f fd) : FnOk P w K mg base (L2.CX P w) 1 f fd ["_law_many_here", "_law_way", "_law_k", "_law_number_here"] spEnds := by
  have nd := sc_law_ends.nd
  refine D.ok sc_law_ends (fun vs H Q E h => ?_) (fun cdv A outer s H vs Q E hr h => ?_)
  · obtain ⟨m, way, j, num, rfl, _⟩ := h
    rfl
  · obtain ⟨m, way, j, num, rfl, hm, hm2, j0, n0, k⟩ := h
    refine ⟨_, (pss_cons (ps_set (i := 4) nd rfl (Or.inr rfl) (pe_op op_mod (pv 3) (pv 0)))
      (pss_cons (ps_set (i := 5) nd rfl (Or.inl rfl) (pe_op op_mod (pe_op op_add (pe_op op_add (pv 4) pe_int) (pe_op op_mod (pe_op op_fdiv (pv 3) pe_int) (pe_op op_sub (pv 0) pe_int))) (pv 0)))
      (pss_cons (ps_if (PW.pt (pw_and (pt_cmpR op_eq (pv 1) pe_int (nomark _)) (pw_and1 (pt_cmpR op_lt (pe_op op_add (pv 2) pe_int) (pv 0) (nomark _))))) (pss_one (ps_ret (pe_tup (pa_cons (pe_op op_add (pv 2) pe_int) (pa_cons (pe_op op_mod (pv 3) (pe_op op_add (pv 2) pe_int)) pa_nil))))) pss_nil)
      (pss_cons (ps_if (pt_cmpR op_eq (pv 1) pe_int (nomark _)) (pss_cons (ps_setLc (own := [("_law_place", 7)]) (g := (gName 7)) (i := 6) rfl nd rfl rfl (sw_true rfl rfl rfl (by decide +kernel)) (pi_range1 rfl T.f_range (pa_cons (pv 0) pa_nil)) (blkOk_by (own := [("_law_place", 7)]) (N := N_law_ends) (sc := defScope s_law_ends) (by decide +kernel)) (fun _ _ _ _ _ => (pg_name (i := 7) nd rfl (Or.inl rfl))) (fun _ _ _ _ _ => (pts_one (PW.pt (pw_and (pt_cmpR op_eq (pe_op op_mod (pv 7) pe_int) (pe_op op_mod (pv 4) pe_int) (nomark _)) (pw_and1 (pt_cmpR op_ne (pv 7) (pv 4) (nomark _))))))) (fun _ _ _ _ _ => (pv 7)))
      (pss_one (ps_ret (pe_ifExp (pt_cmpR (op_neD hr.units) (pv 6) (pe_lst pa_nil) (nomark _)) (pe_tup (pa_cons (pv 4) (pa_cons (pe_ix ix_list (pv 6) (pe_op op_mod (pe_op op_fdiv (pv 3) pe_int) (pe_callB call_len_seq rfl T.f_len PySem.boot_len (pa_cons (pv 6) pa_nil))) (fun _ _ => rfl)) pa_nil))) (pe_tup (pa_cons (pv 4) (pa_cons (pv 5) pa_nil))))))) pss_nil)
      (pss_cons (ps_if (pt_cmpR op_eq (pv 1) pe_int (nomark _)) (pss_one (ps_ret (pe_tup (pa_cons (pv 4) (pa_cons (pe_op op_mod (pe_op op_add (pe_op op_add (pv 4) pe_int) (pe_op op_mulG (pe_op op_mod (pe_op op_fdiv (pv 3) pe_int) pe_int) (pe_op op_sub (pv 0) pe_int))) (pv 0)) pa_nil))))) pss_nil)
      (pss_one (ps_ret (pe_tup (pa_cons (pv 4) (pa_cons (pv 5) pa_nil)))))))))), ?_⟩
    obtain ⟨o0, o1⟩ := emod_lt (i := num) (m := (m : Int)) (by omega)
    obtain ⟨s0, s1, s2⟩ := step_ends (m := m) (one := num % (m : Int)) (num := num / 20) hm o0 o1
    have plain : ∀ {p : Addr} {H1 H2 : Hp} {u v : Int}, Same H H1 → H1 p = none → Same H1 H2 → H2 p = some (.tup [.int u, .int v]) → 0 ≤ u → u < m → 0 ≤ v → v < m → u ≠ v → Q (.ref p) H2 := by
      intro p H1 H2 u v sm hp sm2 e u0 u1 v0 v1 ne
      exact k p H2 _ (sm.free hp) (sm.trans sm2) (by rw [pair_nat u0 v0]; exact e) (pair_ok u0 u1 v0 v1 ne)
    refine ⟨_, rfl, _, rfl, _, _, rfl, rfl, (by show (0 : Int) < (m : Int); omega), ?_⟩
    refine ⟨_, rfl, _, _, rfl, rfl, _, rfl, _, _, rfl, rfl, ⟨by decide, by decide⟩, _, rfl, _, _, rfl, rfl, _, _, rfl, rfl, (by show (0 : Int) < (m : Int) - 1; omega), _, _, rfl, rfl, _, rfl, _, _, rfl, rfl, (by show (0 : Int) < (m : Int); omega), ?_⟩
    refine (fun rest => ⟨_, rfl, rfl, _, rfl, if_both (fun e1 => ⟨_, rfl, _, _, rfl, rfl, _, rfl, _, _, rfl, rfl, _, rfl, if_both (fun e2 => ?new) (fun _ => rest)⟩) (fun _ => rest)⟩) ?rest
    case new =>
      -- a new place
      have lt := of_decide_eq_true e2
      obtain ⟨z0, z1⟩ := emod_lt (i := num) (m := j + 1) (by omega)
      exact ⟨_, rfl, _, _, rfl, rfl, _, rfl, _, rfl, _, _, rfl, rfl, _, _, rfl, rfl, (by show (0 : Int) < j + 1; omega), (by show 2 ≤ sizeLine; decide), fun p hp => plain (Same.refl H) hp (same_new hp) upd_same (by omega) lt z0 (by omega) (by omega)⟩
    case rest =>
      refine ⟨_, rfl, rfl, _, rfl, if_both (fun e1 => ?_) (fun _ => ?_)⟩
      · -- every second place
        refine ⟨_, rfl, (m : Int), rfl, by omega, by omega, fun L hL => ?_⟩
        refine lc_it walk_range (fun i H' => ∃ js : List Int, H' L = some (.lst (js.map V.int)) ∧ (∀ z ∈ js, 0 ≤ z ∧ z < m ∧ z ≠ num % (m : Int)) ∧ js.length ≤ i ∧ Same H H') ⟨[], upd_same, fun z hz => (nomatch hz), Nat.le_refl _, same_new hL⟩ (fun _ _ _ _ => trivial) ?_ ?_
        · rintro i x H1 H2 hi ⟨js, e2, e3, e4, sm⟩ ⟨rfl, rfl⟩
          have skip : ∃ js : List Int, H2 L = some (.lst (js.map V.int)) ∧ (∀ z ∈ js, 0 ≤ z ∧ z < m ∧ z ≠ num % (m : Int)) ∧ js.length ≤ i + 1 ∧ Same H H2 := ⟨js, e2, e3, Nat.le_succ_of_le e4, sm⟩
          refine ⟨rfl, _, rfl, _, _, rfl, rfl, (by show (0 : Int) < 2; decide), _, rfl, _, _, rfl, rfl, (by show (0 : Int) < 2; decide), rfl, _, rfl, if_both (fun _ => ⟨_, rfl, _, rfl, rfl, _, rfl, if_both (fun c2 => ?_) (fun _ => skip)⟩) (fun _ => skip)⟩
          refine ⟨_, rfl, _, e2, ?_, js ++ [0 + (i : Int)], by rw [List.map_append]; exact upd_same, fun z hz => ?_, by rw [List.length_append]; show js.length + 1 ≤ i + 1; omega, fun b o e => ?_⟩
          · rw [List.length_map, sizeLine_eq]
            omega
          · rcases List.mem_append.mp hz with h | h
            · exact e3 z h
            · rw [List.mem_singleton] at h
              have ne : ¬ (0 + (i : Int) = num % (m : Int)) := by
                intro y
                have c3 : (!decide (V.int (0 + (i : Int)) = V.int (num % (m : Int)))) = true := c2
                rw [y] at c3
                simp at c3
              have : (i : Int) < (m : Int) := by omega
              rw [h]
              omega
          · rw [upd_ne (ne_of_none e hL)]
            exact sm b o e
        · rintro H1 ⟨js, e2, e3, e4, sm⟩
          refine ⟨_, rfl, (by show 0 ≤ sizeLine; decide), fun L2 hL2 => ?_⟩
          have nLL : L ≠ L2 := ne_of_none e2 hL2
          have at2 : upd H1 L2 (.lst []) L = some (.lst (js.map V.int)) := by
            rw [upd_ne nLL]
            exact e2
          refine ⟨_, _, .lst (SqL.of at2) (dp_ints js), .lst (SqL.of upd_same) .nil, (lay_ints js).shaped (by decide), (lay_ints []).shaped (by decide), _, rfl, ?_⟩
          have sm2 : Same H (upd H1 L2 (.lst [])) := sm.trans (same_new hL2)
          cases js with
          | nil =>
            rw [show PyData.eqv (.list (([] : List Int).map PyData.int)) (.list []) = true from eqv_nil_nil]
            refine ⟨_, rfl, _, rfl, (by show 2 ≤ sizeLine; decide), fun p hp => plain sm2 hp (same_new hp) upd_same o0 o1 s0 s1 (Ne.symm s2)⟩
          | cons j1 js =>
            rw [show PyData.eqv (.list ((j1 :: js).map PyData.int)) (.list []) = false from eqv_cons_nil _ _]
            have pos : (0 : Int) < (((j1 :: js).map V.int).length : Int) := by
              rw [List.length_map, List.length_cons]
              omega
            obtain ⟨v, hv, hin⟩ := at_mod (xs := (j1 :: js).map V.int) (i := num / 20) (by simp)
            obtain ⟨z, hz, rfl⟩ := List.mem_map.mp hin
            obtain ⟨b0, b1, b2⟩ := e3 z hz
            exact ⟨_, rfl, _, rfl, _, rfl, _, _, rfl, rfl, ⟨by decide, by decide⟩, _, rfl, L, _, rfl, .inl (SqL.of at2), _, _, rfl, rfl, pos, L, _, _, _, rfl, rfl, SqL.of at2, hv, (by show 2 ≤ sizeLine; decide), fun p hp => plain sm2 hp (same_new hp) upd_same o0 o1 b0 b1 (Ne.symm b2)⟩
      · refine ⟨_, rfl, rfl, _, rfl, if_both (fun e1 => ?_) (fun _ => ?_)⟩
        · -- neighbours
          obtain ⟨t0, t1, t2⟩ : 0 ≤ (num % (m : Int) + 1 + num / 20 % 2 * ((m : Int) - 2)) % m ∧ (num % (m : Int) + 1 + num / 20 % 2 * ((m : Int) - 2)) % m < m ∧ (num % (m : Int) + 1 + num / 20 % 2 * ((m : Int) - 2)) % m ≠ num % (m : Int) := by
            have half : num / 20 % 2 = 0 ∨ num / 20 % 2 = 1 := by omega
            rcases half with z | z <;> rw [z]
            · rw [Int.zero_mul, Int.add_zero]
              have q := step_ends (m := m) (one := num % (m : Int)) (num := 0) hm o0 o1
              rw [Int.zero_emod, Int.add_zero] at q
              exact q
            · rw [Int.one_mul]
              have q := step_ends (m := m) (one := num % (m : Int)) (num := (m : Int) - 2) hm o0 o1
              have same : ((m : Int) - 2) % ((m : Int) - 1) = (m : Int) - 2 := Int.emod_eq_of_lt (by omega) (by omega)
              rw [same] at q
              exact q
          exact ⟨_, rfl, _, rfl, _, _, rfl, rfl, _, rfl, _, _, rfl, rfl, ⟨by decide, by decide⟩, _, _, rfl, rfl, (by show (0 : Int) < 2; decide), _, rfl, _, _, rfl, rfl, _, _, rfl, rfl, mul_fit (fit_range (by omega) (by omega)) (fit_range (by omega) (by omega)), _, _, rfl, rfl, _, rfl, _, _, rfl, rfl, (by show (0 : Int) < (m : Int); omega), (by show 2 ≤ sizeLine; decide), fun p hp => plain (Same.refl H) hp (same_new hp) upd_same o0 o1 t0 t1 (Ne.symm t2)⟩
        · exact ⟨_, rfl, _, rfl, (by show 2 ≤ sizeLine; decide), fun p hp => plain (Same.refl H) hp (same_new hp) upd_same o0 o1 s0 s1 (Ne.symm s2)⟩
theorem ok_pairs (T : TxtL mg) (D : FnP K "_law_pairs" "_law_pairs" s_law_pairs f fd) (c_law_mixed : CalX P w K mg base 1 "_law_mixed" spMixed) (c_law_ends : CalX P w K mg base 1 "_law_ends" spEnds) : FnOk P w K mg base (L2.CX P w) 2 f fd ["_law_script", "_law_seed_here", "_law_many_here", "_law_most"] (spPairs K) := by
  have nd := sc_law_pairs.nd
  refine D.ok sc_law_pairs (fun vs H Q E h => ?_) (fun cdv A outer s H vs Q E hr h => ?_)
  · obtain ⟨a, ns, seed, m, most, rfl, _⟩ := h
    rfl
  · obtain ⟨a, ns, seed, m, most, rfl, hS, fits, fs, m1, m2, hl, hmost, k⟩ := h
    obtain ⟨f_law_mixed, fd_law_mixed, ps_law_mixed, F_law_mixed, m_law_mixed, k_law_mixed, b_law_mixed⟩ := c_law_mixed.ex
    obtain ⟨f_law_ends, fd_law_ends, ps_law_ends, F_law_ends, m_law_ends, k_law_ends, b_law_ends⟩ := c_law_ends.ex
    refine ⟨_, (pss_cons (ps_if (pt_cmpR op_eq (pv 2) pe_int (nomark _)) (pss_one (ps_ret (pe_lst pa_nil))) pss_nil)
      (pss_cons (ps_set (i := 4) nd rfl (Or.inl rfl) (pe_op op_mod (pe_call F_law_mixed (hr.mono (by decide)) rfl m_law_mixed k_law_mixed b_law_mixed .nil passF (pa_cons (pv 1) (pa_cons pe_int pa_nil))) pe_int))
      (pss_cons (ps_set (i := 5) nd rfl (Or.inl rfl) (pe_ix ix_list (pe_lst (pa_cons (pv 2) (pa_cons (pe_op op_add (pv 2) pe_int) (pa_cons (pv 3) (pa_cons (pe_op op_mulG pe_int (pv 2)) pa_nil))))) (pe_op op_mod (pe_call F_law_mixed (hr.mono (by decide)) rfl m_law_mixed k_law_mixed b_law_mixed .nil passF (pa_cons (pv 1) (pa_cons pe_int pa_nil))) pe_int) (fun _ _ => rfl)))
      (pss_cons (ps_set (i := 6) nd rfl (Or.inl rfl) (pe_lst pa_nil))
      (pss_cons (ps_for (passes_of rfl) rfl (pi_enum rfl T.f_enumerate (pa_cons (pe_slice sl_list (pv 0) po_none (po_some (pe_callB (call_min2 rfl) rfl T.f_min (by decide +kernel) (pa_cons (pv 5) (pa_cons (pv 3) pa_nil))))) pa_nil)) (pg_tup rfl (pgs_cons (pg_name (i := 7) nd rfl (Or.inl rfl)) (pgs_cons (pg_name (i := 8) nd rfl (Or.inl rfl)) pgs_nil))) (pss_one (ps_expr (pe_bm PySem.F.plainAttrs_list PySem.F.slot_list_append PySem.F.type_list_append mt_append (pv 6) (pa_cons (pe_call F_law_ends (hr.mono (by decide)) rfl m_law_ends k_law_ends b_law_ends .nil passF (pa_cons (pv 2) (pa_cons (pv 4) (pa_cons (pv 7) (pa_cons (pe_call F_law_mixed (hr.mono (by decide)) rfl m_law_mixed k_law_mixed b_law_mixed .nil passF (pa_cons (pv 8) (pa_cons (pe_op op_add pe_int (pe_op op_mod (pv 7) pe_int)) pa_nil))) pa_nil))))) pa_nil)))))
      (pss_one (ps_ret (pv 6)))))))), ?_⟩
    refine ⟨_, rfl, rfl, _, rfl, if_both (fun e1 => ?_) (fun e1 => ?_)⟩
    · exact ⟨(by show 0 ≤ sizeLine; decide), fun l hl => k l _ [] hl (same_new hl) ⟨[], upd_same, .nil⟩ (fun q hq => (nomatch hq)) (Nat.zero_le _) (fun _ => rfl)⟩
    · have big : 2 ≤ m := by
        by_cases h : m = 1
        · exfalso
          rw [h] at e1
          simp at e1
        · omega
      refine ⟨_, rfl, seed, 1, rfl, fs, by decide, by decide, fun r r0 r1 => ?_⟩
      refine ⟨_, _, rfl, rfl, (by show (0 : Int) < 5; decide), ?_⟩
      refine ⟨_, rfl, _, rfl, _, _, rfl, rfl, _, rfl, _, rfl, _, _, rfl, rfl, mul_fit (fit_range (by decide) (by decide)) (fit_range (by omega) (by omega)), (by show 4 ≤ sizeLine; decide), fun L hL => ?_⟩
      refine ⟨_, rfl, seed, 2, rfl, fs, by decide, by decide, fun r2 r20 r21 => ?_⟩
      refine ⟨_, _, rfl, rfl, (by show (0 : Int) < 4; decide), ?_⟩
      have z := emod_lt (i := r2) (m := 4) (by decide)
      obtain ⟨v, hv, hin⟩ := at_lt (xs := [V.int (m : Int), V.int ((m : Int) + 3), V.int (most : Int), V.int (2 * (m : Int))]) z.1 z.2
      obtain ⟨far, rfl⟩ : ∃ far : Nat, v = V.int (far : Int) := by
        simp only [List.mem_cons, List.not_mem_nil, or_false] at hin
        rcases hin with h | h | h | h
        · exact ⟨m, h⟩
        · exact ⟨m + 3, by rw [h]; simp⟩
        · exact ⟨most, h⟩
        · exact ⟨2 * m, by rw [h]; simp⟩
      refine ⟨L, _, _, _, rfl, rfl, SqL.of upd_same, hv, ?_⟩
      have smL : Same H (upd H L (.lst [V.int (m : Int), V.int ((m : Int) + 3), V.int (most : Int), V.int (2 * (m : Int))])) := same_new hL
      refine ⟨(by show 0 ≤ sizeLine; decide), fun F hF => ?_⟩
      have smF := smL.trans (same_new (o := .lst []) hF)
      obtain ⟨cut, hcut⟩ : ∃ cut : Nat, (if (most : Int) < (far : Int) then (most : Int) else (far : Int)) = (cut : Int) ∧ cut ≤ most := by
        by_cases h : (most : Int) < (far : Int)
        · exact ⟨most, by rw [if_pos h], Nat.le_refl _⟩
        · exact ⟨far, by rw [if_neg h], by omega⟩
      refine ⟨_, rfl, _, rfl, _, rfl, _, _, rfl, _, rfl, a, _, rfl, smF.seq hS, fun S hS2 => ?_⟩
      rw [hcut.1, cut_take, ← List.map_take]
      have nFS : F ≠ S := ne_of_none upd_same hS2
      have smS := smF.trans (same_new (o := .lst ((ns.take cut).map V.int)) hS2)
      have hF0 : H F = none := smL.free hF
      have len : ((ns.take cut).map V.int).length ≤ 63 := by
        rw [List.length_map, List.length_take]
        omega
      have lenc : ((ns.take cut).map V.int).length ≤ most := by
        rw [List.length_map, List.length_take]
        omega
      refine ⟨S, _, rfl, SqL.of upd_same, for_it walk_enum (fun i σ H' => ∃ (ps : List Pair) (u v : Option V), σ = [some (.ref a), some (.int seed), some (.int (m : Int)), some (.int (most : Int)), some (.int (r % 5)), some (.int (far : Int)), some (.ref F), u, v] ∧ TL H' F (ps.map pairV) ∧ ps.length = i ∧ (∀ q ∈ ps, PairOk m q) ∧ Same H H' ∧ H' S = some (.lst ((ns.take cut).map V.int)))
        ⟨[], none, none, rfl, ⟨[], by rw [upd_ne nFS]; exact upd_same, .nil⟩, rfl, fun q hq => (nomatch hq), smS, upd_same⟩ (fun i σ H' _ ⟨_, _, _, _, _, _, _, _, e⟩ => SqL.of e) ?_ ?_⟩
      · rintro i x σ H1 H2 hi ⟨ps, u, v, rfl, ⟨vs, e1, e2⟩, e3, e4, sm, e5⟩ ⟨t, y, zz, rfl, ht, rfl, hy, hz⟩
        cases hy
        obtain ⟨c, hc, rfl⟩ := int_item hz
        have fc : Fit c := fits c (List.mem_of_mem_take (List.mem_of_getElem? hc))
        have r50 := emod_lt (i := (i : Int)) (m := 50) (by decide)
        have nFt : F ≠ t := ne_of_none e1 ht
        refine ⟨t, _, rfl, SqT.of upd_same, rfl, _, _, rfl, _, _, rfl, rfl, ?_⟩
        refine ⟨_, rfl, .inl ⟨rfl, _, SqL.of (by rw [upd_ne nFt]; exact e1)⟩, _, rfl, _, rfl, _, rfl, _, rfl, _, rfl, _, _, rfl, rfl, (by show (0 : Int) < 50; decide), _, _, rfl, rfl, c, _, rfl, fc, by omega, by omega, fun rr rr0 rr1 => ?_⟩
        refine ⟨m, _, _, _, rfl, big, m2, by omega, rr0, fun p H3 q hp sm3 e6 okq => ?_⟩
        have keep : ∀ b o, H1 b = some o → H3 b = some o := fun b o e => sm3 b o (by rw [upd_ne (ne_of_none e ht)]; exact e)
        have nFp : F ≠ p := ne_of_none (show upd H1 t _ F = some _ by rw [upd_ne nFt]; exact e1) hp
        refine ⟨F, _, _, rfl, rfl, keep _ _ e1, ?_, ps ++ [q], some (.int (i : Int)), some (.int c), rfl, ⟨vs ++ [V.ref p], upd_same, ?_⟩, by rw [List.length_append, e3]; rfl, fun q2 hq2 => ?_, fun b o e => ?_, ?_⟩
        · rw [tups_len e2, List.length_map, e3, sizeLine_eq]
          omega
        · rw [List.map_append]
          refine tups_snoc (by rw [upd_ne nFp.symm]; exact e6) (tups_ext (fun b xs e => ?_) e2)
          rw [upd_ne (fun z => by rw [z, e1] at e; cases e)]
          exact keep b _ e
        · rcases List.mem_append.mp hq2 with h | h
          · exact e4 q2 h
          · rw [List.mem_singleton] at h
            rw [h]
            exact okq
        · rw [upd_ne (ne_of_none e hF0)]
          exact keep b o (sm b o e)
        · rw [upd_ne nFS.symm]
          exact keep _ _ e5
      · rintro σ H1 ⟨ps, u, v, rfl, e1, e3, e4, sm, e5⟩
        refine ⟨_, rfl, k F H1 ps hF0 sm e1 e4 (by omega) (fun h => by omega)⟩
end
end K10

set_option Elab.async false
set_option linter.all false
set_option maxRecDepth 100000
set_option maxHeartbeats 4000000
namespace K10
open PySem PySem.Spec PyProof.Rows L2 Own
def spMade (C : Addr) : Sp := fun vs H Q _ => ∃ (m : Nat) (pl : Addr) (seed : Int) (ps : List Pair), vs = [.int (m : Int), .ref pl, .int seed] ∧ 1 ≤ m ∧ m ≤ 16 ∧ TL H pl (ps.map pairV) ∧ (∀ q ∈ ps, PairOk m q) ∧ ps.length ≤ 60 ∧ Fit seed ∧
  ∀ (q p d l : Addr) (H' : Hp) (rows : List TRow) (n : Nat), H q = none → H p = none → H d = none → H l = none → Same H H' → H' q = some (.tup [.ref p, .ref l]) → TownAt C H' p d m rows n → TL H' l (rows.map rowV) → rows.map (·.2) = ps → n ≤ 2 * ps.length → (∀ i r, rows[i]? = some r → r.1 ≤ 2 * i + 1) → Q (.ref q) H'
abbrev s_law_made : Stmt := top 27
abbrev N_law_made : List Str := ["_law_many_here", "_law_pairs_here", "_law_seed_here", "_law_town", "_law_rows", "_law_k", "_law_one", "_law_other"]
theorem sc_law_made : FnScope N_law_made ["_law_many_here", "_law_pairs_here", "_law_seed_here"] (defScope s_law_made) := ⟨rfl, rfl, rfl, by decide +kernel, rfl, by decide +kernel, by decide +kernel⟩
section
variable {P : Program} {w : World} {K : PySem.W.Frag} {mg : Str → Option Value} {base : Heap} {f : Addr} {fd : FuncData}
theorem ok_made (T : TxtL mg) (D : FnP K "_law_made" "_law_made" s_law_made f fd) (c_law_mixed : CalX P w K mg base 1 "_law_mixed" spMixed) (c_Town : MakX P w K mg base 2 "Town" (gA K "Town") (spInit K (gA K "Town"))) (c_Town_build : MetX P w K mg base 2 (gA K "Town") "build" (spBuild K (gA K "Town"))) (c_Town_dig : MetX P w K mg base 2 (gA K "Town") "dig" (spDig K (gA K "Town"))) :
    FnOk P w K mg base (L2.CX P w) 4 f fd ["_law_many_here", "_law_pairs_here", "_law_seed_here"] (spMade (gA K "Town")) := by
  have nd := sc_law_made.nd
  refine D.ok sc_law_made (fun vs H Q E h => ?_) (fun cdv A outer s H vs Q E hr h => ?_)
  · obtain ⟨m, pl, seed, ps, rfl, _⟩ := h
    rfl
  · obtain ⟨m, pl, seed, ps, rfl, m1, m2, hP, okp, hlen, fs, k⟩ := h
    obtain ⟨f_law_mixed, fd_law_mixed, ps_law_mixed, F_law_mixed, m_law_mixed, k_law_mixed, b_law_mixed⟩ := c_law_mixed.ex
    obtain ⟨f_Town, fd_Town, ps_Town, M_Town, F_Town, m_Town, b_Town⟩ := c_Town.ex
    obtain ⟨f_Town_build, fd_Town_build, ps_Town_build, c_Town_build, M_Town_build, F_Town_build, b_Town_build⟩ := c_Town_build.ex
    obtain ⟨f_Town_dig, fd_Town_dig, ps_Town_dig, c_Town_dig, M_Town_dig, F_Town_dig, b_Town_dig⟩ := c_Town_dig.ex
    refine ⟨_, (pss_cons (ps_set (i := 3) nd rfl (Or.inl rfl) (pe_make M_Town F_Town (hr.mono (by decide)) rfl m_Town b_Town .nil passF (pa_cons (pv 0) pa_nil)))
      (pss_cons (ps_set (i := 4) nd rfl (Or.inl rfl) (pe_lst pa_nil))
      (pss_cons (ps_for (passes_of rfl) rfl (pi_enum rfl T.f_enumerate (pa_cons (pv 1) pa_nil)) (pg_tup rfl (pgs_cons (pg_name (i := 5) nd rfl (Or.inl rfl)) (pgs_cons (pg_tup rfl (pgs_cons (pg_name (i := 6) nd rfl (Or.inl rfl)) (pgs_cons (pg_name (i := 7) nd rfl (Or.inl rfl)) pgs_nil))) pgs_nil))) (pss_cons (ps_if (pt_cmpR op_eq (pe_op op_mod (pe_call F_law_mixed (hr.mono (by decide)) rfl m_law_mixed k_law_mixed b_law_mixed .nil passF (pa_cons (pv 2) (pa_cons (pe_op op_add pe_int (pe_op op_mod (pv 5) pe_int)) pa_nil))) pe_int) pe_int (nomark _)) (pss_one (ps_expr (pe_meth (pv 3) c_Town_dig M_Town_dig F_Town_dig (hr.mono (by decide)) b_Town_dig .nil passF (pa_cons (pe_meth (pv 3) c_Town_build M_Town_build F_Town_build (hr.mono (by decide)) b_Town_build .nil passF (pa_cons (pv 7) (pa_cons (pv 6) pa_nil))) pa_nil)))) pss_nil)
      (pss_one (ps_expr (pe_bm PySem.F.plainAttrs_list PySem.F.slot_list_append PySem.F.type_list_append mt_append (pv 4) (pa_cons (pe_tup (pa_cons (pe_meth (pv 3) c_Town_build M_Town_build F_Town_build (hr.mono (by decide)) b_Town_build .nil passF (pa_cons (pv 6) (pa_cons (pv 7) pa_nil))) (pa_cons (pv 6) (pa_cons (pv 7) pa_nil)))) pa_nil))))))
      (pss_one (ps_ret (pe_tup (pa_cons (pv 3) (pa_cons (pv 4) pa_nil)))))))), ?_⟩
    refine ⟨_, rfl, fun p dx np ndx nep => ?_⟩
    refine ⟨p, dx, _, rfl, upd_same, ⟨"int", rfl⟩, fun z => ?_, fun m' em _ _ d H1 hd W kp => ⟨rfl, ?_⟩⟩
    · rw [isW_true (by omega) (by omega)] at z
      cases z
    have em' : m' = m := (Int.ofNat.inj (V.int.inj em)).symm
    subst em'
    obtain ⟨ndp, hd1⟩ := upd_none hd
    obtain ⟨_, hd0⟩ := upd_none hd1
    have sm1 : Same H H1 := Same.made np ndx kp
    refine ⟨(by show 0 ≤ sizeLine; decide), fun L hL => ?_⟩
    have hL0 : H L = none := sm1.free hL
    obtain ⟨pvs, hpl, tp⟩ := hP
    have tpl := tups_len tp
    rw [List.length_map] at tpl
    have nLp : L ≠ p := by
      obtain ⟨dy, z⟩ := W.ob
      exact (ne_of_none z hL).symm
    have nLd : L ≠ d := by
      obtain ⟨kvs, z, _⟩ := W.dc
      exact (ne_of_none z hL).symm
    refine ⟨_, rfl, pl, pvs, rfl, (sm1.trans (same_new hL)).seq (SqL.of hpl), for_it walk_enum (fun i σ H' => ∃ (rows : List TRow) (n : Nat) (u v x : Option V), σ = [some (.int (m' : Int)), some (.ref pl), some (.int seed), some (.ref p), some (.ref L), u, v, x] ∧ TownAt (gA K "Town") H' p d m' rows n ∧ TL H' L (rows.map rowV) ∧ rows.map (·.2) = ps.take i ∧ n ≤ 2 * i ∧ Same H H' ∧ ∀ j r, rows[j]? = some r → r.1 ≤ 2 * j + 1)
      ⟨[], 0, none, none, none, rfl, W.same (same_new hL), ⟨[], upd_same, .nil⟩, rfl, Nat.le_refl _, sm1.trans (same_new hL), fun j r h => by simp at h⟩ (fun i σ H' _ ⟨_, _, _, _, _, _, _, _, _, _, sm, _⟩ => sm.seq (SqL.of hpl)) ?_ ?_⟩
    · rintro i x σ H2 H3 hi ⟨rows, n, u, v, y, rfl, W2, ⟨vs, e1, e2⟩, e3, nb, sm2, lo⟩ ⟨t, ka, za, rfl, ht, rfl, hk, hz⟩
      cases hk
      obtain ⟨tq, xs, rfl, hxs, htq⟩ := tups_get tp hz
      rw [List.getElem?_map] at hxs
      obtain ⟨q, hq, rfl⟩ : ∃ q, ps[i]? = some q ∧ xs = pairV q := by
        cases e : ps[i]? with
        | none =>
          rw [e] at hxs
          cases hxs
        | some q =>
          rw [e] at hxs
          exact ⟨q, rfl, (Option.some.inj hxs).symm⟩
      obtain ⟨q1, q2, q3⟩ := okp q (List.mem_of_getElem? hq)
      have lenr : rows.length < 60 := by
        have z := congrArg List.length e3
        rw [List.length_map, List.length_take] at z
        omega
      have W3 : TownAt (gA K "Town") (upd H2 t (.tup [.int (i : Int), .ref tq])) p d m' rows n := W2.same (same_new ht)
      have r30 := emod_lt (i := (i : Int)) (m := 30) (by decide)
      have htq2 := sm2 _ _ htq
      refine ⟨t, _, rfl, SqT.of upd_same, rfl, _, _, rfl, _, _, rfl, tq, _, rfl, SqT.of (by rw [upd_ne (ne_of_none htq2 ht)]; exact htq2), rfl, _, _, rfl, _, _, rfl, rfl, rfl, ?_⟩
      refine (fun (rest : ∀ (H4 : Hp) (n4 : Nat), n4 ≤ n + 1 → TownAt (gA K "Town") H4 p d m' rows n4 → Keeps (upd H2 t (.tup [.int (i : Int), .ref tq])) H4 p d → (_ : Hp → Prop) H4) => ⟨_, rfl, _, rfl, _, _, rfl, rfl, (by show (0 : Int) < 30; decide), _, _, rfl, rfl, seed, _, rfl, fs, (by omega), (by omega), fun r r0 r1 => ⟨_, _, rfl, rfl, (by show (0 : Int) < 4; decide), rfl, _, rfl, if_both (fun c1 => ?extra) (fun _ => rest _ n (Nat.le_succ n) W3 (fun c o hc _ _ => hc))⟩⟩) ?rest
      case extra =>
        obtain ⟨d1, hd1⟩ := W3.ob
        refine ⟨_, rfl, p, d1, _, rfl, hd1, tF_no _ _ _ (by decide +kernel) (by decide +kernel) (by decide +kernel), _, rfl, p, d1, _, rfl, hd1, tF_no _ _ _ (by decide +kernel) (by decide +kernel) (by decide +kernel), _, rfl, _, rfl, p, d, m', rows, n, _, _, rfl, W3, ⟨"int", rfl⟩, ⟨"int", rfl⟩, fun z => ?_, fun a b ea eb _ _ _ z => ?_, fun a b ea eb ha hb ne few H5 W5 kp5 => ?_⟩
        · rcases z with z | z | z
          · rw [isW_true (by omega) (by omega)] at z
            cases z
          · rw [isW_true (by omega) (by omega)] at z
            cases z
          · exact q3 (Int.ofNat.inj (V.int.inj z)).symm
        · omega
        · refine ⟨p, d, m', _, n + 1, _, rfl, W5, ⟨"int", rfl⟩, fun z => z ⟨n, rfl, ?_⟩, fun s es hs H6 W6 kp6 => ?_⟩
          · rw [List.map_append]
            exact List.mem_append_right _ (List.mem_singleton.mpr rfl)
          · have es' : s = n := (Int.ofNat.inj (V.int.inj es)).symm
            subst es'
            rw [W3.ok.back] at W6
            exact rest H6 _ (Nat.le_refl _) W6 fun c o hc h1 h2 => kp6 c o (kp5 c o hc h1 h2) h1 h2
      case rest =>
        intro H4 n4 hn4 W4 kp4
        obtain ⟨d1, hd1⟩ := W4.ob
        have nLt : L ≠ t := ne_of_none e1 ht
        have at4 : H4 L = some (.lst vs) := kp4 _ _ (by rw [upd_ne nLt]; exact e1) nLp nLd
        refine ⟨_, rfl, .inl ⟨rfl, _, SqL.of at4⟩, ?_⟩
        refine ⟨_, rfl, p, d1, _, rfl, hd1, tF_no _ _ _ (by decide +kernel) (by decide +kernel) (by decide +kernel), _, rfl, _, rfl, p, d, m', rows, n4, _, _, rfl, W4, ⟨"int", rfl⟩, ⟨"int", rfl⟩, fun z => ?_, fun a b ea eb _ _ _ z => ?_, fun a b ea eb ha hb ne few H5 W5 kp5 => ?_⟩
        · rcases z with z | z | z
          · rw [isW_true (by omega) (by omega)] at z
            cases z
          · rw [isW_true (by omega) (by omega)] at z
            cases z
          · exact q3 (Int.ofNat.inj (V.int.inj z))
        · omega
        · have ea' : a = q.1 := (Int.ofNat.inj (V.int.inj ea)).symm
          have eb' : b = q.2 := (Int.ofNat.inj (V.int.inj eb)).symm
          subst ea' eb'
          refine ⟨_, rfl, _, rfl, (by show 3 ≤ sizeLine; decide), fun g hg => ?_⟩
          have at5 := kp5 _ _ at4 nLp nLd
          have nLg : L ≠ g := ne_of_none at5 hg
          have tups5 : ∀ b xs, H2 b = some (.tup xs) → H5 b = some (.tup xs) := fun b xs e => keeps_tups W4 kp5 _ _ (keeps_tups W3 kp4 _ _ (by rw [upd_ne (ne_of_none e ht)]; exact e))
          refine ⟨L, vs, _, rfl, rfl, by rw [upd_ne nLg]; exact at5, ?_, rows ++ [(n4, q.1, q.2)], n4 + 1, some (.int (i : Int)), some (.int (q.1 : Int)), some (.int (q.2 : Int)), rfl, ?_, ⟨vs ++ [V.ref g], upd_same, ?_⟩, ?_, by omega, fun b o e => ?_, fun j r hj => ?_⟩
          · rw [tups_len e2, List.length_map, sizeLine_eq]
            omega
          · obtain ⟨dz, h1⟩ := W5.ob
            obtain ⟨kvs, h2, h3⟩ := W5.dc
            refine ⟨⟨dz, by rw [upd_ne nLp.symm, upd_ne (ne_of_none h1 hg)]; exact h1⟩, ⟨kvs, by rw [upd_ne nLd.symm, upd_ne (ne_of_none h2 hg)]; exact h2, ents_ext (fun b xs e => ?_) h3⟩, W5.ok, W5.pm⟩
            rw [upd_ne (fun z => by rw [z, at5] at e; cases e), upd_ne (ne_of_none e hg)]
            exact e
          · rw [List.map_append]
            refine tups_snoc (by rw [upd_ne nLg.symm]; exact upd_same) (tups_ext (fun b xs e => ?_) e2)
            rw [upd_ne (fun z => by rw [z, e1] at e; cases e), upd_ne (ne_of_none (tups5 b xs e) hg)]
            exact tups5 b xs e
          · rw [List.map_append, e3, take_snoc hq]
            rfl
          · have nbp : b ≠ p := fun z => by rw [z, np] at e; cases e
            have nbd : b ≠ d := fun z => by rw [z, hd0] at e; cases e
            have nbt := sm2 b o e
            rw [upd_ne (ne_of_none e hL0)]
            have z5 := kp5 b o (kp4 b o (by rw [upd_ne (ne_of_none nbt ht)]; exact nbt) nbp nbd) nbp nbd
            rw [upd_ne (ne_of_none z5 hg)]
            exact z5
          · have li : rows.length = i := by
              have z := congrArg List.length e3
              rw [List.length_map, List.length_take] at z
              omega
            by_cases hlt : j < rows.length
            · rw [List.getElem?_append_left hlt] at hj
              exact lo j r hj
            · rw [List.getElem?_append_right (by omega)] at hj
              by_cases h0 : j - rows.length = 0
              · rw [h0] at hj
                cases hj
                show n4 ≤ 2 * j + 1
                omega
              · have : ∃ x, j - rows.length = x + 1 := ⟨j - rows.length - 1, by omega⟩
                obtain ⟨x, hx⟩ := this
                rw [hx] at hj
                simp at hj
    · rintro σ H2 ⟨rows, n, u, v, y, rfl, W2, tl, e3, nb, sm2, lo⟩
      rw [tpl, List.take_length] at e3
      refine ⟨_, rfl, _, rfl, (by show 2 ≤ sizeLine; decide), fun q hq => ?_⟩
      obtain ⟨vs, e1, e2⟩ := tl
      exact k q p d L _ rows n (sm2.free hq) np hd0 hL0 (sm2.trans (same_new hq)) upd_same (W2.same (same_new hq)) ⟨vs, same_new hq _ _ e1, tups_ext (fun b xs e => same_new hq _ _ e) e2⟩ e3 (by omega) lo
end
end K10

set_option Elab.async false
set_option linter.all false
set_option maxRecDepth 100000
set_option maxHeartbeats 4000000
namespace K10
open PySem PySem.Spec PyProof.Rows L2 Own
/-! ### the law's word for a refusal -/
def errNames : List Str := ["BadCount", "BadPlace", "BadStreet", "TooMany", "Parted", "BadWays", "BadText"]
def plainErrs : List Str := ["BadCount", "BadPlace", "BadStreet", "TooMany", "BadWays", "BadText"]
structure TxtW (K : PySem.W.Frag) (mg : Str → Option Value) : Prop where
  f_isinstance : mg "isinstance" = none
  f_ValueError : mg "ValueError" = none
  m_TownError : mg "TownError" = some (.ref (gA K "TownError"))
  g_BadCount : ∃ u, mg "BadCount" = some u ∧ RelV (.ref (gA K "BadCount")) u
  g_BadPlace : ∃ u, mg "BadPlace" = some u ∧ RelV (.ref (gA K "BadPlace")) u
  g_BadStreet : ∃ u, mg "BadStreet" = some u ∧ RelV (.ref (gA K "BadStreet")) u
  g_TooMany : ∃ u, mg "TooMany" = some u ∧ RelV (.ref (gA K "TooMany")) u
  g_Parted : ∃ u, mg "Parted" = some u ∧ RelV (.ref (gA K "Parted")) u
  g_BadWays : ∃ u, mg "BadWays" = some u ∧ RelV (.ref (gA K "BadWays")) u
  g_BadText : ∃ u, mg "BadText" = some u ∧ RelV (.ref (gA K "BadText")) u
  none_ : ∀ y ∈ errNames, PySem.W.kitOne K (.type "NoneType") (.ref (gA K y)) = some false
  kit : ∀ x ∈ plainErrs, ∀ y ∈ errNames, PySem.W.kitOne K (.ref (gA K x)) (.ref (gA K y)) = some (decide (x = y))
  val : ∀ x ∈ plainErrs, PySem.W.kitOne K (.ref (gA K x)) (.type "ValueError") = some true
  exm : ∀ x ∈ plainErrs, PySem.W.exmOne K (.ref (gA K x)) (.ref (gA K "TownError")) = some true
  exc : ∀ x ∈ plainErrs, ExcC K (gA K x)
/-- isinstance(v, y) for each error class y -/
def Ans (K : PySem.W.Frag) (H : Hp) (v : V) (b : Str → Bool) : Prop := ∀ y ∈ errNames, ∀ H', Same H H' → ∀ Q : VK, Q (.bl (b y)) H' → (rIsi K [v, .ref (gA K y)] H' Q ∨ rIsK K [v, .ref (gA K y)] H' Q)
def flags (b : Str → Bool) : List (Str × Bool) := [("count", b "BadCount"), ("place", b "BadPlace"), ("street", b "BadStreet"), ("many", b "TooMany"), ("parted", b "Parted"), ("ways", b "BadWays"), ("text", b "BadText")]
def wordsOf (b : Str → Bool) : List Str := ((flags b).filter (·.2)).map (·.1)
def wordOf (x : Str) : List Str := wordsOf fun y => decide (x = y)
theorem word_count : wordOf "BadCount" = ([("count" : Str)] : List Str) := by decide +kernel
theorem word_place : wordOf "BadPlace" = ([("place" : Str)] : List Str) := by decide +kernel
theorem word_street : wordOf "BadStreet" = ([("street" : Str)] : List Str) := by decide +kernel
theorem word_many : wordOf "TooMany" = ([("many" : Str)] : List Str) := by decide +kernel
theorem word_ways : wordOf "BadWays" = ([("ways" : Str)] : List Str) := by decide +kernel
theorem word_text : wordOf "BadText" = ([("text" : Str)] : List Str) := by decide +kernel
theorem ans_none {K : PySem.W.Frag} {mg : Str → Option Value} (T : TxtW K mg) (H : Hp) : Ans K H .non fun _ => false :=
  fun y hy H' _ Q q => .inl ⟨.non, .ref (gA K y), .type "NoneType", .ref (gA K y), false, rfl, .own _, .base .non, T.none_ y hy, q⟩
theorem ans_exc {K : PySem.W.Frag} {mg : Str → Option Value} (T : TxtW K mg) {H : Hp} {a : Addr} {x : Str} (hx : x ∈ plainErrs) (e : H a = some (ExK (.ref (gA K x)) none a)) : Ans K H (.ref a) fun y => decide (x = y) :=
  fun y hy H' sm Q q => .inr ⟨a, gA K x, .ref (gA K y), .ref (gA K y), _, rfl, sm _ _ e, T.exc x hx, fun u hu => hu, T.kit x hx y hy, q⟩
/-- what the law makes of a deed tl: the word of what it lets out, none of what comes back -/
def TWord (K : PySem.W.Frag) : (XK → Hp → VK → Prop) → Hp → VK → Prop := fun tl H Q => ∀ (E' : XK) (Q' : VK),
  (∀ H' x, x ∈ plainErrs → (∀ l H'', H' l = none → Same H' H'' → H'' l = some (.lst ((wordOf x).map V.str)) → Q (.ref l) H'') → E' (.ref (gA K x)) none H') →
  (∀ v H', (∀ l H'', H' l = none → Same H' H'' → H'' l = some (.lst []) → Q (.ref l) H'') → Q' v H') → tl E' H Q'
abbrev s_law_word : Stmt := top 28
abbrev N_law_word : List Str := ["_law_deed", "_law_caught", "e", "_law_some", "_law_word_here", "_law_is_so"]
theorem sc_law_word : FnScope N_law_word ["_law_deed"] (defScope s_law_word) := ⟨rfl, rfl, rfl, by decide +kernel, rfl, by decide +kernel, by decide +kernel⟩
theorem tups_two {H : Hp} {t1 t2 : Addr} {xs1 xs2 : List V} (h1 : H t1 = some (.tup xs1)) (h2 : H t2 = some (.tup xs2)) : Tups H [V.ref t1, V.ref t2] [xs1, xs2] := .cons ⟨t1, rfl, h1⟩ (.cons ⟨t2, rfl, h2⟩ .nil)
theorem tups_app {H : Hp} : ∀ {vs ws : List V} {xss yss : List (List V)}, Tups H vs xss → Tups H ws yss → Tups H (vs ++ ws) (xss ++ yss)
  | _, _, _, _, .nil, h => h
  | _, _, _, _, .cons r q, h => .cons r (tups_app q h)
def flagV (q : Str × Bool) : List V := [.str q.1, .bl q.2]
abbrev wordCx (X : Cx) (g : Addr) (cdg : Value) (s : Shared) (H : Hp) : Cx := (cxOf C8.CX0 X.prog X.w X.K X.mg X.base N_law_word "_law_word" (defScope s_law_word) g cdg X.A X.stack s H C8.E0).nox
/-- what follows the try: from the value caught to the words -/
theorem word_rest {X : Cx} {g : Addr} {cdg : Value} {s : Shared} {H : Hp} {Q : VK} (T : TxtW X.K X.mg) :
    ∃ tR, PSs (wordCx X g cdg s H) ((defBody s_law_word).drop 2) tR ∧ ∀ (f : Option V) (H1 : Hp) (v : V) (b : Str → Bool), Ans X.K H1 v b → (v ≠ .non → ∀ H', Same H1 H' → ∀ Q' : VK, Q' (.bl true) H' → (rIsi X.K [v, .ty "ValueError"] H' Q' ∨ rIsK X.K [v, .ty "ValueError"] H' Q')) →
      (∀ l H'', H1 l = none → Same H1 H'' → H'' l = some (.lst ((wordsOf b).map V.str)) → Q (.ref l) H'') → tR { nx := fun _ H' => Q .non H', rt := Q } [f, some v, none, none, none, none] H1 := by
  have nd := sc_law_word.nd
  refine ⟨_, (pss_cons (ps_set (i := 3) nd rfl (Or.inl rfl) (pe_lst (pa_cons (pe_tup (pa_cons pe_str (pa_cons (pe_callB call_isBoth rfl T.f_isinstance (by decide +kernel) (pa_cons (pv 1) (pa_cons (C8.pe_gc rfl T.g_BadCount) pa_nil))) pa_nil))) (pa_cons (pe_tup (pa_cons pe_str (pa_cons (pe_callB call_isBoth rfl T.f_isinstance (by decide +kernel) (pa_cons (pv 1) (pa_cons (C8.pe_gc rfl T.g_BadPlace) pa_nil))) pa_nil))) pa_nil))))
      (pss_cons (ps_set (i := 3) nd rfl (Or.inl rfl) (pe_op op_cat (pv 3) (pe_lst (pa_cons (pe_tup (pa_cons pe_str (pa_cons (pe_callB call_isBoth rfl T.f_isinstance (by decide +kernel) (pa_cons (pv 1) (pa_cons (C8.pe_gc rfl T.g_BadStreet) pa_nil))) pa_nil))) (pa_cons (pe_tup (pa_cons pe_str (pa_cons (pe_callB call_isBoth rfl T.f_isinstance (by decide +kernel) (pa_cons (pv 1) (pa_cons (C8.pe_gc rfl T.g_TooMany) pa_nil))) pa_nil))) pa_nil)))))
      (pss_cons (ps_set (i := 3) nd rfl (Or.inl rfl) (pe_op op_cat (pv 3) (pe_lst (pa_cons (pe_tup (pa_cons pe_str (pa_cons (pe_callB call_isBoth rfl T.f_isinstance (by decide +kernel) (pa_cons (pv 1) (pa_cons (C8.pe_gc rfl T.g_Parted) pa_nil))) pa_nil))) (pa_cons (pe_tup (pa_cons pe_str (pa_cons (pe_callB call_isBoth rfl T.f_isinstance (by decide +kernel) (pa_cons (pv 1) (pa_cons (C8.pe_gc rfl T.g_BadWays) pa_nil))) pa_nil))) pa_nil)))))
      (pss_cons (ps_expr (pe_bm PySem.F.plainAttrs_list PySem.F.slot_list_append PySem.F.type_list_append mt_append (pv 3) (pa_cons (pe_tup (pa_cons pe_str (pa_cons (pe_callB call_isBoth rfl T.f_isinstance (by decide +kernel) (pa_cons (pv 1) (pa_cons (C8.pe_gc rfl T.g_BadText) pa_nil))) pa_nil))) pa_nil)))
      (pss_cons (ps_if (PW.pt (pw_and (pt_cmpR op_notN (pv 1) pe_non (nomark _)) (pw_and1 (pt_not (pt_val (pe_callB call_isBoth rfl T.f_isinstance (by decide +kernel) (pa_cons (pv 1) (pa_cons (pe_bltn (v := .ty "ValueError") (u := .type "ValueError") rfl T.f_ValueError (by decide +kernel) rfl) pa_nil)))))))) (pss_one (ps_expr (pe_bm PySem.F.plainAttrs_list PySem.F.slot_list_append PySem.F.type_list_append mt_append (pv 3) (pa_cons (pe_tup (pa_cons pe_str (pa_cons pe_bl pa_nil))) pa_nil)))) pss_nil)
      (pss_one (ps_ret (pe_lc (own := [("_law_word_here", 4), ("_law_is_so", 5)]) (g := (gTup X.K 2 (gCons (gName 4) (gCons (gName 5) gNil)))) rfl nd (pi_list (pv 3)) (blkOk_by (own := [("_law_word_here", 4), ("_law_is_so", 5)]) (N := N_law_word) (sc := defScope s_law_word) (by decide +kernel)) (fun _ _ _ _ _ => (pg_tup rfl (pgs_cons (pg_name (i := 4) nd rfl (Or.inl rfl)) (pgs_cons (pg_name (i := 5) nd rfl (Or.inl rfl)) pgs_nil)))) (fun _ _ _ _ _ => (pts_one (pt_val (pv 5)))) (fun _ _ _ _ _ => (pv 4)))))))))), ?_⟩
  intro f H1 v b A V1 k
  -- _law_some = [(count ..), (place ..)]
  refine ⟨_, rfl, A "BadCount" (by decide +kernel) _ (Same.refl H1) _ ⟨(by show 2 ≤ sizeLine; decide), fun t1 h1 => ?_⟩⟩
  have s1 : Same H1 _ := same_new (o := .tup (flagV ("count", b "BadCount"))) h1
  refine ⟨_, rfl, A "BadPlace" (by decide +kernel) _ s1 _ ⟨(by show 2 ≤ sizeLine; decide), fun t2 h2 => ?_⟩⟩
  have c2 := same_new (o := .tup (flagV ("place", b "BadPlace"))) h2
  have s2 := s1.trans c2
  have u2 := tups_two (c2 _ _ (upd_same (o := .tup (flagV ("count", b "BadCount"))))) (upd_same (H := upd H1 t1 (.tup (flagV ("count", b "BadCount")))) (a := t2) (o := .tup (flagV ("place", b "BadPlace"))))
  refine ⟨(by show 2 ≤ sizeLine; decide), fun l1 hl1 => ?_⟩
  have c3 := same_new (o := .lst [V.ref t1, V.ref t2]) hl1
  have s3 := s2.trans c3
  have u3 := tups_ext (fun t xs e => c3 t _ e) u2
  -- + [(street ..), (many ..)]
  refine ⟨_, rfl, ?_⟩
  refine ⟨_, rfl, A "BadStreet" (by decide +kernel) _ s3 _ ⟨(by show 2 ≤ sizeLine; decide), fun t3 h3 => ?_⟩⟩
  have c4 := same_new (o := .tup (flagV ("street", b "BadStreet"))) h3
  have s4 := s3.trans c4
  refine ⟨_, rfl, A "TooMany" (by decide +kernel) _ s4 _ ⟨(by show 2 ≤ sizeLine; decide), fun t4 h4 => ?_⟩⟩
  have c5 := same_new (o := .tup (flagV ("many", b "TooMany"))) h4
  have s5 := s4.trans c5
  have u5 := tups_app (tups_ext (fun t xs e => c5 t _ (c4 t _ e)) u3) (tups_two (c5 _ _ (upd_same (o := .tup (flagV ("street", b "BadStreet"))))) (upd_same (a := t4) (o := .tup (flagV ("many", b "TooMany")))))
  have a5 := c5 _ _ (c4 _ _ (upd_same (a := l1) (o := .lst [V.ref t1, V.ref t2])))
  refine ⟨(by show 2 ≤ sizeLine; decide), fun l2 hl2 => ?_⟩
  have c6 := same_new (o := .lst [V.ref t3, V.ref t4]) hl2
  refine ⟨l1, l2, _, _, rfl, rfl, c6 _ _ a5, upd_same, (by show 4 ≤ sizeLine; decide), fun l3 hl3 => ?_⟩
  have c7 := same_new (o := .lst [V.ref t1, V.ref t2, V.ref t3, V.ref t4]) hl3
  have s7 := (s5.trans c6).trans c7
  have u7 := tups_ext (fun t xs e => c7 t _ (c6 t _ e)) u5
  -- + [(parted ..), (ways ..)]
  refine ⟨_, rfl, ?_⟩
  refine ⟨_, rfl, A "Parted" (by decide +kernel) _ s7 _ ⟨(by show 2 ≤ sizeLine; decide), fun t5 h5 => ?_⟩⟩
  have c8 := same_new (o := .tup (flagV ("parted", b "Parted"))) h5
  have s8 := s7.trans c8
  refine ⟨_, rfl, A "BadWays" (by decide +kernel) _ s8 _ ⟨(by show 2 ≤ sizeLine; decide), fun t6 h6 => ?_⟩⟩
  have c9 := same_new (o := .tup (flagV ("ways", b "BadWays"))) h6
  have s9 := s8.trans c9
  have u9 := tups_app (tups_ext (fun t xs e => c9 t _ (c8 t _ e)) u7) (tups_two (c9 _ _ (upd_same (o := .tup (flagV ("parted", b "Parted"))))) (upd_same (a := t6) (o := .tup (flagV ("ways", b "BadWays")))))
  have a9 := c9 _ _ (c8 _ _ (upd_same (a := l3) (o := .lst [V.ref t1, V.ref t2, V.ref t3, V.ref t4])))
  refine ⟨(by show 2 ≤ sizeLine; decide), fun l4 hl4 => ?_⟩
  have c10 := same_new (o := .lst [V.ref t5, V.ref t6]) hl4
  refine ⟨l3, l4, _, _, rfl, rfl, c10 _ _ a9, upd_same, (by show 6 ≤ sizeLine; decide), fun l5 hl5 => ?_⟩
  have c11 := same_new (o := .lst [V.ref t1, V.ref t2, V.ref t3, V.ref t4, V.ref t5, V.ref t6]) hl5
  have s11 := (s9.trans c10).trans c11
  have u11 := tups_ext (fun t xs e => c11 t _ (c10 t _ e)) u9
  -- .append((text ..))
  refine ⟨_, rfl, .inl ⟨rfl, _, SqL.of upd_same⟩, _, rfl, A "BadText" (by decide +kernel) _ s11 _ ⟨(by show 2 ≤ sizeLine; decide), fun t7 h7 => ?_⟩⟩
  have c12 := same_new (o := .tup (flagV ("text", b "BadText"))) h7
  have s12 := s11.trans c12
  have u12 := tups_snoc (upd_same (a := t7) (o := .tup (flagV ("text", b "BadText")))) (tups_ext (fun t xs e => c12 t _ e) u11)
  have a12 := c12 _ _ (upd_same (a := l5) (o := .lst [V.ref t1, V.ref t2, V.ref t3, V.ref t4, V.ref t5, V.ref t6]))
  refine ⟨l5, _, _, rfl, rfl, a12, (by show 6 < sizeLine; decide), ?_⟩
  have n5 : H1 l5 = none := (s9.trans c10).free hl5
  have sL := same_over (o := .lst ([V.ref t1, V.ref t2, V.ref t3, V.ref t4, V.ref t5, V.ref t6] ++ [V.ref t7])) n5 s12
  have uL : Tups _ ([V.ref t1, V.ref t2, V.ref t3, V.ref t4, V.ref t5, V.ref t6] ++ [V.ref t7]) ((flags b).map flagV) := tups_over (o := .lst ([V.ref t1, V.ref t2, V.ref t3, V.ref t4, V.ref t5, V.ref t6] ++ [V.ref t7])) a12 u12
  have aL := fun (G : Hp) => upd_same (H := G) (a := l5) (o := .lst ([V.ref t1, V.ref t2, V.ref t3, V.ref t4, V.ref t5, V.ref t6] ++ [V.ref t7]))
  refine (fun rest => ⟨_, rfl, rfl, _, rfl, if_both (fun e => ⟨_, rfl, V1 (fun z => by rw [z] at e; cases e) _ sL _ ⟨_, rfl, rest⟩⟩) (fun _ => rest)⟩) ?_
  -- the words whose flags are set
  refine ⟨_, rfl, l5, rfl, ⟨_, SqL.of (aL _)⟩, fun D hD => ?_⟩
  have cD := same_new (o := .lst []) hD
  refine lc_it (walk_list (K := X.K) (xs := [V.ref t1, V.ref t2, V.ref t3, V.ref t4, V.ref t5, V.ref t6] ++ [V.ref t7])) (fun i H' => H' D = some (.lst ((((flags b).take i).filter (·.2)).map fun q => V.str q.1)) ∧ (((flags b).take i).filter (·.2)).length ≤ i ∧ Same _ H') ⟨upd_same, Nat.le_refl _, cD⟩ (fun i H' _ z => z.2.2.seq (SqL.of (aL _))) ?_ ?_
  · rintro i x H2 H3 hi ⟨e1, e2, sm⟩ ⟨rfl, hx⟩
    obtain ⟨t, xs, rfl, hxs, ht⟩ := tups_get uL hx
    rw [List.getElem?_map] at hxs
    obtain ⟨q, hq, rfl⟩ : ∃ q, (flags b)[i]? = some q ∧ flagV q = xs := by
      cases e : (flags b)[i]? with
      | none =>
        rw [e] at hxs
        cases hxs
      | some q =>
        rw [e] at hxs
        exact ⟨q, rfl, Option.some.inj hxs⟩
    refine ⟨t, _, rfl, SqT.of (sm _ _ ht), rfl, _, _, rfl, _, _, rfl, rfl, rfl, _, rfl, _, rfl, if_both (fun e => ?_) (fun e => ?_)⟩
    · have grow : ((flags b).take (i + 1)).filter (·.2) = ((flags b).take i).filter (·.2) ++ [q] := by
        rw [take_snoc hq, List.filter_append]
        simp [e]
      refine ⟨_, rfl, _, e1, ?_, ?_, ?_, ?_⟩
      · rw [List.length_map, sizeLine_eq]
        have : i < 7 := hi
        omega
      · rw [grow, List.map_append]
        exact upd_same
      · rw [grow, List.length_append]
        show _ + 1 ≤ i + 1
        omega
      · exact fun c o ec => by
          rw [upd_ne (ne_of_none ec hD)]
          exact sm c o ec
    · have same : ((flags b).take (i + 1)).filter (·.2) = ((flags b).take i).filter (·.2) := by
        rw [take_snoc hq, List.filter_append]
        simp [e]
      rw [same]
      exact ⟨e1, Nat.le_succ_of_le e2, sm⟩
  · rintro H2 ⟨e1, _, sm⟩
    refine k D H2 (sL.free hD) (sL.trans sm) ?_
    have full : (flags b).take ([V.ref t1, V.ref t2, V.ref t3, V.ref t4, V.ref t5, V.ref t6] ++ [V.ref t7]).length = flags b := List.take_of_length_le (Nat.le_refl 7)
    rw [full] at e1
    rw [e1]
    unfold wordsOf
    rw [List.map_map]
    rfl
theorem word_gives {X : Cx} {g : Addr} {cdg : Value} {q : Str} (T : TxtW X.K X.mg) : LamX.GivesTo X N_law_word "_law_word" (defScope s_law_word) g cdg (defBody s_law_word) "_law_deed" q (TWord X.K) := by
  intro f c' s H Q tl act hc h
  have nd := sc_law_word.nd
  let X0 : Cx := wordCx X g cdg s H
  let TB : WX → TS := fun W D σ H => ∃ ech : XK, (∀ cls d σ' H', ech cls d H' → W cls d σ' H') ∧ σ[0]? = some (some (V.ref f)) ∧ H c' = some (LamX.CodeO c' q) ∧ tl ech H (fun _ H' => D.nx σ H')
  have body : ∀ (W : WX) (pn : List (Addr × Obj)) (xe : Value → Shared → Prop), Takes (X0.tr pn xe) W → PassesOwn (model X0.prog X0.w) X0.A X0.env xe → ∀ (p1 p2 p3 : Pos), PSs (X0.tr pn xe) [.Expr (.Call (.Name "_law_deed" p1) [] [] p2) p3] (TB W) := by
    intro W pn xe tk _ p1 p2 p3
    refine ⟨fun pins s' σ H' D I h' => ?_⟩
    obtain ⟨ech, hW, h1, h2, h3⟩ := h'
    have hq := pss_one (ps_expr (pos := p3) (act W pn xe ech p1 p2 tk hW))
    exact hq.run pins s' σ H' D I ⟨h1, h2, h3⟩
  obtain ⟨tR, hR, use⟩ := word_rest (X := X) (g := g) (cdg := cdg) (s := s) (H := H) (Q := Q) T
  refine ⟨_, pss_cons (ps_set (i := 1) nd rfl (Or.inl rfl) pe_non) (pss_cons (ps_try_kept (X := X0) (i := 2) (j := 1) (c := .ref (gA X.K "TownError")) (tb := TB) (out := fun _ _ _ _ => False) rfl rfl nd rfl rfl rfl rfl ⟨rfl, by decide, .inl T.m_TownError⟩ rfl (oneOf_less (by decide)) takes0 (fun W pn xe tk h => body W pn xe tk h _ _ _)) hR), ?_⟩
  refine ⟨(fun cls d H' => d = none ∧ ∃ x ∈ plainErrs, cls = .ref (gA X.K x) ∧ ∀ l H'', H' l = none → Same H' H'' → H'' l = some (.lst ((wordOf x).map V.str)) → Q (.ref l) H''), fun cls d σ' H' hh => ?_, rfl, hc, ?_⟩
  · obtain ⟨rfl, x, hx, rfl, hk⟩ := hh
    refine ⟨true, T.exm x hx, fun _ a ha => ?_, fun z => Bool.noConfusion z⟩
    exact use none (upd H' a (ExK (.ref (gA X.K x)) none a)) (.ref a) _ (ans_exc T hx upd_same) (fun _ H2 sm Q' q => .inr ⟨a, gA X.K x, .ty "ValueError", .type "ValueError", true, rfl, sm _ _ upd_same, T.exc x hx, fun u hu => hu, T.val x hx, q⟩) fun l H'' hl sm e => hk l H'' (upd_none hl).2 ((same_new ha).trans sm) e
  · refine h _ _ (fun H' x hx hk => ⟨rfl, x, hx, rfl, hk⟩) fun v H' hk => ?_
    exact use (some (.ref f)) H' .non _ (ans_none T H') (fun z => absurd rfl z) fun l H'' hl sm e => hk l H'' hl sm e
/-! ### refusals of a town -/
section
variable {X : Cx} {T : List (Addr × Str)} {t : XK → TE} {params : Arguments} {body : Expr} {scope : Scope} {lpos p pos : Pos} {c P : Addr} {k : Nat} {fdw : FuncData} {gw : Addr}
/-- _law_word(lambda: body) -/
theorem pe_word (W : TxtW X.K X.mg) (D : FnP X.K "_law_word" "_law_word" s_law_word gw fdw) (hm : X.mg "_law_word" = some (.ref gw)) (hg : Gl X "_law_word") (TB : LamX.TabB X.base X.mg c P) (hcode : X.env.code = .ref c) (hmT : (P, X.env.qual ++ "<lambda>") ∈ T)
    (hu : ∀ q ∈ T, q.1 = P → q.2 = X.env.qual ++ "<lambda>") (hr : Room (k + 2) X.A) (L : LamX.LamS X.env.scope scope) (hdef : defaultsOf params X.env = ([], []))
    (hbind : LamBinds params body scope)
    (hbody : ∀ (A : Around) (outer : List Env) (s : Shared) (H : Hp) (E : XK) (f c' : Addr), Room k (A.deeper (LamX.lamEnv X scope s.heap.objs.size f c')) → PE (LamX.lamCx X A outer s H E scope f c') body (t E)) :
    PE X (.Call (.Name "_law_word" p) [.Lambda params body scope lpos] [] pos) (LamX.tLam T (TWord X.K) t) := by
  have b := FunD.bindsN D (ps := ["_law_deed"]) fun _ _ _ _ _ _ us hl => match us, hl with | [_], _ => rfl
  obtain ⟨oc, od, dV, kV, doc, pm, an, cdv, ct, osl, rfl, lk, hcd, _, _⟩ := D.ex
  exact LamX.pe_lamcall hg hm D.kp lk hcd b sc_law_word rfl (.inl (by decide +kernel)) (word_gives W) TB hcode hmT hu hr L hdef hbind hbody
end
theorem dp_strs {K : PySem.W.Frag} {H : Hp} : ∀ ws : List Str, DpAll K H (ws.map V.str) (ws.map PyData.str)
  | [] => .nil
  | n :: ns => .cons (.str n) (dp_strs ns)
theorem lay_words : ∀ x ∈ plainErrs, SeqAt.shaped (.list ((wordOf x).map PyData.str)) = true ∧ PyData.eqv (.list ((wordOf x).map PyData.str)) (.list ((wordOf x).map PyData.str)) = true := by decide +kernel
/-- the word compared with the one that is due -/
theorem eq_word {K : PySem.W.Frag} {l : Addr} {H3 : Hp} {σ : L2.St} {x wd : Str} {Q : VK} (hx : x ∈ plainErrs) (hw : wordOf x = [wd]) (el : H3 l = some (.lst ((wordOf x).map V.str))) (fin : ∀ H4, Same H3 H4 → Q (.bl true) H4) :
    tLst (tCons (tC (.str wd)) tNil) σ H3 fun z H5 => rEqD K (.ref l) z H5 Q := by
  obtain ⟨s1, s2⟩ := lay_words x hx
  refine ⟨(by show 1 ≤ sizeLine; decide), fun l2 hl2 => ?_⟩
  rw [hw] at el s1 s2
  refine ⟨_, _, .lst (SqL.of (same_new hl2 _ _ el)) (dp_strs [wd]), .lst (SqL.of upd_same) (dp_strs [wd]), s1, s1, ?_⟩
  rw [s2]
  exact fin _ (same_new hl2)
theorem neq_word {K : PySem.W.Frag} {l : Addr} {H3 : Hp} {σ : L2.St} {x wd : Str} {Q : VK} (hx : x ∈ plainErrs) (hw : wordOf x = [wd]) (el : H3 l = some (.lst ((wordOf x).map V.str))) (fin : ∀ H4, Same H3 H4 → Q (.bl false) H4) :
    tLst (tCons (tC (.str wd)) tNil) σ H3 fun z H5 => rNeD K (.ref l) z H5 Q := by
  obtain ⟨s1, s2⟩ := lay_words x hx
  refine ⟨(by show 1 ≤ sizeLine; decide), fun l2 hl2 => ?_⟩
  rw [hw] at el s1 s2
  refine ⟨_, _, .lst (SqL.of (same_new hl2 _ _ el)) (dp_strs [wd]), .lst (SqL.of upd_same) (dp_strs [wd]), s1, s1, ?_⟩
  rw [s2]
  exact fin _ (same_new hl2)
end K10

set_option Elab.async false
set_option linter.all false
set_option maxRecDepth 100000
set_option maxHeartbeats 4000000
/-! A town's text. -/
namespace Own
open PySem PySem.Spec PyProof.Rows L2
def rowT (q : Nat × Nat) : Str := numT q.1 ++ sBl ++ numT q.2
def headT (m : Nat) : Str := Str.ofString "places " ++ numT m
def partsT (m : Nat) (J : List (Nat × Nat)) : List Str := headT m :: J.map rowT
def textF (m : Nat) (J : List (Nat × Nat)) : Str := Txt.join sNl (partsT m J)
theorem rowT_facts : ∀ i < 16, ∀ j < 16, rowW (rowT (i, j)) = [numT i, numT j] ∧ 10 ∉ (rowT (i, j)).cps.toList ∧ (rowT (i, j)).length ≤ 5 := by decide +kernel
theorem headT_facts : ∀ m < 17, rowW (headT m) = [Str.ofString "places", numT m] ∧ 10 ∉ (headT m).cps.toList ∧ (headT m).length ≤ 9 := by decide +kernel
theorem split_text {m : Nat} {J : List (Nat × Nat)} (hm : m ≤ 16) (hJ : ∀ q ∈ J, q.1 < 16 ∧ q.2 < 16) : Txt.split (textF m J) sNl = partsT m J := by
  unfold textF
  refine _root_.TL.split_join (y := sNl) (s := 10) (S := []) (by rw [nl_eq]) (by rw [nl_eq]; decide +kernel) (fun z => nomatch z) fun p hp => ?_
  rcases List.mem_cons.mp hp with e | h
  · rw [e]
    exact (headT_facts m (by omega)).2.1
  · obtain ⟨q, hq, rfl⟩ := List.mem_map.mp h
    obtain ⟨q1, q2⟩ := hJ q hq
    exact (rowT_facts q.1 q1 q.2 q2).2.1
theorem parse_text {m : Nat} {J : List (Nat × Nat)} (h1 : 1 ≤ m) (hm : m ≤ 16) (hl : J.length ≤ 60) (hJ : ∀ q ∈ J, q.1 < m ∧ q.2 < m ∧ q.1 ≠ q.2) : parseT (textF m J) = some (m, J) := by
  unfold parseT
  rw [split_text hm fun q hq => ⟨by have := hJ q hq; omega, by have := hJ q hq; omega⟩]
  have hh : headW (headT m) = some m := headW_of (headT_facts m (by omega)).1 (numP_T (by omega) rfl) h1
  have each : ∀ q ∈ J, goodW m (rowT q) = some q := fun q hq => by
    obtain ⟨a, b, c⟩ := hJ q hq
    exact goodW_of (rowT_facts q.1 (by omega) q.2 (by omega)).1 (numP_T (by omega) rfl) (numP_T (by omega) rfl) ⟨c, a, b⟩
  refine parse_of hh ?_
  have z := pairs_of (m := m) (r := J.map rowT) (by rw [List.length_map]; exact hl) fun z hz => by
    obtain ⟨q, hq, rfl⟩ := List.mem_map.mp hz
    exact ⟨q, each q hq⟩
  rw [z, List.map_map]
  congr 1
  refine (List.map_congr_left (g := id) fun q hq => ?_).trans (List.map_id J)
  exact pairD_of (each q hq)
theorem joinL_len (S : List Nat) : ∀ ps : List (List Nat), (_root_.TL.joinL S ps).length ≤ (ps.map (·.length)).sum + ps.length * S.length
  | [] => by simp [_root_.TL.joinL]
  | [p] => by
    simp only [_root_.TL.joinL, List.map_cons, List.map_nil, List.sum_cons, List.sum_nil, List.length_cons, List.length_nil]
    omega
  | p :: q :: r => by
    have z := joinL_len S (q :: r)
    simp only [_root_.TL.joinL, List.length_append, List.map_cons, List.sum_cons, List.length_cons] at z ⊢
    rw [Nat.add_mul _ 1 S.length, Nat.one_mul]
    omega
theorem parts_sum {m : Nat} {J : List (Nat × Nat)} (hm : m ≤ 16) (hJ : ∀ q ∈ J, q.1 < 16 ∧ q.2 < 16) : ((partsT m J).map (·.length)).sum ≤ 9 + 5 * J.length := by
  unfold partsT
  rw [List.map_cons, List.sum_cons]
  have h1 := (headT_facts m (by omega)).2.2
  have h2 : ((J.map rowT).map (·.length)).sum ≤ 5 * J.length := by
    clear h1
    induction J with
    | nil => exact Nat.le_refl _
    | cons q J ih =>
      obtain ⟨q1, q2⟩ := hJ q (List.mem_cons_self ..)
      have h3 := (rowT_facts q.1 q1 q.2 q2).2.2
      have h4 := ih fun x hx => hJ x (List.mem_cons_of_mem _ hx)
      rw [List.map_cons, List.map_cons, List.sum_cons, List.length_cons]
      have h5 : (rowT q).length ≤ 5 := h3
      omega
  omega
theorem text_len {m : Nat} {J : List (Nat × Nat)} (hm : m ≤ 16) (hJ : ∀ q ∈ J, q.1 < 16 ∧ q.2 < 16) : (textF m J).length ≤ 10 + 6 * J.length := by
  unfold textF
  rw [_root_.TL.join_eq, _root_.TL.len_tl, _root_.TL.tl_join]
  have z := joinL_len (_root_.TL.tl sNl) ((partsT m J).map _root_.TL.tl)
  have e : ((partsT m J).map _root_.TL.tl).map (·.length) = (partsT m J).map (·.length) := by
    rw [List.map_map]
    exact List.map_congr_left fun p _ => (_root_.TL.len_tl p).symm
  rw [e, List.length_map] at z
  have p := parts_sum hm hJ
  have l : (partsT m J).length = J.length + 1 := by unfold partsT; rw [List.length_cons, List.length_map]
  have s : (_root_.TL.tl sNl).length = 1 := by rw [nl_eq]; rfl
  rw [l, s] at z
  omega
theorem str_nil (x : Str) : Str.empty ++ x = x := _root_.TL.ext_tl (by rw [_root_.TL.tl_append]; rfl)
theorem str_len (x y : Str) : (x ++ y).length = x.length + y.length := by
  rw [_root_.TL.len_tl, _root_.TL.len_tl, _root_.TL.len_tl, _root_.TL.tl_append, List.length_append]
theorem numT_len : ∀ k < 17, (numT k).length ≤ 2 := by decide +kernel
theorem numT_lg : ∀ k < 17, ((k : Nat) : Int).natAbs.log2 < 1920 := by decide +kernel
theorem bl_len : (Str.ofString " ").length = 1 := by decide +kernel
theorem nl_len : (Str.ofString "\n").length = 1 := by decide +kernel
theorem pl_len : (Str.ofString "places ").length = 7 := by decide +kernel
/-- an f-string's reading as one thing -/
def tJoined (ts : List TE) : TE := fun σ H Q => tJs ts Str.empty σ H fun out H1 => Q (V.str out) H1
/-- the row as the program writes it -/
theorem row_join {i j : Nat} (hi : i < 16) (hj : j < 16) {Q : VK} {σ : L2.St} {H : Hp} {a b : Nat} (ea : σ[a]? = some (some (.int (i : Int)))) (eb : σ[b]? = some (some (.int (j : Int)))) (q : Q (.str (rowT (i, j))) H) :
    tJoined [tFmt (tVar a), tC (V.str (Str.ofString " ")), tFmt (tVar b)] σ H Q := by
  have l1 := numT_len i (by omega)
  have l2 := numT_len j (by omega)
  have big : sizeLine = 16777216 := sizeLine_eq
  have e0 : (Str.empty : Str).length = 0 := rfl
  refine ⟨_, ea, .inr ⟨_, rfl, numT_lg i (by omega), numT i, rfl, by rw [str_len]; omega, Str.ofString " ", rfl, by rw [str_len, str_len, bl_len]; omega, ⟨_, eb, .inr ⟨_, rfl, numT_lg j (by omega), numT j, rfl, by rw [str_len, str_len, str_len, bl_len]; omega, ?_⟩⟩⟩⟩
  rw [str_nil]
  exact q
theorem pe_joinedN {X : Cx} {v1 v2 : Expr} {rest : List Expr} {ts : List TE} {pos : Pos} (h : PJ X (v1 :: v2 :: rest) ts) : PE X (.JoinedStr (v1 :: v2 :: rest) pos) (tJoined ts) := pe_joined h
/-! ### the law's number -/
theorem fig_mem (c : Nat) : decide (c ∈ (Str.ofString "0123456789").cps.toList) = isFig c := by
  have e : (Str.ofString "0123456789").cps.toList = [48, 49, 50, 51, 52, 53, 54, 55, 56, 57] := by decide +kernel
  rw [e]
  unfold isFig
  rw [Bool.eq_iff_iff]
  simp only [List.mem_cons, List.not_mem_nil, or_false, decide_eq_true_eq, Bool.and_eq_true]
  omega
def oneS (c : Nat) : Str := ⟨#[c]⟩
def oddS (l : List Nat) : List Str := (l.filter fun c => !isFig c).map oneS
theorem odd_yes {l : List Nat} {c : Nat} (h : (!isFig c) = true) : oddS (l ++ [c]) = oddS l ++ [oneS c] := by
  unfold oddS
  rw [List.filter_append, List.map_append, List.filter_cons_of_pos (by simpa using h)]
  rfl
theorem odd_no {l : List Nat} {c : Nat} (h : (!isFig c) = false) : oddS (l ++ [c]) = oddS l := by
  unfold oddS
  rw [List.filter_append, List.map_append, List.filter_cons_of_neg (by simpa using h)]
  simp
theorem odd_len (l : List Nat) : (oddS l).length ≤ l.length := by
  unfold oddS
  rw [List.length_map]
  exact List.length_filter_le _ _
theorem num_bad1 {z : Str} (h : ¬ (1 ≤ z.length ∧ z.length ≤ 2)) : numL z = none := by
  rw [_root_.TL.len_tl] at h
  unfold numL
  split
  · rename_i c e
    rw [show _root_.TL.tl z = [c] from e] at h
    simp at h
  · rename_i c d e
    rw [show _root_.TL.tl z = [c, d] from e] at h
    simp at h
  · rfl
theorem num_bad2 {z : Str} (h : oddS z.cps.toList ≠ []) : numL z = none := by
  unfold numL
  split
  · rename_i c e
    rw [e] at h
    cases q : isFig c with
    | true => simp [oddS, q] at h
    | false => rfl
  · rename_i c d e
    rw [e] at h
    cases q : isFig c with
    | false => rfl
    | true =>
      cases q2 : isFig d with
      | true => simp [oddS, q, q2] at h
      | false => rfl
  · rfl
theorem num_cases {z : Str} (h : 1 ≤ z.length ∧ z.length ≤ 2) (h2 : oddS z.cps.toList = []) : (∃ c, z = ⟨#[c]⟩ ∧ isFig c = true) ∨ ∃ c d, z = ⟨#[c, d]⟩ ∧ isFig c = true ∧ isFig d = true := by
  have all : ∀ c ∈ z.cps.toList, isFig c = true := fun c hc => by
    have q := List.map_eq_nil_iff.mp h2
    have z2 := List.filter_eq_nil_iff.mp q c hc
    simpa using z2
  rw [_root_.TL.len_tl] at h
  match e : _root_.TL.tl z, h with
  | [c], _ => exact .inl ⟨c, str_of e, all c (by rw [show z.cps.toList = [c] from e]; simp)⟩
  | [c, d], _ => exact .inr ⟨c, d, str_of e, all c (by rw [show z.cps.toList = [c, d] from e]; simp), all d (by rw [show z.cps.toList = [c, d] from e]; simp)⟩
theorem int_one : ∀ a < 10, intText? ⟨#[48 + a]⟩ = some (a : Int) := by decide +kernel
theorem int_two : ∀ a < 10, ∀ b < 10, intText? ⟨#[48 + a, 48 + b]⟩ = some ((a * 10 + b : Nat) : Int) := by decide +kernel
theorem int_c {c : Nat} (h : isFig c = true) : intText? ⟨#[c]⟩ = some ((c - 48 : Nat) : Int) := by
  simp only [isFig, Bool.and_eq_true, decide_eq_true_eq] at h
  have q := int_one (c - 48) (by omega)
  rw [show 48 + (c - 48) = c by omega] at q
  exact q
theorem int_cd {c d : Nat} (h : isFig c = true) (h2 : isFig d = true) : intText? ⟨#[c, d]⟩ = some (((c - 48) * 10 + (d - 48) : Nat) : Int) := by
  simp only [isFig, Bool.and_eq_true, decide_eq_true_eq] at h h2
  have q := int_two (c - 48) (by omega) (d - 48) (by omega)
  rw [show 48 + (c - 48) = c by omega, show 48 + (d - 48) = d by omega] at q
  exact q
theorem num_c {c : Nat} (h : isFig c = true) : numL ⟨#[c]⟩ = some (c - 48) := by
  show (if isFig c then some (c - 48) else none) = _
  rw [if_pos h]
theorem num_cd {c d : Nat} (h : isFig c = true) (h2 : isFig d = true) : numL ⟨#[c, d]⟩ = if c = 48 then none else some ((c - 48) * 10 + (d - 48)) := by
  show (if (isFig c && isFig d && decide (c ≠ 48)) = true then some ((c - 48) * 10 + (d - 48)) else none) = _
  rw [h, h2]
  by_cases e : c = 48
  · rw [if_pos e]
    simp [e]
  · rw [if_neg e]
    simp [e]
theorem one_eq (c : Nat) : decide (V.str ⟨#[c]⟩ = V.str (Str.ofString "0")) = decide (c = 48) := by
  have e : Str.ofString "0" = ⟨#[48]⟩ := by decide +kernel
  rw [e, Bool.eq_iff_iff]
  simp
theorem two_eq (c d : Nat) : decide (V.str ⟨#[c, d]⟩ = V.str (Str.ofString "0")) = false := by
  have e : Str.ofString "0" = ⟨#[48]⟩ := by decide +kernel
  rw [e]
  simp
def Ascii (z : Str) : Prop := ∀ c ∈ z.cps.toList, c < 128
theorem lay_str {x : Str} (h : Ascii x) : Lay 0 (.str x) := ⟨by
  simp only [PyData.canLay0, PyData.strOk]
  rw [← Array.all_toList]
  exact List.all_eq_true.mpr fun c hc => decide_eq_true (by have := h c hc; omega), by simp only [PyData.depth]; exact Nat.le_refl _⟩
theorem lay_strs {ns : List Str} (h : ∀ x ∈ ns, Ascii x) : Lay 1 (.list (ns.map PyData.str)) := lay_list fun d hd => by
  obtain ⟨i, hi, rfl⟩ := List.mem_map.mp hd
  exact lay_str (h i hi)
theorem odd_ascii {z : Str} (h : Ascii z) : ∀ x ∈ oddS z.cps.toList, Ascii x := fun x hx c hc => by
  obtain ⟨d, hd, rfl⟩ := List.mem_map.mp hx
  have e : c = d := by simpa [oneS] using hc
  rw [e]
  exact h d (List.mem_filter.mp hd).1
theorem spl_mem (S : List Nat) : ∀ (l : List Nat) (k : Nat) (acc p : List Nat), p ∈ _root_.TL.spl S k acc l → ∀ c ∈ p, c ∈ acc ∨ c ∈ l
  | [], k, acc, p, h, c, hc => by
    rw [_root_.TL.spl_nil] at h
    rw [List.mem_singleton.mp h] at hc
    exact .inl hc
  | d :: r, 0, acc, p, h, c, hc => by
    rw [_root_.TL.spl] at h
    split at h
    · rcases List.mem_cons.mp h with e | h
      · rw [e] at hc; exact .inl hc
      · rcases spl_mem S r _ _ p h c hc with z | z
        · cases z
        · exact .inr (List.mem_cons_of_mem _ z)
    · rcases spl_mem S r 0 _ p h c hc with z | z
      · rcases List.mem_append.mp z with z | z
        · exact .inl z
        · rw [List.mem_singleton.mp z]; exact .inr (List.mem_cons_self ..)
      · exact .inr (List.mem_cons_of_mem _ z)
  | d :: r, k + 1, acc, p, h, c, hc => by
    rw [_root_.TL.spl] at h
    rcases spl_mem S r k _ p h c hc with z | z
    · exact .inl z
    · exact .inr (List.mem_cons_of_mem _ z)
theorem split_ascii {x p : Str} {c : Nat} (hc : c < 256) (hx : Ascii x) (h : p ∈ Txt.split x ⟨#[c]⟩) : Ascii p := fun d hd => by
  have e := _root_.TL.split_spl x ⟨#[c]⟩ (fun z => nomatch z) (_root_.TL.kind_ok (by simp [hc]))
  have h2 := List.mem_map_of_mem (f := _root_.TL.tl) h
  rw [e] at h2
  rcases spl_mem _ _ _ _ _ h2 d hd with z | z
  · cases z
  · exact hx d z
theorem rows_ascii {z p : Str} (hz : Ascii z) (h : p ∈ Txt.split z sNl) : Ascii p := by rw [nl_eq] at h; exact split_ascii (by decide) hz h
theorem words_ascii {z p : Str} (hz : Ascii z) (h : p ∈ rowW z) : Ascii p := by
  unfold rowW at h
  rw [bl_eq] at h
  exact split_ascii (by decide) hz h
theorem at_if {t : TT} {A B : TS} {D : Ends} {σ : L2.St} {H : Hp} (h : t σ H fun c H1 => if c = true then A D σ H1 else B D σ H1) : tIfS t A B D σ H := h
theorem at_or {ta tb : TT} {σ : L2.St} {H : Hp} {Q : Bool → Hp → Prop} (h : ta σ H fun c H1 => if c = true then Q true H1 else tb σ H1 Q) : tOr ta tb σ H Q := h
theorem at_tst {t : TE} {σ : L2.St} {H : Hp} {Q : Bool → Hp → Prop} (h : t σ H fun x H' => ∃ k, x = .bl k ∧ Q k H') : tTest t σ H Q := h
theorem at_two {r : R2} {ta tb : TE} {σ : L2.St} {H : Hp} {Q : VK} (h : ta σ H fun x H1 => tb σ H1 fun y H2 => r x y H2 Q) : tOp r ta tb σ H Q := h
theorem chain_12 {z : Str} {σ : L2.St} {H : Hp} {a : Nat} {Q : Bool → Hp → Prop} (ea : σ[a]? = some (some (.str z))) (hz : z.length ≤ sizeLine) (h : Q (decide (1 ≤ z.length ∧ z.length ≤ 2)) H) :
    tTest (tChain (rI0 fun i j => V.bl (decide (i ≤ j))) (rI0 fun i j => V.bl (decide (i ≤ j))) (tC (V.int 1)) (tCB (fun xs H Q => ∃ z : Str, xs = [V.str z] ∧ z.length ≤ sizeLine ∧ Q (V.int (z.length : Int)) H) (tCons (tVar a) tNil)) (tC (V.int 2))) σ H Q := by
  refine ⟨_, ea, z, rfl, hz, _, _, rfl, rfl, _, rfl, ?_⟩
  refine if_both (fun e => ⟨_, _, rfl, rfl, _, rfl, ?_⟩) (fun e => ⟨_, rfl, ?_⟩)
  · have e1 := of_decide_eq_true e
    have q : decide ((z.length : Int) ≤ 2) = decide (1 ≤ z.length ∧ z.length ≤ 2) := by
      rw [Bool.eq_iff_iff, decide_eq_true_eq, decide_eq_true_eq]
      omega
    rw [q]
    exact h
  · have e1 := of_decide_eq_false e
    rw [decide_eq_false (show ¬ (1 ≤ z.length ∧ z.length ≤ 2) by omega)] at h
    exact h
theorem yes_then {σ : L2.St} {H : Hp} {A B : Hp → Prop} (h : A H) : tYes σ H fun b H3 => if b = true then A H3 else B H3 := h
end Own

set_option Elab.async false
set_option linter.all false
set_option maxRecDepth 100000
set_option maxHeartbeats 4000000
namespace K10
open PySem PySem.Spec PyProof.Rows L2 Own
/-! ### notes: written; the law's own text -/
theorem numT_log2 : ∀ k < 17, ((k : Nat) : Int).natAbs.log2 < 1920 := numT_log
def spWritten (C : Addr) : Sp := fun vs H Q _ => ∃ (p d : Addr) (m : Nat) (rows : List TRow) (n : Nat), vs = [.ref p] ∧ TownAt C H p d m rows n ∧ ∀ H', Same H H' → Q (.str (textF m (rows.map (·.2)))) H'
def spLawText : Sp := fun vs H Q _ => ∃ (pl : Addr) (m : Nat) (J : List (Nat × Nat)), vs = [.int (m : Int), .ref pl] ∧ m ≤ 16 ∧ TL H pl (J.map pairV) ∧ (∀ q ∈ J, q.1 < 16 ∧ q.2 < 16) ∧ J.length ≤ 61 ∧ ∀ H', Same H H' → Q (.str (textF m J)) H'
abbrev s_written : Stmt := top 19
abbrev N_written : List Str := ["town", "rows", "_", "one", "other"]
theorem sc_written : FnScope N_written ["town"] (defScope s_written) := ⟨rfl, rfl, rfl, by decide +kernel, rfl, by decide +kernel, by decide +kernel⟩
abbrev s_law_text : Stmt := top 29
abbrev N_law_text : List Str := ["_law_many_here", "_law_pairs_here", "_law_one", "_law_other"]
theorem sc_law_text : FnScope N_law_text ["_law_many_here", "_law_pairs_here"] (defScope s_law_text) := ⟨rfl, rfl, rfl, by decide +kernel, rfl, by decide +kernel, by decide +kernel⟩
section
variable {P : Program} {w : World} {K : PySem.W.Frag} {mg : Str → Option Value} {base : Heap} {f : Addr} {fd : FuncData}
theorem ok_written (D : FnP K "written" "written" s_written f fd) (c_Town_places : MetX P w K mg base 1 (gA K "Town") "places" (spPlaces (gA K "Town"))) (c_Town_streets : MetX P w K mg base 1 (gA K "Town") "streets" (spStreets (gA K "Town"))) : FnOk P w K mg base (L2.CX P w) 3 f fd ["town"] (spWritten (gA K "Town")) := by
  have nd := sc_written.nd
  refine D.ok sc_written (fun vs H Q E h => ?_) (fun cdv A outer s H vs Q E hr h => ?_)
  · obtain ⟨p, d, m, rows, n, rfl, _⟩ := h
    rfl
  · obtain ⟨p, d, m, rows, n, rfl, W, k⟩ := h
    have hu := hu_of hr
    obtain ⟨f_Town_places, fd_Town_places, ps_Town_places, c_Town_places, M_Town_places, F_Town_places, b_Town_places⟩ := c_Town_places.ex
    obtain ⟨f_Town_streets, fd_Town_streets, ps_Town_streets, c_Town_streets, M_Town_streets, F_Town_streets, b_Town_streets⟩ := c_Town_streets.ex
    refine ⟨_, (pss_cons (ps_setLc (own := [("_", 2), ("one", 3), ("other", 4)]) (g := (gTup K 3 (gCons (gName 2) (gCons (gName 3) (gCons (gName 4) gNil))))) (i := 1) rfl nd rfl rfl (sw_true rfl rfl rfl (by decide +kernel)) (pi_list (pe_meth0 (pv 0) c_Town_streets M_Town_streets F_Town_streets (hr.mono (by decide)) b_Town_streets .nil passF)) (blkOk_by (own := [("_", 2), ("one", 3), ("other", 4)]) (N := N_written) (sc := defScope s_written) (by decide +kernel)) (fun _ _ _ _ _ => (pg_tup rfl (pgs_cons (pg_name (i := 2) nd rfl (Or.inl rfl)) (pgs_cons (pg_name (i := 3) nd rfl (Or.inl rfl)) (pgs_cons (pg_name (i := 4) nd rfl (Or.inl rfl)) pgs_nil))))) (fun _ _ _ _ _ => pts_nil) (fun _ _ _ _ _ => (pe_joinedN (.cons (pe_fmt (pv 3)) (.cons pe_str (.cons (pe_fmt (pv 4)) .nil))))))
      (pss_one (ps_ret (pe_join pe_str (pe_op op_cat (pe_lst (pa_cons (pe_joinedN (.cons pe_str (.cons (pe_fmt (pe_meth0 (pv 0) c_Town_places M_Town_places F_Town_places (hr.mono (by decide)) b_Town_places .nil passF)) .nil))) pa_nil)) (pv 1)))))), ?_⟩
    obtain ⟨dx, h1⟩ := W.ob
    refine ⟨_, rfl, p, dx, _, rfl, h1, tF_no _ _ _ (by decide +kernel) (by decide +kernel) (by decide +kernel), p, d, m, rows, n, rfl, W, fun l H1 hl sm1 tl => ?_⟩
    obtain ⟨rv, hrv, tr⟩ := tl
    refine ⟨l, rfl, ⟨rv, SqL.of hrv⟩, fun L hL => ?_⟩
    have lrv := tups_len tr
    rw [List.length_map] at lrv
    have few := W.ok.few
    have nlL : l ≠ L := ne_of_none hrv hL
    refine lc_it walk_list (fun i H' => H' L = some (.lst (((rows.take i).map fun r => rowT r.2).map V.str)) ∧ Same H1 H') ⟨upd_same, same_new hL⟩ (fun i H' _ ⟨_, sm⟩ => SqL.of (sm _ _ hrv)) ?_ ?_
    · rintro i x H2 H3 hi ⟨e2, sm2⟩ ⟨rfl, hx⟩
      obtain ⟨t, xs, rfl, hxs, ht⟩ := tups_get (tups_ext (fun t xs e => sm2 t _ e) tr) hx
      rw [List.getElem?_map] at hxs
      obtain ⟨q, hq, rfl⟩ : ∃ q, rows[i]? = some q ∧ xs = rowV q := by
        cases e : rows[i]? with
        | none => rw [e] at hxs; cases hxs
        | some q => rw [e] at hxs; exact ⟨q, rfl, (Option.some.inj hxs).symm⟩
      obtain ⟨q1, q2, q3⟩ := W.ok.ends q (List.mem_of_getElem? hq)
      refine ⟨t, _, rfl, SqT.of ht, rfl, _, _, rfl, _, _, rfl, _, _, rfl, rfl, ?_⟩
      refine ⟨rfl, ?_⟩
      refine yes_then ?_
      refine row_join (a := 3) (b := 4) (i := q.2.1) (j := q.2.2) (by have := W.pm; omega) (by have := W.pm; omega) rfl rfl ⟨_, e2, ?_, ?_, ?_⟩
      · rw [List.length_map, List.length_map, List.length_take, sizeLine_eq]
        omega
      · rw [take_snoc hq, List.map_append, List.map_append]
        exact upd_same
      · exact same_over hL sm2
    · rintro H2 ⟨e2, sm2⟩
      have smA := sm1.trans sm2
      have W2 := W.same smA
      obtain ⟨dx2, h2⟩ := id W2.ob
      have lm := numT_len m (by have := W.pm; omega)
      have big : sizeLine = 16777216 := sizeLine_eq
      have e0 : (Str.empty : Str).length = 0 := rfl
      refine ⟨⟨_, rfl⟩, ?_⟩
      refine ⟨Str.ofString "places ", rfl, by rw [str_len, pl_len]; omega, ?_⟩
      refine ⟨_, rfl, p, dx2, _, rfl, h2, tF_no _ _ _ (by decide +kernel) (by decide +kernel) (by decide +kernel), p, d, m, rows, n, rfl, W2, .inr ⟨_, rfl, numT_lg m (by have := W.pm; omega), numT m, rfl, by rw [str_len, str_len, pl_len]; omega, ?_⟩⟩
      rw [str_nil]
      refine ⟨(by show 1 ≤ sizeLine; decide), fun L2 hL2 => ?_⟩
      have nLL : L ≠ L2 := ne_of_none e2 hL2
      refine ⟨_, rfl, L2, L, _, _, rfl, rfl, upd_same, (by rw [upd_ne nLL]; exact e2), (by rw [List.length_map, List.length_map, List.length_take, sizeLine_eq, List.length_cons, List.length_nil]; omega), fun L3 hL3 => ?_⟩
      have pm := W.pm
      have okJ : ∀ q ∈ (rows.map fun r : TRow => r.2), q.1 < 16 ∧ q.2 < 16 := fun q hq => by
        obtain ⟨r, hr2, rfl⟩ := List.mem_map.mp hq
        obtain ⟨a, b, _⟩ := W.ok.ends r hr2
        exact ⟨by omega, by omega⟩
      have elist : [V.str (Str.ofString "places " ++ numT m)] ++ (((rows.take rv.length).map fun r => rowT r.2).map V.str) = (partsT m (rows.map fun r : TRow => r.2)).map V.str := by
        rw [lrv, List.take_length]
        simp [partsT, headT, List.map_map, Function.comp_def]
      have sum := parts_sum pm.2 okJ
      refine ⟨_, L3, partsT m (rows.map fun r : TRow => r.2), rfl, rfl, .inl (SqL.of (by rw [elist]; exact upd_same)), ?_, k _ (same_over (smA.free (by
        have z := hL3
        rw [upd_ne (ne_of_none upd_same hL3).symm] at z
        exact z)) (same_over (smA.free hL2) smA))⟩
      rw [nl_len]
      have l2 : (partsT m (rows.map fun r : TRow => r.2)).length = rows.length + 1 := by rw [partsT, List.length_cons, List.length_map, List.length_map]
      rw [List.length_map] at sum
      rw [l2]
      omega
theorem ok_law_text (T : TxtN K mg) (D : FnP K "_law_text" "_law_text" s_law_text f fd) : FnOk P w K mg base (L2.CX P w) 1 f fd ["_law_many_here", "_law_pairs_here"] spLawText := by
  have nd := sc_law_text.nd
  refine D.ok sc_law_text (fun vs H Q E h => ?_) (fun cdv A outer s H vs Q E hr h => ?_)
  · obtain ⟨pl, m, J, rfl, _⟩ := h
    rfl
  · obtain ⟨pl, m, J, rfl, hm, hJ, okJ, lJ, k⟩ := h
    have hu := hu_of hr
    refine ⟨_, (pss_one (ps_ret (pe_join pe_str (pe_op op_cat (pe_lst (pa_cons (pe_op op_add_str pe_str (pe_callTy call_str_int rfl T.f_str (by decide +kernel) (pa_cons (pv 0) pa_nil))) pa_nil)) (pe_lc (own := [("_law_one", 2), ("_law_other", 3)]) (g := (gTup K 2 (gCons (gName 2) (gCons (gName 3) gNil)))) rfl nd (pi_list (pv 1)) (blkOk_by (own := [("_law_one", 2), ("_law_other", 3)]) (N := N_law_text) (sc := defScope s_law_text) (by decide +kernel)) (fun _ _ _ _ _ => (pg_tup rfl (pgs_cons (pg_name (i := 2) nd rfl (Or.inl rfl)) (pgs_cons (pg_name (i := 3) nd rfl (Or.inl rfl)) pgs_nil)))) (fun _ _ _ _ _ => pts_nil) (fun _ _ _ _ _ => (pe_op op_add_str (pe_op op_add_str (pe_callTy call_str_int rfl T.f_str (by decide +kernel) (pa_cons (pv 2) pa_nil)) pe_str) (pe_callTy call_str_int rfl T.f_str (by decide +kernel) (pa_cons (pv 3) pa_nil))))))))), ?_⟩
    have lm := numT_len m (by omega)
    have big : sizeLine = 16777216 := sizeLine_eq
    obtain ⟨rv, hrv, tr⟩ := hJ
    have lrv := tups_len tr
    rw [List.length_map] at lrv
    refine ⟨⟨_, rfl⟩, ?_⟩
    refine ⟨_, rfl, _, rfl, numT_lg m (by omega), Str.ofString "places ", numT m, rfl, rfl, by rw [pl_len]; omega, (by show 1 ≤ sizeLine; decide), fun L1 hL1 => ?_⟩
    have sm1 := same_new (o := .lst [V.str (Str.ofString "places " ++ numT m)]) hL1
    have e1 := upd_same (H := H) (a := L1) (o := .lst [V.str (Str.ofString "places " ++ numT m)])
    generalize upd H L1 (.lst [V.str (Str.ofString "places " ++ numT m)]) = H1 at sm1 e1 ⊢
    refine ⟨_, rfl, pl, rfl, ⟨rv, SqL.of (sm1 _ _ hrv)⟩, fun L hL => ?_⟩
    refine lc_it walk_list (fun i H' => H' L = some (.lst (((J.take i).map rowT).map V.str)) ∧ Same H1 H') ⟨upd_same, same_new hL⟩ (fun i H' _ ⟨_, sm⟩ => SqL.of (sm _ _ (sm1 _ _ hrv))) ?_ ?_
    · rintro i x H2 H3 hi ⟨e2, sm2⟩ ⟨rfl, hx⟩
      obtain ⟨t, xs, rfl, hxs, ht⟩ := tups_get (tups_ext (fun t xs e => (sm1.trans sm2) t _ e) tr) hx
      rw [List.getElem?_map] at hxs
      obtain ⟨q, hq, rfl⟩ : ∃ q, J[i]? = some q ∧ xs = pairV q := by
        cases e : J[i]? with
        | none => rw [e] at hxs; cases hxs
        | some q => rw [e] at hxs; exact ⟨q, rfl, (Option.some.inj hxs).symm⟩
      obtain ⟨q1, q2⟩ := okJ q (List.mem_of_getElem? hq)
      have l1 := numT_len q.1 (by omega)
      have l2 := numT_len q.2 (by omega)
      refine ⟨t, _, rfl, SqT.of ht, rfl, _, _, rfl, _, _, rfl, rfl, rfl, ?_⟩
      refine yes_then ?_
      refine ⟨_, rfl, _, rfl, numT_lg q.1 (by omega), numT q.1, Str.ofString " ", rfl, rfl, by rw [bl_len]; omega, _, rfl, _, rfl, numT_lg q.2 (by omega), numT q.1 ++ Str.ofString " ", numT q.2, rfl, rfl, by rw [str_len, bl_len]; omega, _, e2, ?_, ?_, ?_⟩
      · rw [List.length_map, List.length_map, List.length_take, sizeLine_eq]
        omega
      · rw [take_snoc hq, List.map_append, List.map_append]
        exact upd_same
      · exact same_over hL sm2
    · rintro H2 ⟨e2, sm2⟩
      have nLL : L1 ≠ L := ne_of_none e1 hL
      refine ⟨L1, L, _, _, rfl, rfl, sm2 _ _ e1, e2, (by rw [List.length_map, List.length_map, List.length_take, sizeLine_eq, List.length_cons, List.length_nil]; omega), fun L3 hL3 => ?_⟩
      have elist : [V.str (Str.ofString "places " ++ numT m)] ++ (((J.take rv.length).map rowT).map V.str) = (partsT m J).map V.str := by
        rw [lrv, List.take_length]
        simp [partsT, headT]
      have sum := parts_sum hm okJ
      refine ⟨_, L3, partsT m J, rfl, rfl, .inl (SqL.of (by rw [elist]; exact upd_same)), ?_, k _ (same_over ((sm1.trans sm2).free hL3) (sm1.trans sm2))⟩
      rw [nl_len]
      have l2 : (partsT m J).length = J.length + 1 := by rw [partsT, List.length_cons, List.length_map]
      rw [l2]
      omega
end
end K10

set_option Elab.async false
set_option linter.all false
set_option maxRecDepth 100000
set_option maxHeartbeats 4000000
/-! Rows of words in the heap; the law's reading of them. -/
namespace Own
open PySem PySem.Spec PyProof.Rows L2
theorem at_sq {A B : TS} {D : Ends} {σ : L2.St} {H : Hp} (h : A { D with nx := B D } σ H) : tSeq A B D σ H := h
theorem at_sqP {A B : TS} {D : Ends} {σ : L2.St} {H : Hp} (Pv : L2.St → Hp → Prop) (rest : ∀ σ' H', Pv σ' H' → B D σ' H') (h : ∀ N : L2.St → Hp → Prop, (∀ σ' H', Pv σ' H' → N σ' H') → A { D with nx := N } σ H) : tSeq A B D σ H := h (B D) rest
theorem at_name {i : Nat} {v : V} {σ : L2.St} {H : Hp} {Q : L2.St → Hp → Prop} (h : Q (σ.set i (some v)) H) : gName i v σ H Q := h
theorem chain_m {a m : Nat} {σ : L2.St} {H : Hp} {Q : Bool → Hp → Prop} (es : σ[a]? = some (some (.int (m : Int)))) (q : Q (decide (1 ≤ m ∧ m ≤ 16)) H) :
    tTest (tChain (rI0 fun i j => V.bl (decide (i ≤ j))) (rI0 fun i j => V.bl (decide (i ≤ j))) (tC (V.int 1)) (tVar a) (tC (V.int 16))) σ H Q := by
  refine ⟨_, es, _, _, rfl, rfl, _, rfl, ?_⟩
  refine if_both (fun e => ⟨_, _, rfl, rfl, _, rfl, ?_⟩) (fun e => ⟨_, rfl, ?_⟩)
  · have e1 := of_decide_eq_true e
    have eq : decide ((m : Int) ≤ 16) = decide (1 ≤ m ∧ m ≤ 16) := by
      rw [Bool.eq_iff_iff, decide_eq_true_eq, decide_eq_true_eq]
      omega
    rw [eq]
    exact q
  · have e1 := of_decide_eq_false e
    rw [decide_eq_false (show ¬ (1 ≤ m ∧ m ≤ 16) by omega)] at q
    exact q
abbrev WordsAt (H : Hp) (L : Addr) : List V → List (List Str) → Prop := Paired fun v ws => ∃ t, v = V.ref t ∧ t ≠ L ∧ H t = some (.lst (ws.map V.str))
theorem wds_ext {H H' : Hp} {L : Addr} (k : ∀ t xs, t ≠ L → H t = some (.lst xs) → H' t = some (.lst xs)) : ∀ {vs : List V} {rss : List (List Str)}, WordsAt H L vs rss → WordsAt H' L vs rss
  | _, _, .nil => .nil
  | _, _, .cons ⟨t, e, n, h⟩ q => .cons ⟨t, e, n, k t _ n h⟩ (wds_ext k q)
theorem wds_to {H : Hp} {L L2 : Addr} (n : ∀ t xs, H t = some (.lst xs) → t ≠ L2) : ∀ {vs : List V} {rss : List (List Str)}, WordsAt H L vs rss → WordsAt H L2 vs rss
  | _, _, .nil => .nil
  | _, _, .cons ⟨t, e, _, h⟩ q => .cons ⟨t, e, n t _ h, h⟩ (wds_to n q)
theorem wds_snoc {H : Hp} {L t : Addr} {ws : List Str} (n : t ≠ L) (h : H t = some (.lst (ws.map V.str))) : ∀ {vs : List V} {rss : List (List Str)}, WordsAt H L vs rss → WordsAt H L (vs ++ [V.ref t]) (rss ++ [ws])
  | _, _, .nil => .cons ⟨t, rfl, n, h⟩ .nil
  | _, _, .cons z q => .cons z (wds_snoc n h q)
theorem wds_get {H : Hp} {L : Addr} : ∀ {vs : List V} {rss : List (List Str)} {i : Nat} {v : V}, WordsAt H L vs rss → vs[i]? = some v → ∃ t ws, v = V.ref t ∧ rss[i]? = some ws ∧ t ≠ L ∧ H t = some (.lst (ws.map V.str))
  | _, _, 0, v, .cons (b := ws) ⟨t, e, n, h⟩ q, hv => by
    cases hv
    exact ⟨t, ws, e, rfl, n, h⟩
  | _, _, i + 1, v, .cons _ q, hv => by
    rw [List.getElem?_cons_succ] at hv ⊢
    exact wds_get q hv
  | _, _, i, v, .nil, hv => by
    simp at hv
theorem wds_len {H : Hp} {L : Addr} {vs : List V} {rss : List (List Str)} (h : WordsAt H L vs rss) : vs.length = rss.length := Paired.length h
def rowsD (rss : List (List Str)) : List PyData := rss.map fun ws => .list (ws.map PyData.str)
theorem dp_strsO {K : PySem.W.Frag} {H : Hp} : ∀ ws : List Str, DpAll K H (ws.map V.str) (ws.map PyData.str)
  | [] => .nil
  | n :: ns => .cons (.str n) (dp_strsO ns)
theorem dp_rowsS {K : PySem.W.Frag} {H : Hp} {L : Addr} : ∀ {vs : List V} {rss : List (List Str)}, WordsAt H L vs rss → DpAll K H vs (rowsD rss)
  | _, _, .nil => .nil
  | _, _, .cons ⟨t, e, _, h⟩ q => by
    subst e
    exact .cons (.lst (SqL.of h) (dp_strsO _)) (dp_rowsS q)
theorem lay_rowsS {rss : List (List Str)} (h : ∀ ws ∈ rss, ∀ x ∈ ws, Ascii x) : Lay 2 (.list (rowsD rss)) := lay_list fun d hd => by
  obtain ⟨ws, hw, rfl⟩ := List.mem_map.mp hd
  exact lay_strs (h ws hw)
/-! ### what the law reads -/
def optV : Option Nat → V
  | none => .non
  | some k => .int (k : Int)
theorem optV_non (o : Option Nat) : decide (optV o = V.non) = o.isNone := by
  cases o <;> rfl
def w0 (z : Str) : Str := (rowW z).getD 0 Str.empty
def w1 (z : Str) : Str := (rowW z).getD 1 Str.empty
def optP (z : Str) : List V := [optV (numL (w0 z)), optV (numL (w1 z))]
theorem two_words {z : Str} (h : (rowW z).length = 2) : rowW z = [w0 z, w1 z] := by
  unfold w0 w1
  match rowW z, h with
  | [a, b], _ => rfl
theorem parse_len {z : Str} {zs : List Str} (hz : z ∈ zs) (h : (rowW z).length ≠ 2) : parseP zs = none := by
  cases q : parseP zs with
  | none => rfl
  | some v =>
    obtain ⟨m, J⟩ := v
    obtain ⟨z0, r, rfl, q1, q2⟩ := parse_some q
    exfalso
    rcases List.mem_cons.mp hz with e | hz
    · obtain ⟨w, e2, _⟩ := headW_some q1
      rw [← e] at e2
      rw [e2] at h
      exact h rfl
    · obtain ⟨_, q3, _⟩ := pairs_some q2
      obtain ⟨a, b, e2, _⟩ := goodW_some (q3 z hz)
      rw [e2] at h
      exact h rfl
theorem parse_61 {z : Str} {r : List Str} (h : 60 < r.length) : parseP (z :: r) = none := by
  cases q : parseP (z :: r) with
  | none => rfl
  | some v =>
    obtain ⟨m, J⟩ := v
    obtain ⟨z0, r', e, q1, q2⟩ := parse_some q
    cases e
    have := (pairs_some q2).1
    omega
theorem parse_row {z0 z : Str} {r : List Str} (hz : z ∈ r) (h : ∀ m, headW z0 = some m → goodW m z = none) : parseP (z0 :: r) = none := by
  cases q : parseP (z0 :: r) with
  | none => rfl
  | some v =>
    obtain ⟨m, J⟩ := v
    obtain ⟨z1, r', e, q1, q2⟩ := parse_some q
    cases e
    have z1 := (pairs_some q2).2.1 z hz
    rw [h m q1] at z1
    cases z1
/-- a head by the law's number -/
theorem head_L {z : Str} {m : Nat} : headW z = some m ↔ rowW z = [Str.ofString "places", w1 z] ∧ numL (w1 z) = some m ∧ 1 ≤ m ∧ m ≤ 16 := by
  refine ⟨fun h => ?_, fun ⟨a, b, c, d⟩ => headW_of a (num_PL.mpr ⟨b, d⟩) c⟩
  obtain ⟨w, e, e2, e3⟩ := headW_some h
  have ew : w1 z = w := by unfold w1; rw [e]; rfl
  rw [ew]
  obtain ⟨q1, q2⟩ := num_PL.mp e2
  exact ⟨e, q1, e3, q2⟩
/-- a row by the law's number -/
theorem good_L {z : Str} {m : Nat} (hm : m ≤ 16) (h2 : (rowW z).length = 2) {q : Nat × Nat} : goodW m z = some q ↔ numL (w0 z) = some q.1 ∧ numL (w1 z) = some q.2 ∧ q.1 ≠ q.2 ∧ q.1 < m ∧ q.2 < m := by
  refine ⟨fun h => ?_, fun ⟨a, b, c, d, e⟩ => goodW_of (two_words h2) (num_PL.mpr ⟨a, by omega⟩) (num_PL.mpr ⟨b, by omega⟩) ⟨c, d, e⟩⟩
  obtain ⟨a, b, e, e1, e2, c⟩ := goodW_some h
  have ea : w0 z = a := by unfold w0; rw [e]; rfl
  have eb : w1 z = b := by unfold w1; rw [e]; rfl
  rw [ea, eb]
  exact ⟨(num_PL.mp e1).1, (num_PL.mp e2).1, c⟩
theorem w0_ascii {z : Str} (hz : Ascii z) (h : (rowW z).length = 2) : Ascii (w0 z) := words_ascii hz (by rw [two_words h]; simp)
theorem w1_ascii {z : Str} (hz : Ascii z) (h : (rowW z).length = 2) : Ascii (w1 z) := words_ascii hz (by rw [two_words h]; simp)
theorem w0_len {z : Str} (h : (rowW z).length = 2) : (w0 z).length ≤ z.length := Own.words_le (show w0 z ∈ Txt.split z sBl from by rw [show Txt.split z sBl = rowW z from rfl, two_words h]; simp)
theorem w1_len {z : Str} (h : (rowW z).length = 2) : (w1 z).length ≤ z.length := Own.words_le (show w1 z ∈ Txt.split z sBl from by rw [show Txt.split z sBl = rowW z from rfl, two_words h]; simp)

theorem cutS_ascii {z : Str} (h : Ascii z) (lo hi : Option Int) : Ascii (cutS z lo hi) := fun c hc => by
  have q : c ∈ (z.cps.toList.drop (HT.sIx z.length 0 lo)).take (HT.sIx z.length z.length hi - HT.sIx z.length 0 lo) := by simpa [cutS] using hc
  exact h c (List.mem_of_mem_drop (List.mem_of_mem_take q))
theorem ascii_app {x y : Str} (hx : Ascii x) (hy : Ascii y) : Ascii (x ++ y) := fun c hc => by
  have q : c ∈ _root_.TL.tl (x ++ y) := hc
  rw [_root_.TL.tl_append] at q
  rcases List.mem_append.mp q with h | h
  · exact hx c h
  · exact hy c h
theorem signs_ok : ∀ c ∈ (Str.ofString "0123456789 \n-+xp").cps.toList, c < 128 := by decide +kernel
theorem signs_len : (Str.ofString "0123456789 \n-+xp").length = 16 := by decide +kernel
theorem mul_fits {c : Nat} {k : Bool} : MulOk ⟨#[c]⟩ (if k = true then 1 else 0) := mulOk_of 1 1 (Nat.le_refl 1) (by cases k <;> decide) (by cases k <;> decide) (by decide) (by decide)
theorem mul_one (c : Nat) (k : Bool) : Txt.mul ⟨#[c]⟩ (if k = true then 1 else 0) = if k = true then ⟨#[c]⟩ else Str.empty := by
  cases k with
  | false => rfl
  | true => rfl
theorem ascii_mul {c : Nat} (h : c < 128) (k : Bool) : Ascii (Txt.mul ⟨#[c]⟩ (if k = true then 1 else 0)) ∧ (Txt.mul ⟨#[c]⟩ (if k = true then 1 else 0)).length ≤ 1 := by
  rw [mul_one]
  cases k with
  | false => exact ⟨fun d hd => (nomatch hd), Nat.zero_le 1⟩
  | true =>
    refine ⟨fun d hd => ?_, Nat.le_refl 1⟩
    have e : d = c := by simpa using hd
    rw [e]
    exact h
theorem ascii_one {c : Nat} (h : c < 128) : Ascii ⟨#[c]⟩ := fun d hd => by
  have e : d = c := by simpa using hd
  rw [e]
  exact h

theorem fit2 {x y : Str} {a b : Nat} (hx : x.length ≤ a) (hy : y.length ≤ b) (h : a + b ≤ sizeLine) : x.length + y.length ≤ sizeLine := by omega
theorem len_app {x y : Str} {a b : Nat} (hx : x.length ≤ a) (hy : y.length ≤ b) : (x ++ y).length ≤ a + b := by rw [str_len]; omega

theorem numbT_fst : ∀ (n : Nat) (J : List (Nat × Nat)), (numbT n J).map (·.1) = List.range' n J.length
  | _, [] => rfl
  | n, q :: J => by
    rw [numbT, List.map_cons, numbT_fst, List.length_cons, List.range'_succ]
theorem numbT_snd : ∀ (n : Nat) (J : List (Nat × Nat)), (numbT n J).map (·.2) = J
  | _, [] => rfl
  | n, q :: J => by rw [numbT, List.map_cons, numbT_snd]

def pairDt (q : Nat × Nat) : PyData := .tuple [.int (q.1 : Int), .int (q.2 : Int)]
theorem dp_pairsT {K : PySem.W.Frag} {H : Hp} : ∀ {vs : List V} {J : List (Nat × Nat)}, Tups H vs (J.map pairV) → DpAll K H vs (J.map pairDt)
  | [], [], _ => .nil
  | _ :: _, [], h => by cases h
  | [], _ :: _, h => by cases h
  | v :: vs, q :: J, .cons ⟨t, e, h⟩ r => by
    subst e
    exact .cons (.tup (SqT.of h) (.cons (.int _) (.cons (.int _) .nil))) (dp_pairsT r)
theorem dp_natsT {K : PySem.W.Frag} {H : Hp} : ∀ ns : List Nat, DpAll K H (ns.map natV) (ns.map fun (n : Nat) => PyData.int (n : Int))
  | [] => .nil
  | n :: ns => .cons (show Dp K H (V.int (n : Int)) (PyData.int (n : Int)) from .int _) (dp_natsT ns)
def townD (m : Nat) (J : List (Nat × Nat)) : PyData := .tuple [.int (m : Int), .list (J.map pairDt), .list ((List.range J.length).map fun (n : Nat) => PyData.int (n : Int))]
theorem dp_townD {K : PySem.W.Frag} {H : Hp} {t l1 l2 : Addr} {v1 : List V} {m : Nat} {J : List (Nat × Nat)} (ht : H t = some (.tup [.int (m : Int), .ref l1, .ref l2])) (h1 : H l1 = some (.lst v1)) (h2 : Tups H v1 (J.map pairV)) (h3 : H l2 = some (.lst ((List.range J.length).map natV))) :
    Dp K H (.ref t) (townD m J) := .tup (SqT.of ht) (.cons (.int _) (.cons (.lst (SqL.of h1) (dp_pairsT h2)) (.cons (.lst (SqL.of h3) (dp_natsT _)) .nil)))
theorem Lay.up {n k : Nat} {d : PyData} (h : Lay n d) (hk : n ≤ k) : Lay k d := ⟨h.1, Nat.le_trans h.2 hk⟩
theorem lay_townD (m : Nat) (J : List (Nat × Nat)) : Lay 3 (townD m J) := lay_tup fun d hd => by
  simp only [List.mem_cons, List.not_mem_nil, or_false] at hd
  rcases hd with h | h | h <;> rw [h]
  · exact (lay_int _).up (by decide)
  · refine lay_list fun e he => ?_
    obtain ⟨q, _, rfl⟩ := List.mem_map.mp he
    refine lay_tup fun x hx => ?_
    simp only [List.mem_cons, List.not_mem_nil, or_false] at hx
    rcases hx with h | h <;> rw [h] <;> exact lay_int _
  · refine (lay_list (n := 0) fun e he => ?_).up (by decide)
    obtain ⟨q, _, rfl⟩ := List.mem_map.mp he
    exact lay_int _
theorem lay_non : Lay 0 .none := ⟨by simp only [PyData.canLay0], by simp only [PyData.depth]; exact Nat.le_refl _⟩

theorem rg_natT (m : Nat) : rgV 0 (m : Int) = (List.range m).map natV := by
  unfold rgV
  rw [Int.sub_zero, Int.toNat_natCast]
  refine List.map_congr_left fun i _ => ?_
  rw [Int.zero_add]
  rfl

theorem rowT_ascii : ∀ i < 16, ∀ j < 16, ∀ c ∈ (rowT (i, j)).cps.toList, c < 128 := by decide +kernel
theorem headT_ascii : ∀ m < 17, ∀ c ∈ (headT m).cps.toList, c < 128 := by decide +kernel
theorem joinL_mem (S : List Nat) : ∀ (ps : List (List Nat)) (c : Nat), c ∈ _root_.TL.joinL S ps → c ∈ S ∨ ∃ p ∈ ps, c ∈ p
  | [], c, h => by simp [_root_.TL.joinL] at h
  | [p], c, h => .inr ⟨p, List.mem_cons_self .., by simpa [_root_.TL.joinL] using h⟩
  | p :: q :: r, c, h => by
    simp only [_root_.TL.joinL, List.mem_append] at h
    rcases h with h | h | h
    · exact .inr ⟨p, List.mem_cons_self .., h⟩
    · exact .inl h
    · rcases joinL_mem S (q :: r) c h with z | ⟨x, hx, z⟩
      · exact .inl z
      · exact .inr ⟨x, List.mem_cons_of_mem _ hx, z⟩
theorem text_ascii {m : Nat} {J : List (Nat × Nat)} (hm : m ≤ 16) (hJ : ∀ q ∈ J, q.1 < 16 ∧ q.2 < 16) : Ascii (textF m J) := fun c hc => by
  have h : c ∈ _root_.TL.tl (textF m J) := hc
  unfold textF at h
  rw [_root_.TL.join_eq, _root_.TL.tl_join] at h
  rcases joinL_mem _ _ _ h with z | ⟨p, hp, z⟩
  · rw [nl_eq] at z
    have e : c = 10 := by simpa [_root_.TL.tl] using z
    omega
  · obtain ⟨x, hx, rfl⟩ := List.mem_map.mp hp
    rcases List.mem_cons.mp hx with e | hx
    · rw [e] at z
      exact headT_ascii m (by omega) c z
    · obtain ⟨q, hq, rfl⟩ := List.mem_map.mp hx
      obtain ⟨a, b⟩ := hJ q hq
      exact rowT_ascii q.1 a q.2 b c z
theorem odd_texts : ∀ z ∈ [Str.ofString "", Str.ofString "\n", Str.ofString "places", Str.ofString "places 3\n", Str.ofString "places 03", Str.ofString "places 17"], parseT z = none ∧ z.length ≤ 20 := by decide +kernel
def far61 (n : Nat) : List (Nat × Nat) := (List.range n).map fun k => (k % 16, (k + 5) % 16)
theorem far_ok (n : Nat) : ∀ q ∈ far61 n, q.1 < 16 ∧ q.2 < 16 := fun q hq => by
  obtain ⟨k, _, rfl⟩ := List.mem_map.mp hq
  exact ⟨Nat.mod_lt _ (by decide), Nat.mod_lt _ (by decide)⟩
theorem far_len (n : Nat) : (far61 n).length = n := by unfold far61; rw [List.length_map, List.length_range]
theorem far_succ (n : Nat) : far61 (n + 1) = far61 n ++ [(n % 16, (n + 5) % 16)] := by
  unfold far61
  rw [List.range_succ, List.map_append]
  rfl
end Own

set_option Elab.async false
set_option linter.all false
set_option maxRecDepth 100000
set_option maxHeartbeats 4000000
namespace K10
open PySem PySem.Spec PyProof.Rows L2 Own
/-! ### the law's own reading of a text -/
structure TxtW10 (mg : Str → Option Value) : Prop extends TxtM mg where
  f_int : mg "int" = none
def spLawNumber : Sp := fun vs H Q _ => ∃ z : Str, vs = [.str z] ∧ z.length ≤ sizeLine ∧ Ascii z ∧ ∀ H', Same H H' → Q (optV (numL z)) H'
abbrev s_law_number : Stmt := top 30
abbrev N_law_number : List Str := ["_law_word_here", "_law_sign"]
theorem sc_law_number : FnScope N_law_number ["_law_word_here"] (defScope s_law_number) := ⟨rfl, rfl, rfl, by decide +kernel, rfl, by decide +kernel, by decide +kernel⟩
section
variable {P : Program} {w : World} {K : PySem.W.Frag} {mg : Str → Option Value} {base : Heap} {f : Addr} {fd : FuncData}
theorem ok_law_number (T : TxtW10 mg) (D : FnP K "_law_number" "_law_number" s_law_number f fd) : FnOk P w K mg base (L2.CX P w) 1 f fd ["_law_word_here"] spLawNumber := by
  have nd := sc_law_number.nd
  refine D.ok sc_law_number (fun vs H Q E h => ?_) (fun cdv A outer s H vs Q E hr h => ?_)
  · obtain ⟨z, rfl, _⟩ := h
    rfl
  · obtain ⟨z, rfl, hz, hA, k⟩ := h
    have hu := hu_of hr
    refine ⟨_, (pss_cons (ps_if (PW.pt (pw_or (pt_not (pt_chain op_le op_le pe_int (pe_callB call_len_str rfl T.f_len PySem.boot_len (pa_cons (pv 0) pa_nil)) pe_int)) (pw_or1 (pt_cmpR (op_neD hr.units) (pe_lc (own := [("_law_sign", 1)]) (g := (gName 1)) rfl nd (pi_str (pv 0)) (blkOk_by (own := [("_law_sign", 1)]) (N := N_law_number) (sc := defScope s_law_number) (by decide +kernel)) (fun _ _ _ _ _ => (pg_name (i := 1) nd rfl (Or.inl rfl))) (fun _ _ _ _ _ => (pts_one (pt_cmpR op_notIn_sign (pv 1) pe_str (by with_unfolding_all rfl)))) (fun _ _ _ _ _ => (pv 1))) (pe_lst pa_nil) (nomark _))))) (pss_one (ps_ret pe_non)) pss_nil)
      (pss_one (ps_ret (pe_ifExp (PW.pt (pw_and (pt_cmpR op_eq (pe_item_str (pv 0) pe_int (fun _ _ => rfl)) pe_str (nomark _)) (pw_and1 (pt_cmpR op_ne (pv 0) pe_str (nomark _))))) pe_non (pe_callTy call_int_str rfl T.f_int (by decide +kernel) (pa_cons (pv 0) pa_nil)))))), ?_⟩
    refine at_if (at_or (chain_12 rfl hz ?_))
    by_cases c12 : 1 ≤ z.length ∧ z.length ≤ 2
    case neg =>
      rw [decide_eq_false c12]
      have q := k H (Same.refl H)
      rw [num_bad1 c12] at q
      exact q
    rw [decide_eq_true c12]
    refine if_no (c := !true) rfl ?_
    refine at_tst (at_two ?_)
    refine ⟨_, rfl, z, rfl, fun L hL => ?_⟩
    refine lc_it walk_str (fun i H' => H' L = some (.lst ((oddS (z.cps.toList.take i)).map V.str)) ∧ Same H H') ⟨upd_same, same_new hL⟩ (fun _ _ _ _ => trivial) ?_ ?_
    · rintro i x H1 H2 hi ⟨e1, sm1⟩ ⟨rfl, c, hc, rfl⟩
      rw [← Array.getElem?_toList] at hc
      have ten := take_snoc hc
      refine ⟨rfl, _, rfl, c, _, rfl, rfl, _, rfl, ?_⟩
      rw [fig_mem, ten]
      refine if_both (fun o => ⟨_, rfl, _, e1, ?_, ?_, ?_⟩) (fun o => ?_)
      · have l1 := odd_len (z.cps.toList.take i)
        rw [List.length_take] at l1
        rw [List.length_map, sizeLine_eq]
        have l2 : z.length = z.cps.size := rfl
        omega
      · rw [odd_yes o, List.map_append]
        exact upd_same
      · exact same_over hL sm1
      · rw [odd_no o]
        exact ⟨e1, sm1⟩
    · rintro H1 ⟨e1, sm1⟩
      rw [show z.cps.toList.take z.cps.size = z.cps.toList by rw [← Array.length_toList, List.take_length]] at e1
      refine ⟨(by show 0 ≤ sizeLine; decide), fun L2 hL2 => ?_⟩
      have e1' := same_new (o := .lst ([] : List V)) hL2 _ _ e1
      have sm2 := sm1.trans (same_new (o := .lst ([] : List V)) hL2)
      refine ⟨_, _, .lst (SqL.of e1') (dp_strs _), .lst (SqL.of upd_same) .nil, (lay_strs (odd_ascii hA)).shaped (by decide), (lay_ints []).shaped (by decide), _, rfl, ?_⟩
      cases eo : oddS z.cps.toList with
      | cons s1 ss =>
        rw [show PyData.eqv (.list ((s1 :: ss).map PyData.str)) (.list []) = false from eqv_cons_nil _ _]
        have q := k _ sm2
        rw [num_bad2 (by rw [eo]; exact fun z => nomatch z)] at q
        exact q
      | nil =>
        rw [show PyData.eqv (.list (([] : List Str).map PyData.str)) (.list []) = true from eqv_nil_nil]
        have hl : z.length ≤ 640 := by omega
        rcases num_cases c12 eo with ⟨c, rfl, f1⟩ | ⟨c, d, rfl, f1, f2⟩
        · have q := k _ sm2
          rw [num_c f1] at q
          refine ⟨_, rfl, _, (0 : Int), c, rfl, rfl, by decide, by decide, (by show (0 : Int) < 1; decide), rfl, rfl, _, rfl, ?_⟩
          rw [one_eq]
          refine if_both (fun o => ?_) (fun o => ?_)
          · refine ⟨_, rfl, rfl, _, rfl, ?_⟩
            rw [one_eq, o]
            exact ⟨_, rfl, _, _, rfl, int_c f1, hl, q⟩
          · exact ⟨_, rfl, _, _, rfl, int_c f1, hl, q⟩
        · have q := k _ sm2
          rw [num_cd f1 f2] at q
          refine ⟨_, rfl, _, (0 : Int), c, rfl, rfl, by decide, by decide, (by show (0 : Int) < 2; decide), rfl, rfl, _, rfl, ?_⟩
          rw [one_eq]
          refine if_both (fun o => ?_) (fun o => ?_)
          · refine ⟨_, rfl, rfl, _, rfl, ?_⟩
            rw [two_eq]
            rw [if_pos (of_decide_eq_true o)] at q
            exact q
          · rw [if_neg (of_decide_eq_false o)] at q
            exact ⟨_, rfl, _, _, rfl, int_cd f1 f2, hl, q⟩
end
end K10

set_option Elab.async false
set_option linter.all false
set_option maxRecDepth 100000
set_option maxHeartbeats 4000000
namespace K10
open PySem PySem.Spec PyProof.Rows L2 Own
def spLawRead : Sp := fun vs H Q _ => ∃ z : Str, vs = [.str z] ∧ z.length + 4 ≤ sizeLine ∧ Ascii z ∧ (parseT z = none → ∀ H', Same H H' → Q .non H') ∧
  (∀ m J, parseT z = some (m, J) → ∀ (t pl : Addr) (vs : List V) (H' : Hp), H' t = some (.tup [.int (m : Int), .ref pl]) → H' pl = some (.lst vs) → Tups H' vs (J.map pairV) → Same H H' → Q (.ref t) H')
abbrev s_law_read : Stmt := top 31
abbrev N_law_read : List Str := ["_law_text_here", "_law_rows", "_law_many_here", "_law_pairs_here", "_law_one", "_law_other", "_law_row"]
theorem sc_law_read : FnScope N_law_read ["_law_text_here"] (defScope s_law_read) := ⟨rfl, rfl, rfl, by decide +kernel, rfl, by decide +kernel, by decide +kernel⟩
section
variable {P : Program} {w : World} {K : PySem.W.Frag} {mg : Str → Option Value} {base : Heap} {f : Addr} {fd : FuncData}
theorem ok_law_read (T : TxtW10 mg) (D : FnP K "_law_read" "_law_read" s_law_read f fd) (c_law_number : CalX P w K mg base 1 "_law_number" spLawNumber) : FnOk P w K mg base (L2.CX P w) 2 f fd ["_law_text_here"] spLawRead := by
  have nd := sc_law_read.nd
  refine D.ok sc_law_read (fun vs H Q E h => ?_) (fun cdv A outer s H vs Q E hr h => ?_)
  · obtain ⟨z, rfl, _⟩ := h
    rfl
  · obtain ⟨z, rfl, hz, hA, no, yes⟩ := h
    have hu := hu_of hr
    obtain ⟨f_law_number, fd_law_number, ps_law_number, F_law_number, m_law_number, k_law_number, b_law_number⟩ := c_law_number.ex
    refine ⟨_, (pss_cons (ps_setLc (own := [("_law_row", 6)]) (g := (gName 6)) (i := 1) rfl nd rfl rfl (sw_true rfl rfl rfl (by decide +kernel)) (pi_list (pe_split (pv 0) pe_str)) (blkOk_by (own := [("_law_row", 6)]) (N := N_law_read) (sc := defScope s_law_read) (by decide +kernel)) (fun _ _ _ _ _ => (pg_name (i := 6) nd rfl (Or.inl rfl))) (fun _ _ _ _ _ => pts_nil) (fun _ _ _ _ _ => (pe_split (pv 6) pe_str)))
      (pss_cons (ps_if (PW.pt (pw_or (pt_cmpR op_ne (pe_ix ix_list (pe_ix ix_list (pv 1) pe_int (fun _ _ => rfl)) pe_int (fun _ _ => rfl)) pe_str (nomark _)) (pw_or (pt_cmpR (op_neD hr.units) (pe_lc (own := [("_law_row", 6)]) (g := (gName 6)) (tt := tTest (tOp rNe (tCB (fun xs H Q => ∃ (p : Addr) (ys : List V), xs = [.ref p] ∧ (SqL K H p ys ∨ SqT K H p ys) ∧ Q (.int ys.length) H) (tCons (tVar 6) tNil)) (tC (.int 2)))) rfl nd (pi_list (pv 1)) (blkOk_by (own := [("_law_row", 6)]) (N := N_law_read) (sc := defScope s_law_read) (by decide +kernel)) (fun _ _ _ _ _ => (pg_name (i := 6) nd rfl (Or.inl rfl))) (fun _ _ _ _ _ => (pts_one (pt_cmpR op_ne (pe_callB call_len_seq rfl T.f_len PySem.boot_len (pa_cons (pv 6) pa_nil)) pe_int (nomark _)))) (fun _ _ _ _ _ => (pv 6))) (pe_lst pa_nil) (nomark _)) (pw_or1 (pt_cmpR op_gt (pe_callB call_len_seq rfl T.f_len PySem.boot_len (pa_cons (pv 1) pa_nil)) pe_int (nomark _)))))) (pss_one (ps_ret pe_non)) pss_nil)
      (pss_cons (ps_set (i := 2) nd rfl (Or.inl rfl) (pe_call F_law_number (hr.mono (by decide)) rfl m_law_number k_law_number b_law_number .nil passF (pa_cons (pe_ix ix_list (pe_ix ix_list (pv 1) pe_int (fun _ _ => rfl)) pe_int (fun _ _ => rfl)) pa_nil)))
      (pss_cons (ps_if (PW.pt (pw_or (pt_cmpR op_isN (pv 2) pe_non (nomark _)) (pw_or1 (pt_not (pt_chain op_le op_le pe_int (pv 2) pe_int))))) (pss_one (ps_ret pe_non)) pss_nil)
      (pss_cons (ps_setLc (own := [("_law_row", 6)]) (g := (gName 6)) (te := tTup (tCons (tCall spLawNumber [] EF (tCons (tOp (rIxL K) (tVar 6) (tC (.int 0))) tNil)) (tCons (tCall spLawNumber [] EF (tCons (tOp (rIxL K) (tVar 6) (tC (.int 1))) tNil)) tNil))) (i := 3) rfl nd rfl rfl (sw_true rfl rfl rfl (by decide +kernel)) (pi_list (pe_slice sl_list (pv 1) (po_some pe_int) po_none)) (blkOk_by (own := [("_law_row", 6)]) (N := N_law_read) (sc := defScope s_law_read) (by decide +kernel)) (fun _ _ _ _ _ => (pg_name (i := 6) nd rfl (Or.inl rfl))) (fun _ _ _ _ _ => pts_nil) (fun _ _ _ _ _ => (pe_tup (pa_cons (pe_call F_law_number (hr.mono (by decide)) rfl m_law_number k_law_number b_law_number .nil passF (pa_cons (pe_ix ix_list (pv 6) pe_int (fun _ _ => rfl)) pa_nil)) (pa_cons (pe_call F_law_number (hr.mono (by decide)) rfl m_law_number k_law_number b_law_number .nil passF (pa_cons (pe_ix ix_list (pv 6) pe_int (fun _ _ => rfl)) pa_nil)) pa_nil)))))
      (pss_cons (ps_for (passes_of rfl) rfl (pi_list (pv 3)) (pg_tup rfl (pgs_cons (pg_name (i := 4) nd rfl (Or.inl rfl)) (pgs_cons (pg_name (i := 5) nd rfl (Or.inl rfl)) pgs_nil))) (pss_one (ps_if (PW.pt (pw_or (pt_cmpR op_isN (pv 4) pe_non (nomark _)) (pw_or (pt_cmpR op_isN (pv 5) pe_non (nomark _)) (pw_or (pt_cmpR op_eq (pv 4) (pv 5) (nomark _)) (pw_or1 (pt_cmpR op_ge (pe_callB (call_max2 rfl) rfl T.f_max (by decide +kernel) (pa_cons (pv 4) (pa_cons (pv 5) pa_nil))) (pv 2) (nomark _))))))) (pss_one (ps_ret pe_non)) pss_nil)))
      (pss_one (ps_ret (pe_tup (pa_cons (pv 2) (pa_cons (pv 3) pa_nil))))))))))), ?_⟩
    have hzA : ∀ p ∈ Txt.split z "\n", Ascii p := fun p hp => rows_ascii hA hp
    have hzL : ∀ p ∈ Txt.split z "\n", p.length ≤ z.length := fun p hp => rows_le hp
    have many : (Txt.split z "\n").length ≤ z.length + 2 := split_many
    obtain ⟨z0, r, ez⟩ : ∃ z0 r, Txt.split z "\n" = z0 :: r := by
      cases q : Txt.split z "\n" with
      | nil => exact absurd q rows_ne
      | cons z0 r => exact ⟨z0, r, rfl⟩
    have eP : parseT z = parseP (z0 :: r) := by
      unfold parseT
      rw [show Txt.split z sNl = z0 :: r from ez]
    rw [eP] at no yes
    refine ⟨_, rfl, ⟨z, rfl⟩, z, _, rfl, rfl, rfl, (by omega), fun l hl => ?_⟩
    rw [ez] at hzA hzL many ⊢
    have sm1 := same_new (o := .lst ((z0 :: r).map V.str)) hl
    have e1 := upd_same (H := H) (a := l) (o := .lst ((z0 :: r).map V.str))
    generalize upd H l (.lst ((z0 :: r).map V.str)) = H1 at sm1 e1 ⊢
    refine ⟨l, rfl, ⟨_, SqL.of e1⟩, fun L hL => ?_⟩
    have nlL : l ≠ L := ne_of_none e1 hL
    refine lc_it walk_list (fun i H' => ∃ rv, H' L = some (.lst rv) ∧ WordsAt H' L rv (((z0 :: r).take i).map rowW) ∧ Same H1 H') ⟨[], upd_same, .nil, same_new hL⟩ (fun i H' _ ⟨_, _, _, sm⟩ => SqL.of (sm _ _ e1)) ?_ ?_
    · rintro i x H2 H3 hi ⟨rv, e2, r2, sm2⟩ ⟨rfl, hx⟩
      rw [List.length_map] at hi
      obtain ⟨zi, hzi⟩ : ∃ zi, (z0 :: r)[i]? = some zi := ⟨_, List.getElem?_eq_getElem hi⟩
      rw [List.getElem?_map, hzi] at hx
      cases hx
      have l1 := hzL zi (List.mem_of_getElem? hzi)
      refine ⟨rfl, yes_then ⟨_, rfl, ⟨zi, rfl⟩, zi, _, rfl, rfl, rfl, (by omega), fun t ht => ?_⟩⟩
      have ntL : t ≠ L := (ne_of_none e2 ht).symm
      refine ⟨rv, same_new ht _ _ e2, ?_, rv ++ [.ref t], upd_same, ?_, same_over hL (sm2.trans (same_new ht))⟩
      · rw [wds_len r2, List.length_map, List.length_take]
        omega
      · rw [take_snoc hzi, List.map_append]
        refine wds_snoc ntL (by rw [upd_ne ntL]; exact upd_same) (wds_ext (fun t2 xs n2 h2 => ?_) r2)
        rw [upd_ne n2]
        exact same_new ht _ _ h2
    · rintro H2 ⟨rv, e2, r2, sm2⟩
      rw [List.length_map, List.take_length] at r2
      have smA := sm1.trans sm2
      obtain ⟨a0, ws, ew⟩ : ∃ a0 ws, rowW z0 = a0 :: ws := by
        cases q : rowW z0 with
        | nil => exact absurd q words_ne
        | cons a0 ws => exact ⟨a0, ws, rfl⟩
      have r2' : WordsAt H2 L rv (rowW z0 :: r.map rowW) := r2
      obtain ⟨t0, rv2, erv, n0, g0⟩ : ∃ t0 rv2, rv = .ref t0 :: rv2 ∧ t0 ≠ L ∧ H2 t0 = some (.lst ((rowW z0).map V.str)) := by
        cases r2' with
        | cons hh q =>
          obtain ⟨t0, e, n, g⟩ := hh
          exact ⟨t0, _, by rw [e], n, g⟩
      have at0 : atI rv 0 = some (.ref t0) := atI_nat (j := 0) (xs := rv) (by rw [erv]; rfl)
      refine at_name ?_
      dsimp only
      refine at_sq (at_if (at_or (at_tst (at_two (at_two (at_two ?_))))))
      refine ⟨_, rfl, L, _, (0 : Int), .ref t0, rfl, rfl, SqL.of e2, at0, t0, _, (0 : Int), .str a0, rfl, rfl, SqL.of g0, atI_nat (j := 0) (xs := (rowW z0).map V.str) (by rw [ew]; rfl), rfl, _, rfl, ?_⟩
      refine if_both (fun c => ?_) (fun c => ?_)
      · refine if_yes rfl (no (parse_no1 ?_) _ smA)
        cases q : headW z0 with
        | none => rfl
        | some m =>
          obtain ⟨q1, _⟩ := head_L.mp q
          rw [ew] at q1
          cases q1
          simp at c
      have ea : a0 = "places" := V.str.inj (of_decide_eq_true (by simpa using c : decide (V.str a0 = V.str "places") = true))
      refine at_or (at_tst (at_two ?_))
      refine ⟨_, rfl, L, rfl, ⟨_, SqL.of e2⟩, fun LB hL2 => ?_⟩
      have nLL : L ≠ LB := ne_of_none e2 hL2
      have r2L : WordsAt H2 LB rv ((z0 :: r).map rowW) := wds_to (fun t xs h => ne_of_none h hL2) r2
      refine lc_it walk_list (fun i H' => ∃ fv, H' LB = some (.lst fv) ∧ WordsAt H' LB fv ((((z0 :: r).take i).map rowW).filter fun ws => decide (ws.length ≠ 2)) ∧ Same H2 H') ⟨[], upd_same, .nil, same_new hL2⟩ (fun i H' _ ⟨_, _, _, sm⟩ => SqL.of (sm _ _ e2)) ?_ ?_
      · rintro i x H3 H4 hi ⟨fv, e3, r3, sm3⟩ ⟨rfl, hx⟩
        obtain ⟨t, wz, rfl, hws, ntL, ht⟩ := wds_get (wds_ext (fun t xs _ h => sm3 _ _ h) r2) hx
        obtain ⟨zi, hzi, rfl⟩ : ∃ zi, (z0 :: r)[i]? = some zi ∧ rowW zi = wz := by
          rw [List.getElem?_map] at hws
          cases q : (z0 :: r)[i]? with
          | none => rw [q] at hws; cases hws
          | some zi => rw [q] at hws; exact ⟨zi, rfl, Option.some.inj hws⟩
        have ntL2 : t ≠ LB := by
          obtain ⟨t', wz', e', _, n', _⟩ := wds_get r2L hx
          cases e'
          exact n'
        have tk : (((z0 :: r).take (i + 1)).map rowW).filter (fun ws => decide (ws.length ≠ 2)) = (((z0 :: r).take i).map rowW).filter (fun ws => decide (ws.length ≠ 2)) ++ [rowW zi].filter (fun ws => decide (ws.length ≠ 2)) := by
          rw [take_snoc hzi, List.map_append, List.filter_append]
          rfl
        rw [tk]
        refine ⟨rfl, _, rfl, t, _, rfl, .inl (SqL.of ht), rfl, _, rfl, if_both (fun c => ⟨_, rfl, fv, e3, ?_, fv ++ [.ref t], upd_same, ?_, same_over hL2 sm3⟩) (fun c => ?_)⟩
        · have l1 := wds_len r3
          have l2 := List.length_filter_le (fun ws : List Str => decide (ws.length ≠ 2)) (((z0 :: r).take i).map rowW)
          rw [List.length_map, List.length_take] at l2
          have l3 := wds_len r2
          rw [List.length_map] at l3
          omega
        · have c2 : (rowW zi).length ≠ 2 := by
            rw [List.length_map] at c
            simp at c
            omega
          rw [show [rowW zi].filter (fun ws => decide (ws.length ≠ 2)) = [rowW zi] by simp [c2]]
          refine wds_snoc ntL2 (by rw [upd_ne ntL2]; exact ht) (wds_ext (fun t2 xs n2 h2 => ?_) r3)
          rw [upd_ne n2]
          exact h2
        · have c2 : (rowW zi).length = 2 := by
            rw [List.length_map] at c
            simp at c
            omega
          rw [show [rowW zi].filter (fun ws => decide (ws.length ≠ 2)) = [] by simp [c2], List.append_nil]
          exact ⟨fv, e3, r3, sm3⟩
      · rintro H3 ⟨fv, e3, r3, sm3⟩
        rw [wds_len r2, List.length_map, List.take_length] at r3
        refine ⟨(by show 0 ≤ sizeLine; decide), fun LC hL3 => ?_⟩
        have sm4 := same_new (o := .lst ([] : List V)) hL3
        have e4 := sm4 _ _ e3
        have r4 := wds_ext (fun t xs _ h => sm4 _ _ h) r3
        have asc : ∀ ws ∈ ((z0 :: r).map rowW).filter (fun ws => decide (ws.length ≠ 2)), ∀ x ∈ ws, Ascii x := fun ws hw x hx => by
          obtain ⟨zi, hzi, rfl⟩ := List.mem_map.mp (List.mem_filter.mp hw).1
          exact words_ascii (hzA zi hzi) hx
        have smB := (smA.trans sm3).trans sm4
        refine ⟨_, _, .lst (SqL.of e4) (dp_rowsS r4), .lst (SqL.of upd_same) .nil, (lay_rowsS asc).shaped (by decide), (lay_ints []).shaped (by decide), _, rfl, ?_⟩
        have gB0 := sm4 _ _ (sm3 _ _ g0)
        have eB := sm4 _ _ (sm3 _ _ e2)
        have rB := wds_ext (fun t xs _ h => sm4 _ _ (sm3 _ _ h)) r2
        cases ef : ((z0 :: r).map rowW).filter (fun ws => decide (ws.length ≠ 2)) with
        | cons f1 fs =>
          rw [show PyData.eqv (.list (rowsD (f1 :: fs))) (.list []) = false from eqv_cons_nil _ _]
          refine if_yes rfl (if_yes rfl (no ?_ _ smB))
          have hf : f1 ∈ ((z0 :: r).map rowW).filter (fun ws => decide (ws.length ≠ 2)) := by rw [ef]; exact List.mem_cons_self ..
          obtain ⟨h1, h2⟩ := List.mem_filter.mp hf
          obtain ⟨zi, hzi, rfl⟩ := List.mem_map.mp h1
          exact parse_len hzi (of_decide_eq_true h2)
        | nil =>
          rw [show PyData.eqv (.list (rowsD [])) (.list []) = true from eqv_nil_nil]
          have all2 : ∀ zi ∈ z0 :: r, (rowW zi).length = 2 := fun zi hzi => by
            have q := List.filter_eq_nil_iff.mp ef (rowW zi) (List.mem_map_of_mem hzi)
            simpa using q
          generalize upd H3 LC (.lst []) = HB at smB gB0 eB rB ⊢
          refine if_no (c := !true) rfl ?_
          refine ⟨_, rfl, L, rv, rfl, .inl (SqL.of eB), _, _, rfl, rfl, _, rfl, ?_⟩
          have lrv := wds_len rB
          rw [List.length_map, List.length_cons] at lrv
          refine if_both (fun c => ?_) (fun c => ?_)
          · refine no (parse_61 ?_) _ smB
            have c2 := of_decide_eq_true c
            omega
          have few : r.length ≤ 60 := by
            have c2 := of_decide_eq_false c
            omega
          have e20 := all2 z0 (List.mem_cons_self ..)
          have ew0 := two_words e20
          have l0 := w1_len e20
          have lz0 := hzL z0 (List.mem_cons_self ..)
          refine ⟨_, rfl, L, _, (0 : Int), .ref t0, rfl, rfl, SqL.of eB, at0, t0, _, (1 : Int), .str (w1 z0), rfl, rfl, SqL.of gB0, atI_nat (j := 1) (xs := (rowW z0).map V.str) (by rw [ew0]; rfl), w1 z0, rfl, (by omega), w1_ascii (hzA z0 (List.mem_cons_self ..)) e20, fun H5 sm5 => ?_⟩
          have smC := smB.trans sm5
          have e5 := sm5 _ _ eB
          have r5 := wds_ext (fun t xs _ h => sm5 _ _ h) rB
          refine at_name ?_
          dsimp only
          refine at_sq (at_if (at_or (at_tst (at_two ?_))))
          refine ⟨_, rfl, rfl, _, rfl, ?_⟩
          rw [optV_non]
          cases em : numL (w1 z0) with
          | none =>
            refine if_yes rfl (if_yes rfl (no (parse_no1 ?_) _ smC))
            cases q : headW z0 with
            | none => rfl
            | some m =>
              obtain ⟨_, q1, _⟩ := head_L.mp q
              rw [em] at q1
              cases q1
          | some m =>
            refine if_no (c := (some m).isNone) rfl ?_
            refine chain_m (a := 2) rfl ?_
            by_cases cm : 1 ≤ m ∧ m ≤ 16
            case neg =>
              rw [decide_eq_false cm]
              refine if_yes (c := !false) rfl (no (parse_no1 ?_) _ smC)
              cases q : headW z0 with
              | none => rfl
              | some m2 =>
                obtain ⟨_, q1, q2, q3⟩ := head_L.mp q
                rw [em] at q1
                cases q1
                exact absurd ⟨q2, q3⟩ cm
            rw [decide_eq_true cm]
            refine if_no (c := !true) rfl ?_
            have hw : headW z0 = some m := head_L.mpr ⟨by rw [← show a0 = Str.ofString "places" from ea]; rw [ew0] at ew ⊢; cases ew; rfl, em, cm.1, cm.2⟩
            have len2 : ∀ zi ∈ r, (rowW zi).length = 2 := fun zi hzi => all2 zi (List.mem_cons_of_mem _ hzi)
            have r5b : WordsAt H5 L rv2 (r.map rowW) := by
              have q : WordsAt H5 L rv (rowW z0 :: r.map rowW) := r5
              rw [erv] at q
              cases q with
              | cons _ q => exact q
            refine ⟨_, rfl, _, rfl, L, rv, rfl, SqL.of e5, fun S hS => ?_⟩
            have ecut : cutV rv (some 1) none = rv2 := by
              rw [show cutV rv (some 1) none = rv.drop 1 from cutD rv 1, erv]
              rfl
            rw [ecut]
            have smS := same_new (o := .lst rv2) hS
            have eS := upd_same (H := H5) (a := S) (o := .lst rv2)
            have r6 := wds_ext (fun t xs _ h => smS _ _ h) r5b
            have smD := smC.trans smS
            generalize upd H5 S (.lst rv2) = H6 at smS eS r6 smD ⊢
            refine ⟨S, rfl, ⟨_, SqL.of eS⟩, fun L4 hL4 => ?_⟩
            have lr2 := wds_len r6
            rw [List.length_map] at lr2
            refine lc_it walk_list (fun i H' => ∃ pv, H' L4 = some (.lst pv) ∧ Tups H' pv ((r.take i).map optP) ∧ Same H6 H') ⟨[], upd_same, .nil, same_new hL4⟩ (fun i H' _ ⟨_, _, _, sm⟩ => SqL.of (sm _ _ eS)) ?_ ?_
            · rintro i x H7 H8 hi ⟨pv, e7, t7, sm7⟩ ⟨rfl, hx⟩
              obtain ⟨t, wz, rfl, hws, ntL, ht⟩ := wds_get (wds_ext (fun t xs _ h => sm7 _ _ h) r6) hx
              obtain ⟨zi, hzi, rfl⟩ : ∃ zi, r[i]? = some zi ∧ rowW zi = wz := by
                rw [List.getElem?_map] at hws
                cases q : r[i]? with
                | none => rw [q] at hws; cases hws
                | some zi => rw [q] at hws; exact ⟨zi, rfl, Option.some.inj hws⟩
              have hzr := List.mem_of_getElem? hzi
              have h2 := len2 zi hzr
              have e2w := two_words h2
              have hlz := hzL zi (List.mem_cons_of_mem _ hzr)
              have hla := w0_len h2
              have hlb := w1_len h2
              have hAz := hzA zi (List.mem_cons_of_mem _ hzr)
              refine ⟨rfl, yes_then ⟨_, rfl, t, _, (0 : Int), .str (w0 zi), rfl, rfl, SqL.of ht, atI_nat (j := 0) (xs := (rowW zi).map V.str) (by rw [e2w]; rfl), w0 zi, rfl, (by omega), w0_ascii hAz h2, fun Ha sma => ?_⟩⟩
              refine ⟨_, rfl, t, _, (1 : Int), .str (w1 zi), rfl, rfl, SqL.of (sma _ _ ht), atI_nat (j := 1) (xs := (rowW zi).map V.str) (by rw [e2w]; rfl), w1 zi, rfl, (by omega), w1_ascii hAz h2, fun Hb smb => ?_⟩
              have smab := sma.trans smb
              refine ⟨(by show 2 ≤ sizeLine; decide), fun u hu2 => ?_⟩
              have smu := same_new (o := .tup [optV (numL (w0 zi)), optV (numL (w1 zi))]) hu2
              have eu := upd_same (H := Hb) (a := u) (o := .tup [optV (numL (w0 zi)), optV (numL (w1 zi))])
              have all := smab.trans smu
              have eL4 := all _ _ e7
              refine ⟨pv, eL4, ?_, pv ++ [.ref u], upd_same, ?_, same_over hL4 (sm7.trans all)⟩
              · rw [tups_len t7, List.length_map, List.length_take, sizeLine_eq]
                omega
              · rw [take_snoc hzi, List.map_append]
                refine tups_over eL4 (tups_snoc (xs := optP zi) eu (tups_ext (fun t xs h => all _ _ h) t7))
            · rintro H7 ⟨pv, e7, t7, sm7⟩
              rw [lr2, List.take_length] at t7
              have smE := smD.trans sm7
              have lpv := tups_len t7
              rw [List.length_map] at lpv
              refine ⟨_, rfl, L4, rfl, ⟨_, SqL.of e7⟩, ?_⟩
              refine for_it walk_list (fun i σ' H' => ∃ (u4 u5 : Option V), σ' = [some (.str z), some (.ref L), some (.int (m : Int)), some (.ref L4), u4, u5, none] ∧ H' L4 = some (.lst pv) ∧ Tups H' pv (r.map optP) ∧ Same H H' ∧ (∀ y ∈ r.take i, ∃ q, goodW m y = some q))
                ⟨none, none, rfl, e7, t7, smE, fun y hy => by rw [List.take_zero] at hy; cases hy⟩ (fun i σ' H' _ ⟨_, _, _, e, _⟩ => SqL.of e) ?_ ?_
              · rintro i x σ' H8 H9 hi ⟨u4, u5, rfl, e8, t8, sm8, good⟩ ⟨rfl, hx⟩
                obtain ⟨t, xs, rfl, hxs, ht⟩ := tups_get t8 hx
                obtain ⟨zi, hzi, rfl⟩ : ∃ zi, r[i]? = some zi ∧ optP zi = xs := by
                  rw [List.getElem?_map] at hxs
                  cases q : r[i]? with
                  | none => rw [q] at hxs; cases hxs
                  | some zi => rw [q] at hxs; exact ⟨zi, rfl, Option.some.inj hxs⟩
                have hzr := List.mem_of_getElem? hzi
                have stop : (∀ a b, numL (w0 zi) = some a → numL (w1 zi) = some b → a ≠ b → a < m → b < m → False) → parseP (z0 :: r) = none := fun hno => parse_row hzr fun m2 em2 => by
                  rw [hw] at em2
                  cases em2
                  cases q : goodW m zi with
                  | none => rfl
                  | some q =>
                    obtain ⟨a1, a2, a3, a4, a5⟩ := (good_L cm.2 (len2 zi hzr)).mp q
                    exact (hno _ _ a1 a2 a3 a4 a5).elim
                refine ⟨t, _, rfl, SqT.of ht, rfl, _, _, rfl, _, _, rfl, rfl, ?_⟩
                dsimp only
                refine at_if (at_or (at_tst (at_two ?_)))
                refine ⟨_, rfl, rfl, _, rfl, ?_⟩
                rw [optV_non]
                cases ea : numL (w0 zi) with
                | none => exact if_yes rfl (if_yes rfl (no (stop fun a b q1 _ _ _ _ => by rw [ea] at q1; cases q1) _ sm8))
                | some a =>
                  refine if_no (c := (some a).isNone) rfl ?_
                  refine at_or (at_tst (at_two ?_))
                  refine ⟨_, rfl, rfl, _, rfl, ?_⟩
                  rw [optV_non]
                  cases eb : numL (w1 zi) with
                  | none => exact if_yes rfl (if_yes rfl (no (stop fun a b _ q1 _ _ _ => by rw [eb] at q1; cases q1) _ sm8))
                  | some b =>
                    refine if_no (c := (some b).isNone) rfl ?_
                    refine at_or (at_tst (at_two ?_))
                    refine ⟨_, rfl, _, rfl, rfl, _, rfl, ?_⟩
                    refine if_both (fun c => ?_) (fun c => ?_)
                    · refine if_yes rfl (no (stop fun a' b' q1 q2 q3 _ _ => ?_) _ sm8)
                      rw [ea] at q1
                      rw [eb] at q2
                      cases q1
                      cases q2
                      exact q3 (Int.ofNat.inj (V.int.inj (of_decide_eq_true c)))
                    · have nab : a ≠ b := fun z => by
                        rw [z] at c
                        simp at c
                      refine ⟨_, rfl, _, rfl, (a : Int), (b : Int), rfl, _, rfl, _, _, rfl, rfl, _, rfl, ?_⟩
                      refine if_both (fun c2 => ?_) (fun c2 => ?_)
                      · refine no (stop fun a' b' q1 q2 _ q4 q5 => ?_) _ sm8
                        rw [ea] at q1
                        rw [eb] at q2
                        cases q1
                        cases q2
                        have c3 := of_decide_eq_true c2
                        split at c3 <;> omega
                      · have c3 := of_decide_eq_false c2
                        have am : a < m ∧ b < m := by split at c3 <;> omega
                        refine ⟨_, _, rfl, e8, t8, sm8, fun y hy => ?_⟩
                        rw [take_snoc hzi] at hy
                        rcases List.mem_append.mp hy with h | h
                        · exact good y h
                        · rw [List.mem_singleton.mp h]
                          exact ⟨(a, b), (good_L cm.2 (len2 zi hzr)).mpr ⟨ea, eb, nab, am.1, am.2⟩⟩
              · rintro σ' H8 ⟨u4, u5, rfl, e8, t8, sm8, good⟩
                rw [lpv, List.take_length] at good
                have eqp : r.map optP = (r.map (pairD m)).map pairV := by
                  rw [List.map_map]
                  refine List.map_congr_left fun y hy => ?_
                  obtain ⟨q, hq⟩ := good y hy
                  obtain ⟨a1, a2, _⟩ := (good_L cm.2 (len2 y hy)).mp hq
                  show optP y = pairV (pairD m y)
                  rw [pairD_of hq]
                  unfold optP
                  rw [a1, a2]
                  rfl
                rw [eqp] at t8
                refine ⟨_, rfl, _, rfl, (by show 2 ≤ sizeLine; decide), fun t ht => ?_⟩
                have smt := same_new (o := .tup [V.int (m : Int), V.ref L4]) ht
                exact yes m _ (parse_of hw (pairs_of few good)) t L4 pv _ upd_same (smt _ _ e8) (tups_ext (fun t xs h => smt _ _ h) t8) (sm8.trans smt)
end
end K10

set_option Elab.async false
set_option linter.all false
set_option maxRecDepth 100000
set_option maxHeartbeats 4000000
namespace K10
open PySem PySem.Spec PyProof.Rows L2 Own
def spLawBent : Sp := fun vs H Q _ => ∃ (z : Str) (num : Int), vs = [.str z, .int num] ∧ Ascii z ∧ z.length ≤ 1000000 ∧ 0 ≤ num ∧ ∀ z' : Str, Ascii z' → z'.length ≤ 2 * z.length + 1 → Q (.str z') H
abbrev s_law_bent : Stmt := top 32
abbrev N_law_bent : List Str := ["_law_text_here", "_law_number_here", "_law_sign", "_law_at"]
theorem sc_law_bent : FnScope N_law_bent ["_law_text_here", "_law_number_here"] (defScope s_law_bent) := ⟨rfl, rfl, rfl, by decide +kernel, rfl, by decide +kernel, by decide +kernel⟩
section
variable {P : Program} {w : World} {K : PySem.W.Frag} {mg : Str → Option Value} {base : Heap} {f : Addr} {fd : FuncData}
theorem ok_law_bent (T : TxtW10 mg) (D : FnP K "_law_bent" "_law_bent" s_law_bent f fd) : FnOk P w K mg base (L2.CX P w) 1 f fd ["_law_text_here", "_law_number_here"] spLawBent := by
  have nd := sc_law_bent.nd
  refine D.ok sc_law_bent (fun vs H Q E h => ?_) (fun cdv A outer s H vs Q E hr h => ?_)
  · obtain ⟨z, num, rfl, _⟩ := h
    rfl
  · obtain ⟨z, num, rfl, hA, hz, n0, k⟩ := h
    have hu := hu_of hr
    refine ⟨_, (pss_cons (ps_set (i := 2) nd rfl (Or.inl rfl) (pe_item_str pe_str (pe_op op_mod (pe_op op_fdiv (pv 1) pe_int) pe_int) (fun _ _ => rfl)))
      (pss_cons (ps_set (i := 3) nd rfl (Or.inl rfl) (pe_op op_mod (pe_op op_fdiv (pv 1) pe_int) (pe_op op_add (pe_callB call_len_str rfl T.f_len PySem.boot_len (pa_cons (pv 0) pa_nil)) pe_int)))
      (pss_cons (ps_if (pt_cmpR op_eq (pe_op op_mod (pv 1) pe_int) pe_int (nomark _)) (pss_one (ps_ret (pe_op op_add_str (pe_op op_add_str (pe_slice sl_str (pv 0) po_none (po_some (pv 3))) (pv 2)) (pe_slice sl_str (pv 0) (po_some (pv 3)) po_none)))) pss_nil)
      (pss_one (ps_ret (pe_op op_add_str (pe_op op_add_str (pe_slice sl_str (pv 0) po_none (po_some (pv 3))) (pe_op op_mulS (pv 2) (pe_callTy call_int1 rfl T.f_int (by decide +kernel) (pa_cons (pe_cmpR op_eq (pe_op op_mod (pv 1) pe_int) pe_int (nomark _)) pa_nil)))) (pe_slice sl_str (pv 0) (po_some (pe_op op_add (pv 3) pe_int)) po_none))))))), ?_⟩
    have big : sizeLine = 16777216 := sizeLine_eq
    have s16 := emod_lt (i := num / 3) (m := 16) (by decide)
    have at16 : (num / 3 % 16).toNat < (Str.ofString "0123456789 \n-+xp").cps.size := by
      have q : (Str.ofString "0123456789 \n-+xp").cps.size = 16 := signs_len
      rw [q]
      omega
    obtain ⟨c, hc⟩ : ∃ c, (Str.ofString "0123456789 \n-+xp").cps[(num / 3 % 16).toNat]? = some c := ⟨_, Array.getElem?_eq_getElem at16⟩
    have c128 : c < 128 := signs_ok c (by
      rw [← Array.getElem?_toList] at hc
      exact List.mem_of_getElem? hc)
    have ac := ascii_one c128
    refine ⟨_, rfl, _, _, rfl, rfl, ⟨by decide, by decide⟩, _, _, rfl, rfl, (by show (0 : Int) < 16; decide), Str.ofString "0123456789 \n-+xp", _, c, rfl, rfl, (by omega), (by omega), (by rw [signs_len]; omega), hc, ?_⟩
    refine ⟨_, rfl, _, _, rfl, rfl, ⟨by decide, by decide⟩, _, rfl, z, rfl, (by omega), _, _, rfl, rfl, _, _, rfl, rfl, (by show (0 : Int) < (z.length : Int) + 1; omega), ?_⟩
    have l1 : (⟨#[c]⟩ : Str).length ≤ 1 := Nat.le_refl 1
    refine ⟨_, rfl, _, _, rfl, rfl, (by show (0 : Int) < 3; decide), rfl, _, rfl, ?_⟩
    refine if_both (fun e => ?_) (fun e => ?_)
    · refine ⟨_, rfl, _, rfl, _, rfl, z, rfl, (by omega), _, rfl, _, _, rfl, rfl, fit2 (cutS_length z _ _) l1 (by omega), _, rfl, _, rfl, _, rfl, z, rfl, (by omega), _, _, rfl, rfl, fit2 (len_app (cutS_length z _ _) l1) (cutS_length z _ _) (by omega), ?_⟩
      exact k _ (ascii_app (ascii_app (cutS_ascii hA _ _) ac) (cutS_ascii hA _ _)) (Nat.le_trans (len_app (len_app (cutS_length z _ _) l1) (cutS_length z _ _)) (by omega))
    · have am := ascii_mul c128 (decide (V.int (num % 3) = V.int 1))
      refine ⟨_, rfl, _, rfl, _, rfl, z, rfl, (by omega), _, rfl, _, rfl, _, _, rfl, rfl, (by show (0 : Int) < 3; decide), rfl, .inr ⟨_, rfl, _, _, rfl, rfl, mul_fits, _, _, rfl, rfl, fit2 (cutS_length z _ _) am.2 (by omega), ?_⟩⟩
      refine ⟨_, rfl, _, rfl, _, _, rfl, rfl, _, rfl, z, rfl, (by omega), _, _, rfl, rfl, fit2 (len_app (cutS_length z _ _) am.2) (cutS_length z _ _) (by omega), ?_⟩
      exact k _ (ascii_app (ascii_app (cutS_ascii hA _ _) am.1) (cutS_ascii hA _ _)) (Nat.le_trans (len_app (len_app (cutS_length z _ _) am.2) (cutS_length z _ _)) (by omega))
end
end K10

set_option Elab.async false
set_option linter.all false
set_option maxRecDepth 100000
set_option maxHeartbeats 4000000
namespace K10
open PySem PySem.Spec PyProof.Rows L2 Own
/-! ### what the program tells of a text -/
def spTold (C : Addr) (T : List (Addr × Str)) : Sp := fun vs H Q _ => ∃ z : Str, vs = [.str z] ∧ z.length + 4 ≤ sizeLine ∧ LamX.Tabs T H ∧ (parseT z = none → ∀ H', ExtT T H H' → Q .non H') ∧
  (∀ m J, parseT z = some (m, J) → ∀ (t l1 l2 : Addr) (v1 : List V) (H' : Hp), H' t = some (.tup [.int (m : Int), .ref l1, .ref l2]) → H' l1 = some (.lst v1) → Tups H' v1 (J.map pairV) → H' l2 = some (.lst ((List.range J.length).map natV)) → Same H H' → Q (.ref t) H')
abbrev s_law_told : Stmt := top 33
abbrev N_law_told : List Str := ["_law_text_here", "_law_caught", "_law_found", "e", "_law_row"]
theorem sc_law_told : FnScope N_law_told ["_law_text_here"] (defScope s_law_told) := ⟨rfl, rfl, rfl, by decide +kernel, rfl, by decide +kernel, by decide +kernel⟩
section
variable {P : Program} {w : World} {K : PySem.W.Frag} {mg : Str → Option Value} {base : Heap} {f : Addr} {fd : FuncData}
theorem ok_law_told {T_ : List (Addr × Str)} {fdw : FuncData} (T : TxtW10 mg) (TW : TxtW K mg) (D : FnP K "_law_told" "_law_told" s_law_told (He.fAd K ("_law_told", none)) fd) (Dw : FnP K "_law_word" "_law_word" s_law_word (gA K "_law_word") fdw) (mw : mg "_law_word" = some (.ref (gA K "_law_word")))
    (TB : LamX.TabB base mg (He.cT K ("_law_told", none)).1 (He.cT K ("_law_told", none)).2) (hmT : ((He.cT K ("_law_told", none)).2, ("_law_told.<locals>." : Str) ++ "<lambda>") ∈ T_) (hu : ∀ q ∈ T_, q.1 = (He.cT K ("_law_told", none)).2 → q.2 = ("_law_told.<locals>." : Str) ++ "<lambda>")
    (c_read : CalX P w K mg base 5 "read" (spRead K (gA K "Town"))) (c_Town_places : MetX P w K mg base 1 (gA K "Town") "places" (spPlaces (gA K "Town"))) (c_Town_streets : MetX P w K mg base 1 (gA K "Town") "streets" (spStreets (gA K "Town"))) :
    FnOk P w K mg base (L2.CX P w) 11 (He.fAd K ("_law_told", none)) fd ["_law_text_here"] (spTold (gA K "Town") T_) := by
  have nd := sc_law_told.nd
  refine fn_lam D sc_law_told (fun vs H Q E h => ?_) (fun A outer s H vs Q E hr h => ?_)
  · obtain ⟨z, rfl, _⟩ := h
    rfl
  · obtain ⟨z, rfl, hz, tabs, no, yes⟩ := h
    obtain ⟨f_read, fd_read, ps_read, F_read, m_read, k_read, b_read⟩ := c_read.ex
    obtain ⟨f_Town_places, fd_Town_places, ps_Town_places, c_Town_places, M_Town_places, F_Town_places, b_Town_places⟩ := c_Town_places.ex
    obtain ⟨f_Town_streets, fd_Town_streets, ps_Town_streets, c_Town_streets, M_Town_streets, F_Town_streets, b_Town_streets⟩ := c_Town_streets.ex
    refine ⟨_, (pss_cons (ps_set (i := 1) nd rfl (Or.inl rfl) pe_non)
      (pss_cons (ps_set (i := 2) nd rfl (Or.inl rfl) pe_non)
      (pss_cons (ps_try_kept (i := 3) (j := 1) (c := .ref (gA K "TownError")) (fin := allOf 3 1) (out := fun cls d σ H => E cls d H) (tb := fun W => tAsg (tCallS (spRead K (gA K "Town")) (WE W) (tCons (tVar 0) tNil)) (gName 2)) rfl rfl nd rfl rfl rfl rfl ⟨rfl, by decide, .inl TW.m_TownError⟩ rfl allOf_less (takes_of rfl rfl rfl rfl) (fun W pn xe tk _ => pss_one (ps_set (i := 2) nd rfl (Or.inl rfl) (pe_callS F_read (hr.mono (by decide)) rfl m_read k_read b_read (fun σ => passAt tk σ) (pa_cons (pv 0) pa_nil)))))
      (pss_cons (ps_if (pt_cmpR op_notN (pv 1) pe_non (nomark _)) (pss_one (ps_ret (pe_ifExp (pt_cmpR (op_eqD hr.units) (pe_word (k := 8) (t := fun E0 => tCall (spRead K (gA K "Town")) [] E0 (tCons (tVar 0) tNil)) TW Dw mw rfl TB rfl hmT hu (hr.mono (by decide)) (LamX.lamS_by (by show LamX.lamSB (defScope s_law_told) _ = true; decide +kernel)) (by rfl) (fun _ _ _ _ _ => by rfl) (fun A1 outer1 s1 H1 E1 f1 c1 hr1 => pe_call F_read (hr1.mono (by decide)) rfl m_read k_read b_read .nil (passes_call (takes_of rfl rfl rfl rfl) (fun _ _ _ _ h => h)) (pa_cons (pv 0) pa_nil))) (pe_lst (pa_cons pe_str pa_nil)) (nomark _)) pe_non pe_str))) pss_nil)
      (pss_one (ps_ret (pe_tup (pa_cons (pe_meth0 (pv 2) c_Town_places M_Town_places F_Town_places (hr.mono (by decide)) b_Town_places .nil passF) (pa_cons (pe_lc (own := [("_law_row", 4)]) (g := (gName 4)) (te := tSl (rSlT K) (tVar 4) (tPart (tC (.int 1))) tNoPart) rfl nd (pi_list (pe_meth0 (pv 2) c_Town_streets M_Town_streets F_Town_streets (hr.mono (by decide)) b_Town_streets .nil passF)) (blkOk_by (own := [("_law_row", 4)]) (N := N_law_told) (sc := defScope s_law_told) (by decide +kernel)) (fun _ _ _ _ _ => (pg_name (i := 4) nd rfl (Or.inl rfl))) (fun _ _ _ _ _ => pts_nil) (fun _ _ _ _ _ => (pe_slice sl_tup (pv 4) (po_some pe_int) po_none))) (pa_cons (pe_lc (own := [("_law_row", 4)]) (g := (gName 4)) (te := tOp (rIxT K) (tVar 4) (tC (.int 0))) rfl nd (pi_list (pe_meth0 (pv 2) c_Town_streets M_Town_streets F_Town_streets (hr.mono (by decide)) b_Town_streets .nil passF)) (blkOk_by (own := [("_law_row", 4)]) (N := N_law_told) (sc := defScope s_law_told) (by decide +kernel)) (fun _ _ _ _ _ => (pg_name (i := 4) nd rfl (Or.inl rfl))) (fun _ _ _ _ _ => pts_nil) (fun _ _ _ _ _ => (pe_ix ix_tup (pv 4) pe_int (fun _ _ => rfl)))) pa_nil)))))))))), ?_⟩
    have hb : ("BadText" : Str) ∈ plainErrs := by decide +kernel
    have lz : ∀ z' : Str, V.str z = V.str z' → z'.length + 4 ≤ sizeLine := fun z' e => by
      cases e
      exact hz
    cases ep : parseT z with
    | none =>
      have bad : ∀ z' : Str, V.str z = V.str z' → parseT z' = none := fun z' e => by
        cases e
        exact ep
      have never : ∀ (z' : Str) m J, V.str z = V.str z' → parseT z' ≠ some (m, J) := fun z' m J e => by
        rw [bad z' e]
        exact fun z => nomatch z
      refine ⟨_, rfl, .str z, rfl, ⟨"str", rfl⟩, lz, fun _ H1 sm1 => ?_, fun z' m J e pe => absurd pe (never z' m J e)⟩
      refine ⟨true, TW.exm "BadText" hb, fun _ a ha => ?_, fun z => Bool.noConfusion z⟩
      have ca := same_new (o := ExK (.ref (gA K "BadText")) none a) ha
      have smA := sm1.trans ca
      refine ⟨_, rfl, rfl, _, rfl, ?_⟩
      refine if_yes rfl ?_
      refine ⟨tabs.ext smA, fun H3 ext3 tabs3 E' Q' hE hQ => ?_⟩
      refine ⟨_, rfl, .str z, rfl, ⟨"str", rfl⟩, lz, fun _ H4 sm4 => ?_, fun z' m J e pe => absurd pe (never z' m J e)⟩
      refine hE H4 "BadText" hb fun wl H5 hwl sm5 ewl => eq_word hb word_text ewl fun H6 sm6 => ⟨_, rfl, ?_⟩
      have sm46 := (sm4.trans sm5).trans sm6
      exact no ep H6 ⟨(LamX.ExtN.of smA).trans (ext3.trans (LamX.ExtN.of sm46)), tabs3.ext sm46⟩
    | some v =>
      obtain ⟨m, J⟩ := v
      refine ⟨_, rfl, .str z, rfl, ⟨"str", rfl⟩, lz, fun b => absurd (b z rfl) (by rw [ep]; exact fun z => nomatch z), fun z' m' J' e pe p d H1 hp _ sm1 W => ?_⟩
      cases e
      rw [ep] at pe
      cases pe
      refine at_name ?_
      dsimp only
      refine ⟨_, rfl, rfl, _, rfl, ?_⟩
      refine if_no rfl ?_
      obtain ⟨dx, h1⟩ := id W.ob
      have plain : (tF m d J.length).lookup ("places" : Str) = none := tF_no _ _ _ (by decide +kernel) (by decide +kernel) (by decide +kernel)
      have plain2 : (tF m d J.length).lookup ("streets" : Str) = none := tF_no _ _ _ (by decide +kernel) (by decide +kernel) (by decide +kernel)
      refine ⟨_, rfl, p, dx, _, rfl, h1, plain, p, d, m, _, _, rfl, W, ?_⟩
      refine ⟨_, rfl, p, dx, _, rfl, h1, plain2, p, d, m, _, _, rfl, W, fun l H2 hl sm2 tl => ?_⟩
      obtain ⟨rv, hrv, tr⟩ := tl
      have lrv := tups_len tr
      rw [List.length_map, numbT_len] at lrv
      have few := W.ok.few
      rw [numbT_len] at few
      refine ⟨l, rfl, ⟨rv, SqL.of hrv⟩, fun L hL => ?_⟩
      refine lc_it walk_list (fun i H' => ∃ v1, H' L = some (.lst v1) ∧ Tups H' v1 ((J.take i).map pairV) ∧ Same H2 H') ⟨[], upd_same, .nil, same_new hL⟩ (fun i H' _ ⟨_, _, _, sm⟩ => SqL.of (sm _ _ hrv)) ?_ ?_
      · rintro i x H3 H4 hi ⟨v1, e3, t3, sm3⟩ ⟨rfl, hx⟩
        obtain ⟨t, xs, rfl, hxs, ht⟩ := tups_get (tups_ext (fun t xs e => sm3 t _ e) tr) hx
        obtain ⟨r, hr, rfl⟩ : ∃ r, (numbT 0 J)[i]? = some r ∧ rowV r = xs := by
          rw [List.getElem?_map] at hxs
          cases q : (numbT 0 J)[i]? with
          | none => rw [q] at hxs; cases hxs
          | some r => rw [q] at hxs; exact ⟨r, rfl, Option.some.inj hxs⟩
        have hJ : J[i]? = some r.2 := by
          have q := congrArg (fun l => l[i]?) (numbT_snd 0 J)
          simp only [List.getElem?_map, hr] at q
          exact q.symm
        refine ⟨rfl, yes_then ⟨_, rfl, _, rfl, t, _, rfl, SqT.of ht, (fun z => absurd z.1 (by show ¬ HT.sIx 3 0 (some 1) = 0; decide)), fun u hu2 => ?_⟩⟩
        rw [show cutV (rowV r) (some 1) none = pairV r.2 from cutD (rowV r) 1]
        have smu := same_new (o := .tup (pairV r.2)) hu2
        have eL := smu _ _ e3
        refine ⟨v1, eL, ?_, v1 ++ [.ref u], upd_same, ?_, same_over hL (sm3.trans smu)⟩
        · rw [tups_len t3, List.length_map, List.length_take, sizeLine_eq]
          omega
        · rw [take_snoc hJ, List.map_append]
          exact tups_over eL (tups_snoc (xs := pairV r.2) upd_same (tups_ext (fun t xs h => smu _ _ h) t3))
      · rintro H3 ⟨v1, e3, t3, sm3⟩
        rw [lrv, List.take_length] at t3
        have sm13 := sm2.trans sm3
        have W3 := W.same sm13
        refine ⟨_, rfl, p, dx, _, rfl, sm13 _ _ h1, plain2, p, d, m, _, _, rfl, W3, fun l4 H4 hl4 sm4 tl4 => ?_⟩
        obtain ⟨rv4, hrv4, tr4⟩ := tl4
        have lrv4 := tups_len tr4
        rw [List.length_map, numbT_len] at lrv4
        refine ⟨l4, rfl, ⟨rv4, SqL.of hrv4⟩, fun L5 hL5 => ?_⟩
        refine lc_it walk_list (fun i H' => H' L5 = some (.lst ((List.range i).map natV)) ∧ Same H4 H') ⟨upd_same, same_new hL5⟩ (fun i H' _ ⟨_, sm⟩ => SqL.of (sm _ _ hrv4)) ?_ ?_
        · rintro i x H5 H6 hi ⟨e5, sm5⟩ ⟨rfl, hx⟩
          obtain ⟨t, xs, rfl, hxs, ht⟩ := tups_get (tups_ext (fun t xs e => sm5 t _ e) tr4) hx
          obtain ⟨r, hr, rfl⟩ : ∃ r, (numbT 0 J)[i]? = some r ∧ rowV r = xs := by
            rw [List.getElem?_map] at hxs
            cases q : (numbT 0 J)[i]? with
            | none => rw [q] at hxs; cases hxs
            | some r => rw [q] at hxs; exact ⟨r, rfl, Option.some.inj hxs⟩
          have hi1 : r.1 = i := by
            have q := congrArg (fun l => l[i]?) (numbT_fst 0 J)
            simp only [List.getElem?_map, hr] at q
            rw [List.getElem?_range' (by omega)] at q
            have q2 : r.1 = 0 + 1 * i := Option.some.inj q
            omega
          refine ⟨rfl, yes_then ⟨_, rfl, t, _, (0 : Int), .int (r.1 : Int), rfl, rfl, SqT.of ht, atI_nat (j := 0) (xs := rowV r) rfl, _, e5, ?_, ?_, same_over hL5 sm5⟩⟩
          · rw [List.length_map, List.length_range, sizeLine_eq]
            omega
          · rw [hi1, List.range_succ, List.map_append]
            exact upd_same
        · rintro H5 ⟨e5, sm5⟩
          rw [lrv4] at e5
          refine ⟨(by show 3 ≤ sizeLine; decide), fun t ht => ?_⟩
          have smt := same_new (o := .tup [V.int (m : Int), V.ref L, V.ref L5]) ht
          have sm35 := (sm4.trans sm5).trans smt
          exact yes m J ep t L L5 v1 _ upd_same (sm35 _ _ e3) (tups_ext (fun t xs h => sm35 _ _ h) t3) (smt _ _ e5) ((sm1.trans sm13).trans sm35)
end
end K10

set_option Elab.async false
set_option linter.all false
set_option maxRecDepth 100000
set_option maxHeartbeats 4000000
namespace K10
open PySem PySem.Spec PyProof.Rows L2 Own
def spRight (T : List (Addr × Str)) : Sp := fun vs H Q _ => ∃ z : Str, vs = [.str z] ∧ z.length + 4 ≤ sizeLine ∧ Ascii z ∧ LamX.Tabs T H ∧ ∀ H', ExtT T H H' → Q (.bl true) H'
abbrev s_law_right : Stmt := top 34
abbrev N_law_right : List Str := ["_law_text_here", "_law_due"]
theorem sc_law_right : FnScope N_law_right ["_law_text_here"] (defScope s_law_right) := ⟨rfl, rfl, rfl, by decide +kernel, rfl, by decide +kernel, by decide +kernel⟩
section
variable {P : Program} {w : World} {K : PySem.W.Frag} {mg : Str → Option Value} {base : Heap} {f : Addr} {fd : FuncData}
theorem ok_law_right {T_ : List (Addr × Str)} (T : TxtW10 mg) (D : FnP K "_law_right" "_law_right" s_law_right f fd) (c_law_read : CalX P w K mg base 2 "_law_read" spLawRead) (c_law_told : CalX P w K mg base 11 "_law_told" (spTold (gA K "Town") T_)) :
    FnOk P w K mg base (L2.CX P w) 12 f fd ["_law_text_here"] (spRight T_) := by
  have nd := sc_law_right.nd
  refine D.ok sc_law_right (fun vs H Q E h => ?_) (fun cdv A outer s H vs Q E hr h => ?_)
  · obtain ⟨z, rfl, _⟩ := h
    rfl
  · obtain ⟨z, rfl, hz, hA, tabs, k⟩ := h
    obtain ⟨f_law_read, fd_law_read, ps_law_read, F_law_read, m_law_read, k_law_read, b_law_read⟩ := c_law_read.ex
    obtain ⟨f_law_told, fd_law_told, ps_law_told, F_law_told, m_law_told, k_law_told, b_law_told⟩ := c_law_told.ex
    refine ⟨_, (pss_cons (ps_set (i := 1) nd rfl (Or.inl rfl) (pe_call F_law_read (hr.mono (by decide)) rfl m_law_read k_law_read b_law_read .nil passF (pa_cons (pv 0) pa_nil)))
      (pss_cons (ps_if (pt_cmpR op_notN (pv 1) pe_non (nomark _)) (pss_one (ps_set (i := 1) nd rfl (Or.inl rfl) (pe_op op_catT (pv 1) (pe_tup (pa_cons (pe_listRg rfl rfl T.f_list (prg_1 rfl T.f_range (pe_callB call_len_seq rfl T.f_len PySem.boot_len (pa_cons (pe_ix ix_tup (pv 1) pe_int (fun _ _ => rfl)) pa_nil)))) pa_nil))))) pss_nil)
      (pss_one (ps_ret (pe_cmpR (op_eqD hr.units) (pe_call F_law_told (hr.mono (by decide)) rfl m_law_told k_law_told b_law_told .nil passF (pa_cons (pv 0) pa_nil)) (pv 1) (nomark _)))))), ?_⟩
    cases ep : parseT z with
    | none =>
      refine ⟨_, rfl, z, rfl, hz, hA, fun _ H1 sm1 => ?_, fun m J e => absurd e (by rw [ep]; exact fun z => nomatch z)⟩
      refine ⟨_, rfl, rfl, _, rfl, ?_⟩
      refine if_no rfl ?_
      refine ⟨_, rfl, z, rfl, hz, tabs.ext sm1, fun _ H2 ext2 => ?_, fun m J e => absurd e (by rw [ep]; exact fun z => nomatch z)⟩
      refine ⟨_, rfl, _, _, .non, .non, lay_non.shaped (by decide), lay_non.shaped (by decide), ?_⟩
      rw [lay_non.eqv]
      exact k H2 ⟨(LamX.ExtN.of sm1).trans ext2.1, ext2.2⟩
    | some v =>
      obtain ⟨m, J⟩ := v
      refine ⟨_, rfl, z, rfl, hz, hA, fun e => absurd e (by rw [ep]; exact fun z => nomatch z), fun m' J' e t pl vs H1 ht hpl tv sm1 => ?_⟩
      rw [ep] at e
      cases e
      have lvs := tups_len tv
      rw [List.length_map] at lvs
      have lJ : J.length ≤ 60 := by
        obtain ⟨z0, r, _, _, q⟩ := parse_some ep
        exact (pairs_ok q).1
      refine ⟨_, rfl, rfl, _, rfl, ?_⟩
      refine if_yes rfl ?_
      refine ⟨_, rfl, _, rfl, t, _, (1 : Int), .ref pl, rfl, rfl, SqT.of ht, atI_nat (j := 1) (xs := [V.int (m : Int), V.ref pl]) rfl, pl, _, rfl, .inl (SqL.of hpl), _, rfl, RgOk.of_le (by decide) (by rw [lvs]; omega) (by decide) (by omega), fun q hq => ?_⟩
      rw [lvs, rg_natT]
      have smq := same_new (o := .lst ((List.range J.length).map natV)) hq
      have eq := upd_same (H := H1) (a := q) (o := .lst ((List.range J.length).map natV))
      generalize upd H1 q (.lst ((List.range J.length).map natV)) = H2 at smq eq ⊢
      refine ⟨(by show 1 ≤ sizeLine; decide), fun u hu => ?_⟩
      have smu := same_new (o := .tup [V.ref q]) hu
      have eu := upd_same (H := H2) (a := u) (o := .tup [V.ref q])
      generalize upd H2 u (.tup [V.ref q]) = H3 at smu eu ⊢
      refine ⟨t, u, _, _, rfl, rfl, SqT.of (smu _ _ (smq _ _ ht)), SqT.of eu, (fun z => nomatch z), (by show 3 ≤ sizeLine; decide), fun z => (nomatch z), fun _ y hy => ?_⟩
      have smy := same_new (o := .tup ([V.int (m : Int), V.ref pl] ++ [V.ref q])) hy
      have ey := upd_same (H := H3) (a := y) (o := .tup ([V.int (m : Int), V.ref pl] ++ [V.ref q]))
      generalize upd H3 y (.tup ([V.int (m : Int), V.ref pl] ++ [V.ref q])) = H4 at smy ey ⊢
      have sm14 := (smq.trans smu).trans smy
      have sm4 := sm1.trans sm14
      refine at_name ?_
      dsimp only
      refine ⟨_, rfl, z, rfl, hz, tabs.ext sm4, fun e => absurd e (by rw [ep]; exact fun z => nomatch z), fun m' J' e t' l1 l2 v1 H5 ht' hl1 tv1 hl2 sm5 => ?_⟩
      rw [ep] at e
      cases e
      have d1 := dp_townD (K := K) ht' hl1 tv1 hl2
      have d2 := dp_townD (K := K) (t := y) (l1 := pl) (l2 := q) (sm5 _ _ ey) (sm5 _ _ (sm14 _ _ hpl)) (tups_ext (fun t xs h => sm5 _ _ (sm14 _ _ h)) tv) (sm5 _ _ (smy _ _ (smu _ _ eq)))
      refine ⟨_, rfl, _, _, d1, d2, (lay_townD m J).shaped (by decide), (lay_townD m J).shaped (by decide), ?_⟩
      rw [(lay_townD m J).eqv]
      exact k H5 ⟨LamX.ExtN.of (sm4.trans sm5), tabs.ext (sm4.trans sm5)⟩
end
end K10

set_option Elab.async false
set_option linter.all false
set_option maxRecDepth 100000
set_option maxHeartbeats 4000000
namespace K10
open PySem PySem.Spec PyProof.Rows L2 Own
/-! ### the law: towns written -/
def spLaw (K : PySem.W.Frag) (T : List (Addr × Str)) : Sp := fun vs H Q _ => ∃ (a : Addr) (ns : List Int), vs = [.ref a] ∧ SqL K H a (ns.map V.int) ∧ (∀ z ∈ ns, Fit z) ∧ ns.length ≤ 63 ∧ LamX.Tabs T H ∧ ∀ H', Q (.bl true) H'
abbrev s_law : Stmt := top 35
abbrev N_law : List Str := ["_law_script", "_law_seed_here", "_law_many_here", "_law_pairs_here", "_law_town", "_law_rows", "_law_text_here", "_law_bent_here", "_law_k", "_law_more", "_law_odd", "_law_own"]
theorem sc_law : FnScope N_law ["_law_script"] (defScope s_law) := ⟨rfl, rfl, rfl, by decide +kernel, rfl, by decide +kernel, by decide +kernel⟩
theorem kit_self {K : PySem.W.Frag} {n : String} : PySem.W.kitOne K (.type n) (.type n) = some true := by
  unfold PySem.W.kitOne
  rw [if_pos (by simp)]
structure TxtLaw (mg : Str → Option Value) : Prop extends TxtW10 mg where
  f_isinstance : mg "isinstance" = none
  f_str : mg "str" = none
section
variable {P : Program} {w : World} {K : PySem.W.Frag} {mg : Str → Option Value} {base : Heap} {f : Addr} {fd : FuncData}
theorem ok_law {T_ : List (Addr × Str)} {fdw : FuncData} (T : TxtLaw mg) (TW : TxtW K mg) (D : FnP K "law" "law" s_law (He.fAd K ("law", none)) fd) (Dw : FnP K "_law_word" "_law_word" s_law_word (gA K "_law_word") fdw) (mw : mg "_law_word" = some (.ref (gA K "_law_word")))
    (TB : LamX.TabB base mg (He.cT K ("law", none)).1 (He.cT K ("law", none)).2) (hmT : ((He.cT K ("law", none)).2, ("law.<locals>." : Str) ++ "<lambda>") ∈ T_) (hu : ∀ q ∈ T_, q.1 = (He.cT K ("law", none)).2 → q.2 = ("law.<locals>." : Str) ++ "<lambda>")
    (c_law_mixed : CalX P w K mg base 1 "_law_mixed" spMixed) (c_law_seed : CalX P w K mg base 2 "_law_seed" (spSeed K)) (c_law_many : CalX P w K mg base 2 "_law_many" spMany) (c_law_pairs : CalX P w K mg base 4 "_law_pairs" (spPairs K))
    (c_law_made : CalX P w K mg base 4 "_law_made" (spMade (gA K "Town"))) (c_law_text : CalX P w K mg base 1 "_law_text" spLawText) (c_written : CalX P w K mg base 3 "written" (spWritten (gA K "Town"))) (c_law_right : CalX P w K mg base 12 "_law_right" (spRight T_))
    (c_law_bent : CalX P w K mg base 1 "_law_bent" spLawBent) (c_read : CalX P w K mg base 5 "read" (spRead K (gA K "Town"))) (c_Town_places : MetX P w K mg base 1 (gA K "Town") "places" (spPlaces (gA K "Town"))) (c_Town_build : MetX P w K mg base 2 (gA K "Town") "build" (spBuild K (gA K "Town")))
    (c_Town_streets : MetX P w K mg base 1 (gA K "Town") "streets" (spStreets (gA K "Town"))) : FnOk P w K mg base (L2.CX P w) 14 (He.fAd K ("law", none)) fd ["_law_script"] (spLaw K T_) := by
  have nd := sc_law.nd
  refine fn_lam D sc_law (fun vs H Q E h => ?_) (fun A outer s H vs Q E hr h => ?_)
  · obtain ⟨a, ns, rfl, _⟩ := h
    rfl
  · obtain ⟨a, ns, rfl, hS, fits, few, tabs, kend⟩ := h
    obtain ⟨f_law_mixed, fd_law_mixed, ps_law_mixed, F_law_mixed, m_law_mixed, k_law_mixed, b_law_mixed⟩ := c_law_mixed.ex
    obtain ⟨f_law_seed, fd_law_seed, ps_law_seed, F_law_seed, m_law_seed, k_law_seed, b_law_seed⟩ := c_law_seed.ex
    obtain ⟨f_law_many, fd_law_many, ps_law_many, F_law_many, m_law_many, k_law_many, b_law_many⟩ := c_law_many.ex
    obtain ⟨f_law_pairs, fd_law_pairs, ps_law_pairs, F_law_pairs, m_law_pairs, k_law_pairs, b_law_pairs⟩ := c_law_pairs.ex
    obtain ⟨f_law_made, fd_law_made, ps_law_made, F_law_made, m_law_made, k_law_made, b_law_made⟩ := c_law_made.ex
    obtain ⟨f_law_text, fd_law_text, ps_law_text, F_law_text, m_law_text, k_law_text, b_law_text⟩ := c_law_text.ex
    obtain ⟨f_written, fd_written, ps_written, F_written, m_written, k_written, b_written⟩ := c_written.ex
    obtain ⟨f_law_right, fd_law_right, ps_law_right, F_law_right, m_law_right, k_law_right, b_law_right⟩ := c_law_right.ex
    obtain ⟨f_law_bent, fd_law_bent, ps_law_bent, F_law_bent, m_law_bent, k_law_bent, b_law_bent⟩ := c_law_bent.ex
    obtain ⟨f_read, fd_read, ps_read, F_read, m_read, k_read, b_read⟩ := c_read.ex
    obtain ⟨f_Town_places, fd_Town_places, ps_Town_places, c_Town_places, M_Town_places, F_Town_places, b_Town_places⟩ := c_Town_places.ex
    obtain ⟨f_Town_build, fd_Town_build, ps_Town_build, c_Town_build, M_Town_build, F_Town_build, b_Town_build⟩ := c_Town_build.ex
    obtain ⟨f_Town_streets, fd_Town_streets, ps_Town_streets, c_Town_streets, M_Town_streets, F_Town_streets, b_Town_streets⟩ := c_Town_streets.ex
    refine ⟨_, (pss_cons (ps_set (i := 1) nd rfl (Or.inl rfl) (pe_call F_law_seed (hr.mono (by decide)) rfl m_law_seed k_law_seed b_law_seed .nil passF (pa_cons (pv 0) pa_nil)))
      (pss_cons (ps_set (i := 2) nd rfl (Or.inl rfl) (pe_call F_law_many (hr.mono (by decide)) rfl m_law_many k_law_many b_law_many .nil passF (pa_cons (pv 1) (pa_cons pe_int pa_nil))))
      (pss_cons (ps_set (i := 3) nd rfl (Or.inl rfl) (pe_call F_law_pairs (hr.mono (by decide)) rfl m_law_pairs k_law_pairs b_law_pairs .nil passF (pa_cons (pv 0) (pa_cons (pv 1) (pa_cons (pv 2) (pa_cons pe_int pa_nil))))))
      (pss_cons (ps_asg (pe_call F_law_made (hr.mono (by decide)) rfl m_law_made k_law_made b_law_made .nil passF (pa_cons (pv 2) (pa_cons (pv 3) (pa_cons (pv 1) pa_nil)))) (pg_tup rfl (pgs_cons (pg_name (i := 4) nd rfl (Or.inl rfl)) (pgs_cons (pg_name (i := 5) nd rfl (Or.inl rfl)) pgs_nil))))
      (pss_cons (ps_set (i := 6) nd rfl (Or.inl rfl) (pe_call F_law_text (hr.mono (by decide)) rfl m_law_text k_law_text b_law_text .nil passF (pa_cons (pv 2) (pa_cons (pv 3) pa_nil))))
      (pss_cons (ps_if (PW.pt (pw_or (pt_cmpR op_ne (pe_call F_written (hr.mono (by decide)) rfl m_written k_written b_written .nil passF (pa_cons (pv 4) pa_nil)) (pv 6) (nomark _)) (pw_or (pt_not (pt_val (pe_callB call_isBoth rfl T.f_isinstance (by decide +kernel) (pa_cons (pe_call F_written (hr.mono (by decide)) rfl m_written k_written b_written .nil passF (pa_cons (pv 4) pa_nil)) (pa_cons (pe_bltn (v := .ty "str") (u := .type "str") rfl T.f_str (by decide +kernel) rfl) pa_nil))))) (pw_or1 (pt_not (pt_val (pe_call F_law_right (hr.mono (by decide)) rfl m_law_right k_law_right b_law_right .nil passF (pa_cons (pv 6) pa_nil)))))))) (pss_one (ps_ret pe_bl)) pss_nil)
      (pss_cons (ps_set (i := 7) nd rfl (Or.inl rfl) (pv 6))
      (pss_cons (ps_for (passes_of rfl) rfl (pi_range1 rfl T.f_range (pa_cons pe_int pa_nil)) (pg_name (i := 8) nd rfl (Or.inl rfl)) (pss_cons (ps_set (i := 7) nd rfl (Or.inl rfl) (pe_call F_law_bent (hr.mono (by decide)) rfl m_law_bent k_law_bent b_law_bent .nil passF (pa_cons (pe_ix ix_list (pe_lst (pa_cons (pv 6) (pa_cons (pv 7) pa_nil))) (pe_op op_mod (pe_call F_law_mixed (hr.mono (by decide)) rfl m_law_mixed k_law_mixed b_law_mixed .nil passF (pa_cons (pv 1) (pa_cons (pe_op op_add pe_int (pv 8)) pa_nil))) pe_int) (fun _ _ => rfl)) (pa_cons (pe_call F_law_mixed (hr.mono (by decide)) rfl m_law_mixed k_law_mixed b_law_mixed .nil passF (pa_cons (pv 1) (pa_cons (pe_op op_add pe_int (pv 8)) pa_nil))) pa_nil))))
      (pss_one (ps_if (pt_not (pt_val (pe_call F_law_right (hr.mono (by decide)) rfl m_law_right k_law_right b_law_right .nil passF (pa_cons (pv 7) pa_nil)))) (pss_one (ps_ret pe_bl)) pss_nil))))
      (pss_cons (ps_for (passes_of rfl) rfl (pi_range1 rfl T.f_range (pa_cons pe_int pa_nil)) (pg_name (i := 9) nd rfl (Or.inl rfl)) (pss_one (ps_if (pt_not (pt_val (pe_call F_law_right (hr.mono (by decide)) rfl m_law_right k_law_right b_law_right .nil passF (pa_cons (pe_call F_law_text (hr.mono (by decide)) rfl m_law_text k_law_text b_law_text .nil passF (pa_cons pe_int (pa_cons (pe_lc (own := [("_law_k", 8)]) (g := (gName 8)) rfl nd (pi_range1 rfl T.f_range (pa_cons (pe_op op_add pe_int (pv 9)) pa_nil)) (blkOk_by (own := [("_law_k", 8)]) (N := N_law) (sc := defScope s_law) (by decide +kernel)) (fun _ _ _ _ _ => (pg_name (i := 8) nd rfl (Or.inl rfl))) (fun _ _ _ _ _ => pts_nil) (fun _ _ _ _ _ => (pe_tup (pa_cons (pe_op op_mod (pv 8) pe_int) (pa_cons (pe_op op_mod (pe_op op_add (pv 8) pe_int) pe_int) pa_nil))))) pa_nil))) pa_nil)))) (pss_one (ps_ret pe_bl)) pss_nil)))
      (pss_cons (ps_set (i := 10) nd rfl (Or.inr rfl) (pe_lst (pa_cons pe_non (pa_cons pe_int (pa_cons pe_bl (pa_cons (pe_lst (pa_cons (pv 6) pa_nil)) (pa_cons (pe_tup (pa_cons (pv 6) pa_nil)) (pa_cons pe_dnewK (pa_cons pe_str (pa_cons pe_str (pa_cons pe_str (pa_cons pe_str (pa_cons pe_str (pa_cons pe_str pa_nil))))))))))))))
      (pss_cons (ps_set (i := 10) nd rfl (Or.inr rfl) (pe_ix ix_list (pv 10) (pe_op op_mod (pe_call F_law_mixed (hr.mono (by decide)) rfl m_law_mixed k_law_mixed b_law_mixed .nil passF (pa_cons (pv 1) (pa_cons pe_int pa_nil))) pe_int) (fun _ _ => rfl)))
      (pss_cons (ps_set (i := 11) nd rfl (Or.inl rfl) (pe_call F_read (hr.mono (by decide)) rfl m_read k_read b_read .nil passF (pa_cons (pv 6) pa_nil)))
      (pss_cons (ps_if (PW.pt (pw_and (pt_cmpR op_gt (pe_meth0 (pv 11) c_Town_places M_Town_places F_Town_places (hr.mono (by decide)) b_Town_places .nil passF) pe_int (nomark _)) (pw_and1 (pt_cmpR op_lt (pe_callB call_len_seq rfl T.f_len PySem.boot_len (pa_cons (pv 3) pa_nil)) pe_int (nomark _))))) (pss_one (ps_expr (pe_meth (pv 11) c_Town_build M_Town_build F_Town_build (hr.mono (by decide)) b_Town_build .nil passF (pa_cons pe_int (pa_cons pe_int pa_nil))))) pss_nil)
      (pss_one (ps_ret (pe_and (pe_cmpR (op_eqD hr.units) (pe_word (k := 8) (t := fun E0 => tCall (spRead K (gA K "Town")) [] E0 (tCons (tVar 10) tNil)) TW Dw mw rfl TB rfl hmT hu (hr.mono (by decide)) (LamX.lamS_by (by show LamX.lamSB (defScope s_law) _ = true; decide +kernel)) (by rfl) (fun _ _ _ _ _ => by rfl) (fun A1 outer1 s1 H1 E1 f1 c1 hr1 => pe_call F_read (hr1.mono (by decide)) rfl m_read k_read b_read .nil (passes_call (takes_of rfl rfl rfl rfl) (fun _ _ _ _ h => h)) (pa_cons (pv 10) pa_nil))) (pe_lst (pa_cons pe_str pa_nil)) (nomark _)) (pe_and (pe_cmpR (op_eqD hr.units) (pe_meth0 (pv 4) c_Town_streets M_Town_streets F_Town_streets (hr.mono (by decide)) b_Town_streets .nil passF) (pv 5) (nomark _)) (pe_one (pe_cmpR op_eq (pe_call F_written (hr.mono (by decide)) rfl m_written k_written b_written .nil passF (pa_cons (pv 4) pa_nil)) (pv 6) (nomark _)))))))))))))))))))), ?_⟩
    refine ⟨_, rfl, a, ns, rfl, hS, fits, fun seed H1 s0 s1 sm1 => ?_⟩
    have fseed : Fit seed := fit_range s0 (by omega)
    refine ⟨_, rfl, seed, 16, rfl, fseed, by decide, fun m H2 m1 m16 sm2 => ?_⟩
    refine ⟨_, rfl, _, rfl, _, rfl, a, ns, seed, m, 60, rfl, sm2.seq (sm1.seq hS), fits, fseed, m1, m16, few, by decide, fun pl H3 ps hpl sm3 tlp okp lenp _ => ?_⟩
    refine ⟨_, rfl, _, rfl, _, rfl, m, pl, seed, ps, rfl, m1, m16, tlp, okp, by omega, fseed, fun q p d l H4 rows n hq hp hd hl sm4 eq W tl er en _ => ?_⟩
    refine ⟨q, _, rfl, SqT.of eq, rfl, _, _, rfl, _, _, rfl, rfl, ?_⟩
    have er' : ends rows = ps := er
    subst er'
    have tlp4 := tl_same tlp sm4
    have ok16 : ∀ q ∈ ends rows, q.1 < 16 ∧ q.2 < 16 := fun q hq => by
      obtain ⟨a1, a2, _⟩ := okp q hq
      exact ⟨by omega, by omega⟩
    have okm : ∀ q ∈ ends rows, q.1 < m ∧ q.2 < m ∧ q.1 ≠ q.2 := okp
    have tabs4 := (((tabs.ext sm1).ext sm2).ext sm3).ext sm4
    have big : sizeLine = 16777216 := sizeLine_eq
    have zA := text_ascii m16 ok16
    have zL := text_len m16 ok16
    have zP := parse_text m1 m16 lenp okm
    clear hq hp hd hl eq er okp tlp hpl sm1 sm2 sm3 sm4 hS tabs
    dsimp only
    refine at_sq ?_
    refine ⟨_, rfl, _, rfl, pl, m, ends rows, rfl, m16, tlp4, ok16, by omega, fun H5 sm5 => ?_⟩
    have W5 := W.same sm5
    have tl5 := tl_same tl sm5
    have tlp5 := tl_same tlp4 sm5
    have tabs5 := tabs4.ext sm5
    generalize hz : textF m (ends rows) = z at zA zL zP ⊢
    have zlen : z.length ≤ 370 := by omega
    refine at_name ?_
    dsimp only
    refine at_sq (at_if (at_or (at_tst (at_two ?_))))
    refine ⟨_, rfl, p, d, m, rows, n, rfl, W5, fun H6 sm6 => ?_⟩
    rw [show textF m (rows.map fun x => x.2) = z from hz]
    refine ⟨_, rfl, rfl, _, rfl, ?_⟩
    rw [decide_eq_true rfl]
    refine if_no (c := !true) rfl ?_
    have W6 := W5.same sm6
    refine at_or ?_
    refine ⟨_, rfl, p, d, m, rows, n, rfl, W6, fun H7 sm7 => ?_⟩
    rw [show textF m (rows.map fun x => x.2) = z from hz]
    refine .inl ⟨.str z, .ty "str", .type "str", .type "str", true, rfl, .ty _, .base (.str z), kit_self, _, rfl, ?_⟩
    refine if_no (c := !true) rfl ?_
    have tabs7 := tabs5.ext (sm6.trans sm7)
    refine ⟨_, rfl, z, rfl, (by omega), zA, tabs7, fun H8 ext8 => ⟨_, rfl, ?_⟩⟩
    refine if_no (c := !true) rfl ?_
    have W8 := (W6.same sm7).ext ext8.1
    have tl8 := tl_ext (tl_same tl5 (sm6.trans sm7)) ext8.1
    have tlp8 := tl_ext (tl_same tlp5 (sm6.trans sm7)) ext8.1
    have tabs8 := ext8.2
    clear ext8 sm5 sm6 sm7 W W5 W6 tl tl5 tlp4 tlp5 tabs4 tabs5 tabs7
    refine ⟨_, rfl, ?_⟩
    refine ⟨(8 : Int), rfl, by decide, by decide, ?_⟩
    refine for_it walk_range (fun i σ' H' => ∃ (zb : Str) (u8 : Option V), σ' = [some (.ref a), some (.int seed), some (.int (m : Int)), some (.ref pl), some (.ref p), some (.ref l), some (.str z), some (.str zb), u8, none, none, none] ∧ Ascii zb ∧ zb.length + 1 ≤ 400 * 2 ^ i ∧ ExtT T_ H8 H')
      ⟨z, none, rfl, zA, by omega, ext_same tabs8 (Same.refl _)⟩ (fun _ _ _ _ _ => trivial) ?_ ?_
    · rintro i x σ' H9 H10 hi ⟨zb, u8, rfl, bA, bL, ext9⟩ ⟨rfl, rfl⟩
      have hi8 : i < 8 := hi
      have pw : 2 ^ i ≤ 2 ^ 7 := Nat.pow_le_pow_right (by decide) (by omega)
      have pw1 : 2 ^ (i + 1) = 2 ^ i * 2 := Nat.pow_succ ..
      have pz : 1 ≤ 2 ^ i := Nat.one_le_two_pow
      dsimp only
      refine ⟨_, rfl, _, rfl, (by show 2 ≤ sizeLine; decide), fun L hL => ?_⟩
      refine ⟨_, rfl, _, rfl, _, _, rfl, rfl, seed, _, rfl, fseed, (by omega), (by omega), fun r r0 r1 => ?_⟩
      have r2 := emod_lt (i := r) (m := 2) (by decide)
      obtain ⟨v, hv, hin⟩ := at_lt (xs := [V.str z, V.str zb]) r2.1 r2.2
      obtain ⟨zc, rfl, cA, cL⟩ : ∃ zc, v = .str zc ∧ Ascii zc ∧ zc.length + 1 ≤ 400 * 2 ^ i := by
        simp only [List.mem_cons, List.not_mem_nil, or_false] at hin
        rcases hin with h | h
        · exact ⟨z, h, zA, by omega⟩
        · exact ⟨zb, h, bA, bL⟩
      refine ⟨_, _, rfl, rfl, (by show (0 : Int) < 2; decide), L, _, _, _, rfl, rfl, SqL.of upd_same, hv, ?_⟩
      refine ⟨_, rfl, _, rfl, _, _, rfl, rfl, seed, _, rfl, fseed, (by omega), (by omega), fun r3 r30 r31 => ?_⟩
      refine ⟨zc, r3, rfl, cA, (by omega), r30, fun z' hA' hL' => ?_⟩
      have smL := same_new (o := .lst [V.str z, V.str zb]) hL
      refine at_name ?_
      dsimp only
      refine ⟨_, rfl, z', rfl, (by omega), hA', ext9.2.ext smL, fun H11 ext11 => ⟨_, rfl, ?_⟩⟩
      refine if_no (c := !true) rfl ?_
      exact ⟨z', _, rfl, hA', by omega, (ext9.1.trans (LamX.ExtN.of smL)).trans ext11.1, ext11.2⟩
    · rintro σ' H9 ⟨zb, u8, rfl, bA, bL, ext9⟩
      dsimp only
      refine ⟨(2 : Int), rfl, by decide, by decide, ?_⟩
      refine for_it walk_range (fun i σ' H' => ∃ (u8 u9 : Option V), σ' = [some (.ref a), some (.int seed), some (.int (m : Int)), some (.ref pl), some (.ref p), some (.ref l), some (.str z), some (.str zb), u8, u9, none, none] ∧ ExtT T_ H8 H')
        ⟨u8, none, rfl, ext9⟩ (fun _ _ _ _ _ => trivial) ?_ ?_
      · rintro i x σ' H10 H11 hi ⟨u8, u9, rfl, ext10⟩ ⟨rfl, rfl⟩
        have hi2 : i < 2 := hi
        dsimp only
        rw [Int.zero_add]
        refine ⟨_, rfl, _, _, rfl, rfl, ((60 + i : Nat) : Int), (by show [V.int (60 + (i : Int))] = _; rw [Int.natCast_add]; rfl), (by omega), (by omega), fun L hL => ?_⟩
        rw [Int.toNat_natCast]
        refine lc_it walk_range (fun j H' => ∃ pv, H' L = some (.lst pv) ∧ Tups H' pv ((far61 j).map pairV) ∧ Same H11 H') ⟨[], upd_same, .nil, same_new hL⟩ (fun _ _ _ _ => trivial) ?_ ?_
        · rintro j x H12 H13 hj ⟨pv, e12, t12, sm12⟩ ⟨rfl, rfl⟩
          refine ⟨rfl, yes_then ⟨_, rfl, _, _, rfl, rfl, (by show (0 : Int) < 16; decide), _, rfl, _, _, rfl, rfl, _, _, rfl, rfl, (by show (0 : Int) < 16; decide), (by show 2 ≤ sizeLine; decide), fun u hu2 => ?_⟩⟩
          have smu := same_new (o := .tup (pairV (j % 16, (j + 5) % 16))) hu2
          have ex1 : (0 + (j : Int)) % 16 = ((j % 16 : Nat) : Int) := by omega
          have ex2 : (0 + (j : Int) + 5) % 16 = (((j + 5) % 16 : Nat) : Int) := by omega
          dsimp only
          rw [ex1, ex2]
          have eL := smu _ _ e12
          refine ⟨pv, eL, ?_, pv ++ [.ref u], upd_same, ?_, same_over hL (sm12.trans smu)⟩
          · rw [tups_len t12, List.length_map, far_len, sizeLine_eq]
            omega
          · rw [far_succ, List.map_append]
            exact tups_over eL (tups_snoc (xs := pairV (j % 16, (j + 5) % 16)) upd_same (tups_ext (fun t xs h => smu _ _ h) t12))
        · rintro H12 ⟨pv, e12, t12, sm12⟩
          refine ⟨L, 16, far61 (60 + i), rfl, by decide, ⟨pv, e12, t12⟩, far_ok _, (by rw [far_len]; omega), fun H13 sm13 => ?_⟩
          have lt := text_len (m := 16) (J := far61 (60 + i)) (by decide) (far_ok _)
          rw [far_len] at lt
          have smB := sm12.trans sm13
          refine ⟨_, rfl, (by omega), text_ascii (by decide) (far_ok _), ext10.2.ext smB, fun H14 ext14 => ⟨_, rfl, ?_⟩⟩
          refine if_no (c := !true) rfl ?_
          exact ⟨_, _, rfl, (ext10.1.trans (LamX.ExtN.of smB)).trans ext14.1, ext14.2⟩
      · rintro σ' H10 ⟨u8, u9, rfl, ext10⟩
        dsimp only
        have W10 := W8.ext ext10.1
        have tl10 := tl_ext tl8 ext10.1
        have tlp10 := tl_ext tlp8 ext10.1
        have tabs10 := ext10.2
        clear W8 tl8 tlp8 tabs8 ext9 ext10
        refine at_sq ?_
        refine ⟨_, rfl, (by show 1 ≤ sizeLine; decide), fun p1 h1 => ?_⟩
        refine ⟨_, rfl, (by show 1 ≤ sizeLine; decide), fun p2 h2 => ?_⟩
        intro p3 h3
        refine ⟨(by show 12 ≤ sizeLine; decide), fun L hL => ?_⟩
        have c1 := same_new (o := .lst [V.str z]) h1
        have c2 := same_new (o := .tup [V.str z]) h2
        have c3 := same_new (o := .dK []) h3
        have c4 := same_new (o := .lst [V.non, V.int 5, V.bl true, V.ref p1, V.ref p2, V.ref p3, V.str (Str.ofString ""), V.str (Str.ofString "\n"), V.str (Str.ofString "places"), V.str (Str.ofString "places 3\n"), V.str (Str.ofString "places 03"), V.str (Str.ofString "places 17")]) hL
        have a1 := c4 _ _ (c3 _ _ (c2 _ _ (upd_same (H := H10) (a := p1) (o := .lst [V.str z]))))
        have a2 := c4 _ _ (c3 _ _ (upd_same (a := p2) (o := .tup [V.str z])))
        have a3 := c4 _ _ (upd_same (a := p3) (o := .dK []))
        have smO := ((c1.trans c2).trans c3).trans c4
        refine at_name ?_
        dsimp only
        refine at_sq ?_
        refine ⟨_, rfl, _, rfl, seed, _, rfl, fseed, (by decide), (by decide), fun r r0 r1 => ?_⟩
        have r12 := emod_lt (i := r) (m := 12) (by decide)
        obtain ⟨v, hv, hin⟩ := at_lt (xs := [V.non, V.int 5, V.bl true, V.ref p1, V.ref p2, V.ref p3, V.str (Str.ofString ""), V.str (Str.ofString "\n"), V.str (Str.ofString "places"), V.str (Str.ofString "places 3\n"), V.str (Str.ofString "places 03"), V.str (Str.ofString "places 17")]) r12.1 r12.2
        refine ⟨_, _, rfl, rfl, (by show (0 : Int) < 12; decide), L, _, _, v, rfl, rfl, SqL.of upd_same, hv, ?_⟩
        refine at_name ?_
        dsimp only
        generalize upd _ L _ = H11 at a1 a2 a3 smO ⊢
        have vt : (∃ n, tyName v H11 = some n) ∧ ∀ z' : Str, v = .str z' → parseT z' = none ∧ z'.length ≤ 20 := by
          simp only [List.mem_cons, List.not_mem_nil, or_false] at hin
          rcases hin with h | h | h | h | h | h | h | h | h | h | h | h <;> rw [h]
          · exact ⟨⟨_, rfl⟩, fun z' e => by cases e⟩
          · exact ⟨⟨_, rfl⟩, fun z' e => by cases e⟩
          · exact ⟨⟨_, rfl⟩, fun z' e => by cases e⟩
          · exact ⟨⟨"list", by simp only [tyName, a1]⟩, fun z' e => by cases e⟩
          · exact ⟨⟨"tuple", by simp only [tyName, a2]⟩, fun z' e => by cases e⟩
          · exact ⟨⟨"dict", by simp only [tyName, a3]⟩, fun z' e => by cases e⟩
          all_goals
            refine ⟨⟨_, rfl⟩, fun z' e => ?_⟩
            rw [← V.str.inj e]
            exact odd_texts _ (by simp)
        clear hin hv c1 c2 c3 c4 a1 a2 a3 h1 h2 h3 hL
        have W11 := W10.same smO
        have tl11 := tl_same tl10 smO
        have tlp11 := tl_same tlp10 smO
        have tabs11 := tabs10.ext smO
        refine at_sq ?_
        refine ⟨_, rfl, .str z, rfl, ⟨"str", rfl⟩, (fun z' e => by
          cases e
          omega), fun b => absurd (b z rfl) (by rw [zP]; exact fun z => nomatch z), fun z' m' J' e pe po dO H12 hpo hdo sm12 Wo => ?_⟩
        cases e
        rw [zP] at pe
        cases pe
        refine at_name ?_
        dsimp only
        have W12 := W11.same sm12
        obtain ⟨dxo, ho⟩ := id Wo.ob
        obtain ⟨pvs, hpv, tpv⟩ := tlp11
        have lpv := tups_len tpv
        rw [List.length_map] at lpv
        refine at_sqP (fun σ' H' => σ' = [some (.ref a), some (.int seed), some (.int (m : Int)), some (.ref pl), some (.ref p), some (.ref l), some (.str z), some (.str zb), u8, u9, some v, some (.ref po)] ∧ Same H11 H') ?_ ?_
        · rintro σ' H13 ⟨rfl, sm13⟩
          have hb : ("BadText" : Str) ∈ plainErrs := by decide +kernel
          refine ⟨tabs11.ext sm13, fun H14 ext14 tabs14 E' Q' hE hQ => ?_⟩
          have ext := (LamX.ExtN.of sm13).trans ext14
          refine ⟨_, rfl, v, rfl, ty_ext ext vt.1, (fun z' e => by
            have q := (vt.2 z' e).2
            omega), fun _ H15 sm15 => ?_, fun z' m' J' e pe => absurd pe (by rw [(vt.2 z' e).1]; exact fun z => nomatch z)⟩
          refine hE H15 "BadText" hb fun wl H16 hwl sm16 ewl => eq_word hb word_text ewl fun H17 sm17 => ⟨_, rfl, ?_⟩
          have ext17 := ext.trans (LamX.ExtN.of ((sm15.trans sm16).trans sm17))
          have W17 := W11.ext ext17
          have tl17 := tl_ext tl11 ext17
          obtain ⟨dx, hW⟩ := id W17.ob
          refine if_yes rfl ?_
          refine ⟨_, rfl, p, dx, _, rfl, hW, tF_no _ _ _ (by decide +kernel) (by decide +kernel) (by decide +kernel), p, d, m, rows, n, rfl, W17, fun l2 H18 hl2 sm18 tl18 => ?_⟩
          refine ⟨_, rfl, _, _, dp_town tl18, dp_town (tl_same tl17 sm18), (lay_rows rows).shaped (by decide), (lay_rows rows).shaped (by decide), ?_⟩
          rw [(lay_rows rows).eqv]
          refine ⟨_, rfl, ?_⟩
          refine if_yes rfl ?_
          refine ⟨_, rfl, p, d, m, rows, n, rfl, W17.same sm18, fun H19 sm19 => ?_⟩
          rw [show textF m (rows.map fun x => x.2) = z from hz]
          refine ⟨_, rfl, rfl, ?_⟩
          rw [decide_eq_true rfl]
          exact kend _
        · intro N hN
          refine at_if ?_
          refine ⟨_, rfl, po, dxo, _, rfl, ho, tF_no _ _ _ (by decide +kernel) (by decide +kernel) (by decide +kernel), po, dO, m, _, _, rfl, Wo, _, _, rfl, rfl, _, rfl, ?_⟩
          refine if_both (fun c => ?_) (fun c => ?_)
          · refine ⟨_, rfl, pl, pvs, rfl, .inl (SqL.of (sm12 _ _ hpv)), _, _, rfl, rfl, _, rfl, ?_⟩
            have cm := of_decide_eq_true c
            refine if_both (fun c2 => ?_) (fun c2 => hN _ _ ⟨rfl, sm12⟩)
            have cl := of_decide_eq_true c2
            refine ⟨_, rfl, po, dxo, _, rfl, ho, tF_no _ _ _ (by decide +kernel) (by decide +kernel) (by decide +kernel), po, dO, m, _, _, _, _, rfl, Wo, ⟨"int", rfl⟩, ⟨"int", rfl⟩, fun bad => ?_, fun x y ex ey _ _ _ many => ?_, fun x y ex ey _ _ _ _ H13 W13 kp13 => ?_⟩
            · exfalso
              rcases bad with q | q | q
              · rw [isW_true (by omega) (by omega)] at q
                cases q
              · rw [isW_true (by omega) (by omega)] at q
                cases q
              · cases q
            · exfalso
              rw [numbT_len] at many
              omega
            · exact hN _ _ ⟨rfl, fun b o e => kp13 b o (sm12 b o e) (ne_of_none e hpo) (ne_of_none e hdo)⟩
          · refine if_no rfl ?_
            exact hN _ _ ⟨rfl, sm12⟩
end
end K10

set_option Elab.async false
set_option linter.all false
set_option maxRecDepth 100000
set_option maxHeartbeats 4000000
namespace K10
open PySem PySem.Spec PyProof.Rows L2 Own
/-! ### the head -/
def gd (i : Nat) (n : Str) : He.DefD := ⟨(n, none), n, n, defArgs (top i), defBody (top i), defScope (top i), [], []⟩
def md (i j : Nat) (c n q : Str) : He.DefD := ⟨(c, some n), n, q, defArgs (inClass (top i) j), defBody (inClass (top i) j), defScope (inClass (top i) j), [], []⟩
def fn : List He.DefD := (([gd 10 "is_whole", md 14 0 "Town" "__init__" "Town.__init__", md 14 1 "Town" "places" "Town.places", md 14 2 "Town" "build" "Town.build", md 14 3 "Town" "dig" "Town.dig", md 14 4 "Town" "streets" "Town.streets", gd 16 "_number", gd 17 "_two_words", gd 18 "_town_of", gd 19 "written", gd 20 "read", gd 22 "_law_mixed", gd 23 "_law_seed", gd 24 "_law_ends", gd 25 "_law_pairs", gd 26 "_law_many", gd 27 "_law_made", gd 28 "_law_word", gd 29 "_law_text", gd 30 "_law_number", gd 31 "_law_read", gd 32 "_law_bent", gd 33 "_law_told", gd 34 "_law_right"] : List He.DefD) ++ ([gd 35 "law"] : List He.DefD))
def gloNames : List Str := ((["TownError", "BadCount", "BadPlace", "BadStreet", "TooMany", "Parted", "BadWays", "BadText", "Town", "is_whole", "_number", "_two_words", "_town_of", "written", "read", "_law_mixed", "_law_seed", "_law_ends", "_law_pairs", "_law_many", "_law_made", "_law_word", "_law_text", "_law_number"] : List PySem.Str) ++ (["_law_read", "_law_bent", "_law_told", "_law_right", "law"] : List PySem.Str))
def freeNames : List Str := ["ValueError", "all", "any", "bool", "enumerate", "int", "isinstance", "len", "list", "max", "min", "range", "sorted", "str", "super", "tuple", "type", "zip"]
def fa : List He.Fa := gloNames.map .glo ++ (freeNames.map .free ++ ([.int "MOST_PLACES" 16, .int "MOST_STREETS" 60, .cls "Town", .noat "Town" "_many", .noat "Town" "_ends", .noat "Town" "_built", .meth "Town" "build", .meth "Town" "dig", .meth "Town" "streets", .meth "Town" "places", .mkr "Town", .exc "BadCount", .exc "BadPlace", .exc "BadStreet", .exc "TooMany", .exc "BadText"] ++ plainErrs.map fun x => .exm x "TownError" true))
def tf : List He.Defn := [("_law_told", none), ("law", none)]
abbrev P_k10 : Program := PySem.Challenge.rw_onewaytown_k10_towns_written.prog
def exKit (K : PySem.W.Frag) : Bool := (errNames.all fun y => decide (PySem.W.kitOne K (.type "NoneType") (.ref (gA K y)) = some false)) && ((plainErrs.all fun x => errNames.all fun y => decide (PySem.W.kitOne K (.ref (gA K x)) (.ref (gA K y)) = some (decide (x = y)))) &&
  ((plainErrs.all fun x => decide (PySem.W.kitOne K (.ref (gA K x)) (.type "ValueError") = some true)) && plainErrs.all fun x => excCB K (gA K x)))
def ex (K : PySem.W.Frag) : Bool := exKit K && ((readErrs.all fun y => decide (PySem.W.exmAny K (.ref (gA K y)) [.ref (gA K "BadCount"), .ref (gA K "BadPlace"), .ref (gA K "TooMany")] = some (decide (y ≠ "BadText")))) && (decide ((tf.map fun p => (He.cT K p).2).Nodup) && (true)))
abbrev R_ : PySem.W.OpenRow := PySem.W.OpenLaw.row PySem.Challenge.rw_onewaytown_k10_towns_written
abbrev hk : PySem.W.Hook := He.hookX 7 fa fn [] tf ex
def ob (s : PySem.W.SharedT) : He.AlX := He.obsX 7 fa fn [] tf ex (HandSHeadRun.getT s)
theorem ob_eq (s : PySem.W.SharedT) : ob s = hk.obs s.abs := He.obsX_eq (HandSHeadRun.getT_eq s)
def looseNames : List PySem.Str := ((["TownError", "BadCount", "BadPlace", "BadStreet", "TooMany", "Parted", "BadWays", "BadText", "Town", "is_whole", "_number", "_two_words", "_town_of", "written", "read", "_law_mixed", "_law_seed", "_law_ends", "_law_pairs", "_law_many", "_law_made", "_law_word", "_law_text", "_law_number"] : List PySem.Str) ++ (["_law_read", "_law_bent", "_law_told", "_law_right", "MOST_PLACES", "MOST_STREETS"] : List PySem.Str))
theorem run (w : World) : HandSHeadRun.RunEq R_ (PySem.W.view R_.prog [35]) hk ob 6000 looseNames w := by
  intro os
  kernel_rfl
end K10

set_option Elab.async false
set_option linter.all false
set_option maxRecDepth 100000
set_option maxHeartbeats 4000000
namespace K10
open PySem PySem.Spec PyProof.Rows L2 Own
/-! ### the facts, the end -/
def TT_ (K : PySem.W.Frag) : List (Addr × Str) := [((He.cT K ("_law_told", none)).2, ("_law_told.<locals>." : Str) ++ "<lambda>"), ((He.cT K ("law", none)).2, ("law.<locals>." : Str) ++ "<lambda>")]
section
variable {w : World} {K : PySem.W.Frag} {h base : Heap} {mg : Str → Option Value}
theorem glo_of (X : K.In h) (G : h.Ns mainGlobals mg) (d : He.SaysD fa fn K) {x : Str} (hx : x ∈ gloNames) : mg x = some (.ref (gA K x)) := He.glo_ok X G (d.facts (List.mem_append_left _ (List.mem_map_of_mem hx)))
theorem free_of (X : K.In h) (G : h.Ns mainGlobals mg) (d : He.SaysD fa fn K) {x : Str} (hx : x ∈ freeNames) : mg x = none := He.free_ok X G (d.facts (List.mem_append_right _ (List.mem_append_left _ (List.mem_map_of_mem hx))))
theorem txt_of (X : K.In h) (G : h.Ns mainGlobals mg) (d : He.SaysD fa fn K) : Txt K mg := by
  have err : ∀ {x : Str}, x ∈ gloNames → (He.Fa.exc x).ok K = true → ErrT K mg x := fun hx e => by
    obtain ⟨e1, e2, e3, e4⟩ := He.exc_ok e
    exact ⟨glo_of X G d hx, e1, e2, e3, e4⟩
  refine ⟨free_of X G d (by decide +kernel), free_of X G d (by decide +kernel), free_of X G d (by decide +kernel), ?_, ?_, He.cls_ok (d.fact 49 (f := .cls "Town") rfl), He.noat_ok (d.fact 50 (f := .noat "Town" "_many") rfl), He.noat_ok (d.fact 51 (f := .noat "Town" "_ends") rfl), He.noat_ok (d.fact 52 (f := .noat "Town" "_built") rfl),
    err (by decide +kernel) (d.fact 58 (f := .exc "BadCount") rfl), err (by decide +kernel) (d.fact 59 (f := .exc "BadPlace") rfl), err (by decide +kernel) (d.fact 60 (f := .exc "BadStreet") rfl), err (by decide +kernel) (d.fact 61 (f := .exc "TooMany") rfl)⟩
  · obtain ⟨t, e⟩ := He.int_ok X G (d.fact 47 (f := .int "MOST_PLACES" 16) rfl)
    exact ⟨_, e, t, rfl⟩
  · obtain ⟨t, e⟩ := He.int_ok X G (d.fact 48 (f := .int "MOST_STREETS" 60) rfl)
    exact ⟨_, e, t, rfl⟩
theorem txtW_of (X : K.In h) (G : h.Ns mainGlobals mg) (d : He.SaysD fa fn K) (e : exKit K = true) : TxtW K mg := by
  obtain ⟨e1, e⟩ := He.ba e
  obtain ⟨e2, e⟩ := He.ba e
  obtain ⟨e3, e4⟩ := He.ba e
  have g : ∀ {x : Str}, x ∈ gloNames → ∃ u, mg x = some u ∧ RelV (.ref (gA K x)) u := fun hx => ⟨_, glo_of X G d hx, rfl⟩
  exact ⟨free_of X G d (by decide +kernel), free_of X G d (by decide +kernel), glo_of X G d (by decide +kernel), g (by decide +kernel), g (by decide +kernel), g (by decide +kernel), g (by decide +kernel), g (by decide +kernel), g (by decide +kernel), g (by decide +kernel),
    fun y hy => of_decide_eq_true (List.all_eq_true.mp e1 y hy), fun x hx y hy => of_decide_eq_true (List.all_eq_true.mp (List.all_eq_true.mp e2 x hx) y hy), fun x hx => of_decide_eq_true (List.all_eq_true.mp e3 x hx),
    fun x hx => He.exm_ok (d.facts (List.mem_append_right _ (List.mem_append_right _ (List.mem_append_right _ (List.mem_map_of_mem hx))))), fun x hx => excCB_ok (List.all_eq_true.mp e4 x hx)⟩
set_option maxHeartbeats 8000000 in
theorem law_at {f : Addr} (X : K.In h) (G : h.Ns mainGlobals mg) (hfa : mg ("law" : Str) = some (.ref f)) (c : He.SaysX fa fn [] tf ex w h K) : LamX.LawAtS PySem.Challenge.rw_onewaytown_k10_towns_written w K (L2.CX P_k10 w) 14 63 "_law_script" mg f h := by
  have d := c.t.d
  have e0 : ex K = true := c.more
  obtain ⟨exk, e0⟩ := He.ba e0
  obtain ⟨erd, e0⟩ := He.ba e0
  obtain ⟨exn, e0⟩ := He.ba e0
  have T := txt_of X G d
  have fr : ∀ {x : Str}, x ∈ freeNames → mg x = none := fun hx => free_of X G d hx
  have g : ∀ {x : Str}, x ∈ gloNames → mg x = some (.ref (gA K x)) := fun hx => glo_of X G d hx
  have TL : TxtL mg := ⟨fr (by decide +kernel), fr (by decide +kernel), fr (by decide +kernel), fr (by decide +kernel)⟩
  have TM : TxtM mg := ⟨TL, fr (by decide +kernel), fr (by decide +kernel)⟩
  have T10 : TxtW10 mg := ⟨TM, fr (by decide +kernel)⟩
  have TLw : TxtLaw mg := ⟨T10, fr (by decide +kernel), fr (by decide +kernel)⟩
  have TW := txtW_of X G d exk
  have EBT : ErrT K mg "BadText" := by
      obtain ⟨e1, e2, e3, e4⟩ := He.exc_ok (d.fact 62 (f := .exc "BadText") rfl)
      exact ⟨g (by decide +kernel), e1, e2, e3, e4⟩
  have TN : TxtN K mg := ⟨T, fr (by decide +kernel), fr (by decide +kernel), EBT⟩
  have TR : TxtR K mg := ⟨TN, fun y hy => of_decide_eq_true (List.all_eq_true.mp erd y hy)⟩
  have nne : (He.cT K ("_law_told", none)).2 ≠ (He.cT K ("law", none)).2 := fun z => by
      have nodup : ([(He.cT K ("_law_told", none)).2, (He.cT K ("law", none)).2] : List Addr).Nodup := of_decide_eq_true exn
      rw [List.nodup_cons] at nodup
      exact nodup.1 (by rw [z]; exact List.mem_cons_self ..)
  have ef : f = gA K "law" := by
    have z := hfa.symm.trans (g (x := "law") (by decide +kernel))
    cases z
    rfl
  subst ef
  obtain ⟨_, D_is_whole⟩ := d.def_ 0 (d := gd 10 "is_whole") rfl
  obtain ⟨_, D_init⟩ := d.def_ 1 (d := md 14 0 "Town" "__init__" "Town.__init__") rfl
  obtain ⟨_, D_places⟩ := d.def_ 2 (d := md 14 1 "Town" "places" "Town.places") rfl
  obtain ⟨_, D_build⟩ := d.def_ 3 (d := md 14 2 "Town" "build" "Town.build") rfl
  obtain ⟨_, D_dig⟩ := d.def_ 4 (d := md 14 3 "Town" "dig" "Town.dig") rfl
  obtain ⟨_, D_streets⟩ := d.def_ 5 (d := md 14 4 "Town" "streets" "Town.streets") rfl
  obtain ⟨_, D_number⟩ := d.def_ 6 (d := gd 16 "_number") rfl
  obtain ⟨_, D_two_words⟩ := d.def_ 7 (d := gd 17 "_two_words") rfl
  obtain ⟨_, D_town_of⟩ := d.def_ 8 (d := gd 18 "_town_of") rfl
  obtain ⟨_, D_written⟩ := d.def_ 9 (d := gd 19 "written") rfl
  obtain ⟨_, D_read⟩ := d.def_ 10 (d := gd 20 "read") rfl
  obtain ⟨_, D_law_mixed⟩ := d.def_ 11 (d := gd 22 "_law_mixed") rfl
  obtain ⟨_, D_law_seed⟩ := d.def_ 12 (d := gd 23 "_law_seed") rfl
  obtain ⟨_, D_law_ends⟩ := d.def_ 13 (d := gd 24 "_law_ends") rfl
  obtain ⟨_, D_law_pairs⟩ := d.def_ 14 (d := gd 25 "_law_pairs") rfl
  obtain ⟨_, D_law_many⟩ := d.def_ 15 (d := gd 26 "_law_many") rfl
  obtain ⟨_, D_law_made⟩ := d.def_ 16 (d := gd 27 "_law_made") rfl
  obtain ⟨_, D_law_word⟩ := d.def_ 17 (d := gd 28 "_law_word") rfl
  obtain ⟨_, D_law_text⟩ := d.def_ 18 (d := gd 29 "_law_text") rfl
  obtain ⟨_, D_law_number⟩ := d.def_ 19 (d := gd 30 "_law_number") rfl
  obtain ⟨_, D_law_read⟩ := d.def_ 20 (d := gd 31 "_law_read") rfl
  obtain ⟨_, D_law_bent⟩ := d.def_ 21 (d := gd 32 "_law_bent") rfl
  obtain ⟨_, D_law_told⟩ := d.def_ 22 (d := gd 33 "_law_told") rfl
  obtain ⟨_, D_law_right⟩ := d.def_ 23 (d := gd 34 "_law_right") rfl
  obtain ⟨fd, D_law⟩ := d.def_ 24 (d := gd 35 "law") rfl
  have inT : ∀ p ∈ tf, He.cT K p ∈ tf.map (He.cT K) := fun p hp => List.mem_map_of_mem hp
  refine ⟨fd, tf.map (He.cT K), spLaw K (TT_ K), fun p hp => ?_, fun p hp => ?_, fun p hp => ?_, fun s u => ?_, fun H a ns hl hbits hT hS => ⟨a, ns, rfl, hS, fun z hz => fit_bits (hbits z hz), hl, ?_, fun _ => rfl⟩, fun base KB GB TB => ?_⟩
  · obtain ⟨q, hq, rfl⟩ := List.mem_map.mp hp
    exact c.empty q hq
  · obtain ⟨q, hq, rfl⟩ := List.mem_map.mp hp
    exact c.out q hq
  · obtain ⟨q, hq, rfl⟩ := List.mem_map.mp hp
    exact PySem.W.codeHd_of_K X (c.hd q hq)
  · exact D_law.bindsA (ps := ["_law_script"]) (fun _ _ _ _ _ _ us hl => match us, hl with | [_], _ => rfl) s [u] rfl
  · intro q hq
    refine LamX.TabS.nil ?_
    have key : ∀ p ∈ tf, H (He.cT K p).2 = some (.tbl #[]) := fun p hp => hT _ (inT p hp)
    simp only [TT_, List.mem_cons, List.not_mem_nil, or_false] at hq
    rcases hq with rfl | rfl
    · exact key _ (by decide +kernel)
    · exact key _ (by decide +kernel)
  · have tb : ∀ p ∈ tf, LamX.TabB base mg (He.cT K p).1 (He.cT K p).2 := fun p hp => TB _ (inT p hp)
    have c_is_whole : CalX P_k10 w K mg base 1 "is_whole" spWhole := ⟨_, _, _, ok_is_whole T D_is_whole, g (by decide +kernel), D_is_whole.kp, D_is_whole.bindsN fun _ _ _ _ _ _ us hl => match us, hl with | [_, _, _], _ => rfl⟩
    have c_Town : MakX P_k10 w K mg base 2 "Town" (gA K "Town") (spInit K (gA K "Town")) := ⟨_, _, _, He.mkr_ok (d.fact 57 (f := .mkr "Town") rfl), ok_init T D_init c_is_whole, g (by decide +kernel), D_init.bindsN fun _ _ _ _ _ _ us hl => match us, hl with | [_, _], _ => rfl⟩
    have c_build : MetX P_k10 w K mg base 2 (gA K "Town") "build" (spBuild K (gA K "Town")) := ⟨_, _, _, T.cl, He.meth_ok (d.fact 53 (f := .meth "Town" "build") rfl), ok_build T D_build c_is_whole, D_build.bindsN fun _ _ _ _ _ _ us hl => match us, hl with | [_, _, _], _ => rfl⟩
    have c_dig : MetX P_k10 w K mg base 2 (gA K "Town") "dig" (spDig K (gA K "Town")) := ⟨_, _, _, T.cl, He.meth_ok (d.fact 54 (f := .meth "Town" "dig") rfl), ok_dig T D_dig c_is_whole, D_dig.bindsN fun _ _ _ _ _ _ us hl => match us, hl with | [_, _], _ => rfl⟩
    have c_streets : MetX P_k10 w K mg base 1 (gA K "Town") "streets" (spStreets (gA K "Town")) := ⟨_, _, _, T.cl, He.meth_ok (d.fact 55 (f := .meth "Town" "streets") rfl), ok_streets T D_streets, D_streets.bindsN fun _ _ _ _ _ _ us hl => match us, hl with | [_], _ => rfl⟩
    have c_places : MetX P_k10 w K mg base 1 (gA K "Town") "places" (spPlaces (gA K "Town")) := ⟨_, _, _, T.cl, He.meth_ok (d.fact 56 (f := .meth "Town" "places") rfl), ok_places T D_places, D_places.bindsN fun _ _ _ _ _ _ us hl => match us, hl with | [_], _ => rfl⟩
    have c_law_mixed : CalX P_k10 w K mg base 1 "_law_mixed" spMixed := ⟨_, _, _, ok_mixed D_law_mixed, g (by decide +kernel), D_law_mixed.kp, D_law_mixed.bindsN fun _ _ _ _ _ _ us hl => match us, hl with | [_, _], _ => rfl⟩
    have c_law_seed : CalX P_k10 w K mg base 2 "_law_seed" (spSeed K) := ⟨_, _, _, ok_seed TL D_law_seed c_law_mixed, g (by decide +kernel), D_law_seed.kp, D_law_seed.bindsN fun _ _ _ _ _ _ us hl => match us, hl with | [_], _ => rfl⟩
    have c_law_ends : CalX P_k10 w K mg base 1 "_law_ends" spEnds := ⟨_, _, _, ok_ends TL D_law_ends, g (by decide +kernel), D_law_ends.kp, D_law_ends.bindsN fun _ _ _ _ _ _ us hl => match us, hl with | [_, _, _, _], _ => rfl⟩
    have c_law_pairs : CalX P_k10 w K mg base 4 "_law_pairs" (spPairs K) := ⟨_, _, _, (ok_pairs TL D_law_pairs c_law_mixed c_law_ends).mono (by decide), g (by decide +kernel), D_law_pairs.kp, D_law_pairs.bindsN fun _ _ _ _ _ _ us hl => match us, hl with | [_, _, _, _], _ => rfl⟩
    have c_law_many : CalX P_k10 w K mg base 2 "_law_many" spMany := ⟨_, _, _, ok_many TL D_law_many c_law_mixed, g (by decide +kernel), D_law_many.kp, D_law_many.bindsN fun _ _ _ _ _ _ us hl => match us, hl with | [_, _], _ => rfl⟩
    have c_law_made : CalX P_k10 w K mg base 4 "_law_made" (spMade (gA K "Town")) := ⟨_, _, _, ok_made TL D_law_made c_law_mixed c_Town c_build c_dig, g (by decide +kernel), D_law_made.kp, D_law_made.bindsN fun _ _ _ _ _ _ us hl => match us, hl with | [_, _, _], _ => rfl⟩
    have hu_law_told : ∀ q ∈ TT_ K, q.1 = (He.cT K ("_law_told", none)).2 → q.2 = ("_law_told.<locals>." : Str) ++ "<lambda>" := fun q hq e => by
      simp only [TT_, List.mem_cons, List.not_mem_nil, or_false] at hq
      rcases hq with h | h
      · rw [h]
      · rw [h] at e
        exact absurd e.symm nne
    have hu_law : ∀ q ∈ TT_ K, q.1 = (He.cT K ("law", none)).2 → q.2 = ("law.<locals>." : Str) ++ "<lambda>" := fun q hq e => by
      simp only [TT_, List.mem_cons, List.not_mem_nil, or_false] at hq
      rcases hq with h | h
      · rw [h] at e
        exact absurd e nne
      · rw [h]
    have n_build : MetN P_k10 w K mg base 2 (gA K "Town") "build" (spBuild K (gA K "Town")) := ⟨_, _, _, T.cl, He.meth_ok (d.fact 53 (f := .meth "Town" "build") rfl), ok_buildN T D_build c_is_whole, D_build.bindsN fun _ _ _ _ _ _ us hl => match us, hl with | [_, _, _], _ => rfl⟩
    have n_Town : MakN P_k10 w K mg base 2 "Town" (gA K "Town") (spInit K (gA K "Town")) := ⟨_, _, _, He.mkr_ok (d.fact 57 (f := .mkr "Town") rfl), ok_initN T D_init c_is_whole, g (by decide +kernel), D_init.bindsN fun _ _ _ _ _ _ us hl => match us, hl with | [_, _], _ => rfl⟩
    have n_number : CalN P_k10 w K mg base 1 "_number" (spNumber K) := ⟨_, _, _, ok_number TN D_number, g (by decide +kernel), D_number.kp, D_number.bindsN fun _ _ _ _ _ _ us hl => match us, hl with | [_], _ => rfl⟩
    have n_two_words : CalN P_k10 w K mg base 1 "_two_words" (spTwo K) := ⟨_, _, _, ok_two TN D_two_words, g (by decide +kernel), D_two_words.kp, D_two_words.bindsN fun _ _ _ _ _ _ us hl => match us, hl with | [_], _ => rfl⟩
    have n_town_of : CalN P_k10 w K mg base 4 "_town_of" (spTownOf K (gA K "Town")) := ⟨_, _, _, ok_town_of TN D_town_of n_number n_two_words n_Town n_build, g (by decide +kernel), D_town_of.kp, D_town_of.bindsN fun _ _ _ _ _ _ us hl => match us, hl with | [_], _ => rfl⟩
    have c_read : CalX P_k10 w K mg base 5 "read" (spRead K (gA K "Town")) := ⟨_, _, _, ok_read TR D_read n_town_of, g (by decide +kernel), D_read.kp, D_read.bindsN fun _ _ _ _ _ _ us hl => match us, hl with | [_], _ => rfl⟩
    have c_written : CalX P_k10 w K mg base 3 "written" (spWritten (gA K "Town")) := ⟨_, _, _, ok_written D_written c_places c_streets, g (by decide +kernel), D_written.kp, D_written.bindsN fun _ _ _ _ _ _ us hl => match us, hl with | [_], _ => rfl⟩
    have c_law_text : CalX P_k10 w K mg base 1 "_law_text" spLawText := ⟨_, _, _, ok_law_text TN D_law_text, g (by decide +kernel), D_law_text.kp, D_law_text.bindsN fun _ _ _ _ _ _ us hl => match us, hl with | [_, _], _ => rfl⟩
    have c_law_number : CalX P_k10 w K mg base 1 "_law_number" spLawNumber := ⟨_, _, _, ok_law_number T10 D_law_number, g (by decide +kernel), D_law_number.kp, D_law_number.bindsN fun _ _ _ _ _ _ us hl => match us, hl with | [_], _ => rfl⟩
    have c_law_read : CalX P_k10 w K mg base 2 "_law_read" spLawRead := ⟨_, _, _, ok_law_read T10 D_law_read c_law_number, g (by decide +kernel), D_law_read.kp, D_law_read.bindsN fun _ _ _ _ _ _ us hl => match us, hl with | [_], _ => rfl⟩
    have c_law_bent : CalX P_k10 w K mg base 1 "_law_bent" spLawBent := ⟨_, _, _, ok_law_bent T10 D_law_bent, g (by decide +kernel), D_law_bent.kp, D_law_bent.bindsN fun _ _ _ _ _ _ us hl => match us, hl with | [_, _], _ => rfl⟩
    have c_law_told : CalX P_k10 w K mg base 11 "_law_told" (spTold (gA K "Town") (TT_ K)) := ⟨_, _, _, ok_law_told T10 TW D_law_told D_law_word (g (by decide +kernel)) (tb _ (by decide +kernel)) (by simp [TT_]) hu_law_told c_read c_places c_streets, g (by decide +kernel), D_law_told.kp, D_law_told.bindsN fun _ _ _ _ _ _ us hl => match us, hl with | [_], _ => rfl⟩
    have c_law_right : CalX P_k10 w K mg base 12 "_law_right" (spRight (TT_ K)) := ⟨_, _, _, ok_law_right T10 D_law_right c_law_read c_law_told, g (by decide +kernel), D_law_right.kp, D_law_right.bindsN fun _ _ _ _ _ _ us hl => match us, hl with | [_], _ => rfl⟩
    exact ok_law TLw TW D_law D_law_word (g (by decide +kernel)) (tb _ (by decide +kernel)) (by simp [TT_]) hu_law c_law_mixed c_law_seed c_law_many c_law_pairs c_law_made c_law_text c_written c_law_right c_law_bent c_read c_places c_build c_streets
end
end K10

set_option Elab.async false
set_option linter.all false
set_option maxRecDepth 100000
set_option maxHeartbeats 4000000
namespace K10
open PySem PySem.Spec PyProof.Rows L2 Own
end K10
open PySem PySem.W PySem.Calls PyProof.Rows
theorem PySem.Challenge.cw_onewaytown_k10_towns_written_holds : PySem.Challenge.rw_onewaytown_k10_towns_written.Holds := by
  w_on; o_law
  refine HandSHeadRun.head_any (r := OpenLaw.row PySem.Challenge.rw_onewaytown_k10_towns_written) (q := view (OpenLaw.row PySem.Challenge.rw_onewaytown_k10_towns_written).prog [35]) (H := K10.hk) (ob := K10.ob) (M := 6000) (loose := K10.looseNames) (d := HandSHeadRun.topDef (OpenLaw.row PySem.Challenge.rw_onewaytown_k10_towns_written).prog 35) (kwd := []) K10.ob_eq
    (by kernel_rfl) (fun s => by kernel_rfl) K10.run (by kernel_rfl) (by kernel_rfl) (by kernel_rfl) (by rfl) (by first | assumption | decide +kernel) (by decide +kernel) ⟨rfl, rfl, rfl, rfl, rfl, by decide +kernel⟩ ?hw ?hc
  case hw => w_witness2
  case hc =>
    refine LamX.walk_ofTsE (l := PySem.Challenge.rw_onewaytown_k10_towns_written) (n := 63) (k := 14) (x := "_law_script") (CX := fun w => L2.CX K10.P_k10 w) rfl (by decide) (by kernel_rfl) ⟨rfl, by decide, by decide⟩ ?F (fun w H s e s' z => by
      obtain ⟨_, _, _, _, _, _, _, _, _, _, _, _, q⟩ := z
      exact q)
    intro w mg fa h Y G hmg0
    obtain ⟨K, KX, c⟩ := Y
    have hmg : mg ("law" : PySem.Str) = some (.ref fa) := by
      have e : (HandSHeadRun.topDef (OpenLaw.row PySem.Challenge.rw_onewaytown_k10_towns_written).prog 35).name = ("law" : PySem.Str) := by kernel_rfl
      rw [← e]
      exact hmg0
    exact ⟨K, KX, K10.law_at KX G hmg c⟩

