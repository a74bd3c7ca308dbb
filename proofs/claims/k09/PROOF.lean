import PyProof.Rows.All
import Wide.All
import OpenK.AllK
import Wide.FinOn
import PyProof.TypeEq
import PyProof.TypeOfCall
import HandS.ForMost
import HandS.ForExc
import HandS.Lambda
import HandS.Codes
import HandS.Deep
import HandS.IsInst
import HandS.ExcIs
import HandS.ExcValue
import HandS.More
import HandS.Defaults
import HandS.Walk
import HandS.HeadHook4
import HandS.HeadWalk
import HandS.Head2
import PyProof.Rows.SeqMore
import KE.KExcSuper
import KE.KSuper
import HandS.ExcSuper
import HandS.ExcInit
import HandS.ExcField
import PyProof.InstNe
import HandS.Conv
import PySem.Challenge.RW_onewaytown_k09_towns_refused
set_option Elab.async false
set_option linter.all false
set_option maxRecDepth 100000
set_option maxHeartbeats 4000000
/-! Rules of our own, law-independent: products of script numbers, type(x) == int, an exception kept behind its except clause. -/
namespace Own
open PySem PySem.Spec PyProof.Rows L2
/-! ### products of numbers of a million bits and more -/
def CMulG (i j : Int) : Prop := i.natAbs.log2 + j.natAbs.log2 < 100000000
theorem CMulG.fits {i j : Int} (h : CMulG i j) : IntMulOk i j := by
  have bits : ∀ x : Int, Builtin.Int.intBits x ≤ x.natAbs.log2 + 1 := by
    intro x
    unfold Builtin.Int.intBits
    split <;> omega
  have hi := bits i
  have hj := bits j
  have hs : i.natAbs.log2 + j.natAbs.log2 < 100000000 := h
  have line : bitsLine = 134217728 := by decide
  unfold IntMulOk
  intro big
  rw [Bool.and_eq_true] at big
  have over := big.2
  unfold Builtin.Int.intTooBig at over
  have over2 := of_decide_eq_true over
  rw [line] at over2
  omega
section
variable {X : Cx}
theorem op_mulG : OpR X (binaryOp .Mult) (rI CMulG fun i j => .int (i * j)) :=
  opI fun _ _ _ _ _ _ _ hc q => mul_int q hc.fits
/-! ### type(x), and types compared -/
/-- the name of a thing's kind, where it is one of the kinds that a script's program hands around -/
def tyName : V → Hp → Option String
  | .non, _ => "NoneType"
  | .bl _, _ => "bool"
  | .int _, _ => "int"
  | .str _, _ => "str"
  | .ref p, H => match H p with
    | some (.lst _) | some (.frz _ (.lst _)) => "list"
    | some (.tup _) => "tuple"
    | some (.dK _) => "dict"
    | _ => none
  | _, _ => none
/-- what the name says, in the library's own words of kinds -/
theorem tyName_is (K : PySem.W.Frag) : ∀ {x : V} {H : Hp} {n : String}, tyName x H = some n → TyB K H x n
  | .non, _, _, rfl => .non
  | .bl b, _, _, rfl => .bl b
  | .int i, _, _, rfl => .int i
  | .str z, _, _, rfl => .str z
  | .ref p, H, n, e => by
    unfold tyName at e
    dsimp only at e
    split at e <;> cases e
    · exact .lst (.of ‹_›)
    · exact .lst (.inl (.inr ⟨_, ‹_›⟩))
    · exact .tup (.of ‹_›)
    · exact .dK ‹_›
theorem call_tyOf : CallR X (.type "type") (fun xs H Q => ∃ x n, xs = [x] ∧ tyName x H = some n ∧ Q (.ty n) H) :=
  fun pins s σ H xs us Q I r ⟨x, n, one, e, q⟩ => call_type1 pins s σ H xs us Q I r ⟨x, n, one, tyName_is X.K e, q⟩
/-- the kind n is itself of the kind of kinds -/
def metaOk (n : String) : Prop := ∀ s' : Shared, s'.TypeIs (.type n) "type"
theorem meta_all : metaOk "NoneType" ∧ metaOk "bool" ∧ metaOk "int" ∧ metaOk "str" ∧ metaOk "list" ∧ metaOk "tuple" ∧ metaOk "dict" :=
  open PySem.TypeEq in ⟨meta_NoneType, meta_bool, meta_int, meta_str, meta_list, meta_tuple, meta_dict⟩
theorem tyName_meta {x : V} {H : Hp} {n : String} (e : tyName x H = some n) : metaOk n := by
  obtain ⟨m1, m2, m3, m4, m5, m6, m7⟩ := meta_all
  unfold tyName at e
  (split at e <;> try split at e) <;> cases e <;> assumption
theorem op_eqTy : OpR X (compareOp .Eq) (fun x y H Q => ∃ m n, x = .ty m ∧ y = .ty n ∧ metaOk m ∧ metaOk n ∧ Q (.bl (decide (m = n))) H) := by
  rintro pins s σ H _ _ a b Q I ra rb ⟨m, n, rfl, rfl, hm, hn, q⟩
  obtain rfl : a = .type m := ra
  obtain rfl : b = .type n := rb
  have same := ty_beq m n
  cases e : (Value.type m == Value.type n) <;> rw [e] at same <;> rw [← same] at q
  · exact PySem.TypeEq.eq_type_other hm hn e (fin_bl I q rfl)
  · cases of_decide_eq_true same.symm
    exact PySem.TypeEq.eq_type_same hm (fin_bl I q rfl)
end
end Own

set_option Elab.async false
set_option linter.all false
set_option maxRecDepth 100000
set_option maxHeartbeats 4000000
/-! An exception that stays known behind the except clause that caught it: caught = e. -/
namespace Own
open PySem PySem.Spec PyProof.Rows L2
/-! ### a record, told in one -/
/-- at a stands the record o with the fields vs -/
structure RecAt (h : Heap) (a : Addr) (o : Obj) (vs : Array Value) : Prop where
  at_ : h.get? a = some o
  fl : o.data = .fields vs
/-- at a stands an exception object of the class cls, its own dict d -/
def ExK (cls : Value) (d : Option Addr) (a : Addr) : HO := .ext fun h => ∃ (ob : Obj) (vals : Array Value), h.get? a = some ob ∧ Zc cls d ob ∧ ob.data = .fields vals
section
variable {X : Cx} {pins : List (Addr × Obj)} {σ : L2.St} {H : Hp} {s : Shared}
theorem exK_there {P : Program} {w : World} {h : Heap} {cls : Value} {d : Option Addr} {a : Addr} (hok : HOk P w H h) (e : H a = some (ExK cls d a)) :
    ∃ (ob : Obj) (vals : Array Value), h.get? a = some ob ∧ Zc cls d ob ∧ ob.data = .fields vals :=
  (show ObjOk P w H h a (.ext fun h => ∃ (ob : Obj) (vals : Array Value), h.get? a = some ob ∧ Zc cls d ob ∧ ob.data = .fields vals) from hok a _ e).1
/-- a is none of what the def around leans on -/
structure Fresh (X : Cx) (pins : List (Addr × Obj)) (a : Addr) : Prop where
  entry : ∀ b o, X.s_0.heap.get? b = some o → b ∉ X.ex → b ≠ a
  frame : X.env.locals ≠ a
  cells : ∀ x c, X.env.cells.lookup x = some c → c ≠ a
  pins : ∀ p ∈ X.pn ++ pins, p.1 ≠ a
/-- so is each place that is not there yet -/
theorem Fresh.of {a : Addr} (I : Inv X pins σ H s) (absent : s.heap.get? a = none) : Fresh X pins a := by
  have not : ∀ {b o}, s.heap.get? b = some o → b ≠ a := fun e z => by cases absent.symm.trans ((congrArg s.heap.get? z).symm.trans e)
  refine ⟨fun b o e out => (I.base.there b o e out).elim fun _ q => not q, ?_, fun x c e => ?_, fun p hp => not (I.pin p hp).1⟩
  · obtain ⟨_, ⟨_, _, _, q, _⟩, _⟩ := I.loc
    exact not q
  · obtain ⟨_, _, q, _⟩ := I.cell x c e
    exact not q
/-- what stands at such a place, untracked so far, is tracked from now on -/
theorem track {a : Addr} {u : HO} (I : Inv X pins σ H s) (un : H a = none) (f : Fresh X pins a) (is : ObjOk X.prog X.w (upd H a u) s.heap a u) : Inv X pins σ (upd H a u) s := by
  have still : ∀ {b o}, H b = some o → upd H a u b = some o := fun e => (upd_ne (ne_of_none e un)).trans e
  have off : ∀ {b}, b ≠ a → H b = none → upd H a u b = none := fun n e => (upd_ne n).trans e
  refine ⟨I.ok, I.os, I.bare, ⟨I.base.keep, I.base.slot, fun b o e n out => off (f.entry b o e out) (I.base.free b o e n out), I.base.there, fun b xs e => still (I.base.tups b xs e), fun b o v e => still (I.base.frzs b o v e), fun b ps e => ?_⟩,
    I.loc, I.cell, off f.frame I.free, fun x c e => off (f.cells x c e) (I.freeC x c e), fun p hp => ?_, fun b o e => ?_, I.len⟩
  · obtain ⟨more, z⟩ := I.base.tbls b ps e
    exact ⟨more, still z⟩
  · obtain ⟨p1, p2, rest⟩ := I.pin p hp
    exact ⟨p1, off (f.pins p hp) p2, rest⟩
  · rcases Decidable.em (b = a) with rfl | n
    · cases upd_same.symm.trans e
      exact is
    · rw [upd_ne n] at e
      exact (I.hok b o e).stay (fun _ _ _ q => q) (fun _ q => still q) fun _ _ q => still q
/-- what such a clause wishes of an exception of its body: slot i the clause's name, slot j the keeper -/
def wKept (K : PySem.W.Frag) (c : Value) (fin : L2.St → Addr → L2.St) (out : WX) (D : Ends) : WX := fun cls d σ H =>
  ∃ hit, PySem.W.exmOne K cls c = some hit ∧ (hit = true → ∀ a, H a = none → D.nx (fin σ a) (upd H a (ExK cls d a))) ∧ (hit = false → out cls d σ H)
/-- the slots behind the clause, or less of them -/
def Less (n i j : Nat) (fin : L2.St → Addr → L2.St) : Prop := ∀ (σ : L2.St) (a : Addr), σ.length = n → (fin σ a).length = n ∧ ∀ (k : Nat) (v : V), (fin σ a)[k]? = some (some v) → (((σ.set i (some (.ref a))).set j (some (.ref a))).set i none)[k]? = some (some v)
def allOf (i j : Nat) : L2.St → Addr → L2.St := fun σ a => ((σ.set i (some (.ref a))).set j (some (.ref a))).set i none
theorem allOf_less {n i j : Nat} : Less n i j (allOf i j) := fun σ a h => ⟨by unfold allOf; simpa using h, fun _ _ e => e⟩
/-- the keeper alone -/
def oneOf (n j : Nat) : L2.St → Addr → L2.St := fun _ a => (List.replicate n none).set j (some (.ref a))
theorem oneOf_less {n i j : Nat} (hij : i ≠ j) : Less n i j (oneOf n j) := fun σ a h => by
  refine ⟨by unfold oneOf; simp, fun k v e => ?_⟩
  unfold oneOf at e
  by_cases hk : k = j
  · subst hk
    have lt : k < n := by
      have z := (List.getElem?_eq_some_iff.mp e).1
      simpa using z
    rw [List.getElem?_set_self (by simpa using lt)] at e
    rw [List.getElem?_set_ne hij, List.getElem?_set_self (by simpa [h] using lt)]
    exact e
  · rw [List.getElem?_set_ne (Ne.symm hk)] at e
    rw [List.getElem?_replicate] at e
    split at e <;> simp at e
end
section
variable {prog : Program} {w : World} {h : Heap} {a : Addr} {o : Obj} {vs : Array Value}
theorem RecAt.ty (r : RecAt h a o vs) : PySem.W.Looks (model prog w) h (typeOf (.ref a)) o.cls := fun _ _ _ _ keep q => wpAny_typeOf_ref (keep a o r.at_) q
end
/-! ### records off the frames -/
theorem RecAt.off {B h : Heap} {l : List Env} {a : Addr} {o : Obj} {vs : Array Value} (r : RecAt h a o vs) (ff : h.FunFrames B l) : a ∉ frs l := fun hm => by
  obtain ⟨_, o2, e, no⟩ := ff.mem hm
  cases r.at_.symm.trans e
  exact no vs r.fl
/-- what a pin says of p -/
def PinFacts (X : Cx) (H : Hp) (s : Shared) (p : Addr × Obj) : Prop := s.heap.get? p.1 = some p.2 ∧ H p.1 = none ∧ p.1 ≠ X.env.locals ∧ p.1 ∉ X.fs ∧ ∀ v, p.2.data ≠ .cell v
theorem RecAt.pin {X : Cx} {H : Hp} {s : Shared} {a : Addr} {o : Obj} {vs : Array Value} (r : RecAt s.heap a o vs) (un : H a = none) (hf : X.env.frame = some X.env.locals) (off : a ∉ frs (X.env :: X.outer)) : PinFacts X H s (a, o) := by
  refine ⟨r.at_, un, fun z => off ?_, fun hm => off ?_, fun v z => ?_⟩
  · exact List.mem_filterMap.mpr ⟨X.env, List.mem_cons_self, by rw [hf, ← z]⟩
  · obtain ⟨en, he, q⟩ := List.mem_filterMap.mp hm
    exact List.mem_filterMap.mpr ⟨en, List.mem_cons_of_mem _ he, q⟩
  · exact nomatch r.fl.symm.trans z
/-! ### a try's body, as the def around sees it -/
section
variable {X : Cx} {pins pn : List (Addr × Obj)} {xe : Value → Shared → Prop} {D : Ends} {Wout : WX}
theorem body_out (ok : X.Ok) : ∀ {f : Flow} {s : Shared}, SP (X.tr (X.pn ++ pins) xe) pn D f s → SP X pins D f s
  | .next, _, ⟨_, _, J, q⟩ => ⟨_, _, Inv.ofTry J ok, q⟩
  | .brk, _, ⟨_, _, J, q⟩ => ⟨_, _, Inv.ofTry J ok, q⟩
  | .cont, _, ⟨_, _, J, q⟩ => ⟨_, _, Inv.ofTry J ok, q⟩
  | .ret _, _, ⟨_, _, _, J, rel, q⟩ => ⟨_, _, _, Inv.ofTry J ok, rel, q⟩
/-- the name of a clause's class, read where the exception a is handled -/
theorem clause_name {x : Str} {c : Value} {np : Pos} {a : Addr} {σ : L2.St} {H : Hp} {s : Shared} {Q E : Value → Shared → Prop} (is : Names X x c) (S : Inv (X.suite a pn) pins σ H s) (q : Q c s) :
    wpAny (model X.prog X.w) (X.A.mark (some (.ref a))) (eval (.Name x np) X.env) Q E s := by
  rcases is with ⟨glob, dbg, own | ⟨hidden, built, noName⟩⟩
  · exact ld_glob (X := X.suite a pn) S glob own q dbg
  · exact ld_blt (X := X.suite a pn) S glob hidden built q noName dbg
/-- what no clause names flies on -/
theorem flies_by {B : Heap} {sI s' : Shared} {ps pins : List (Addr × Obj)} {σ : L2.St} {H : Hp} {a : Addr} {cls : Value} {d : Option Addr} {D : Ends} (hs : X.stack = X.env :: X.outer) (hf : X.env.frame = some X.env.locals) (tk : Takes X Wout) (J : Inv X ps σ H sI)
    (ground : ∀ b u, sI.heap.get? b = some u → b ∉ frs X.stack → B.get? b = some u) (upto : sI.heap.UpToSlots s'.heap) (fl : HandSPX.FlyingZ B (X.env :: X.outer) a (Zc cls d) s'.heap) (un : H a = none) (os : s'.os = sI.os) (bare : AllBare s'.gens) (wish : Wout cls d σ H) :
    wpAny (model X.prog X.w) X.A (handleBy (.ref a) X.env []) (SP X pins D) X.xe s' := by
  obtain ⟨_, _, _, o, vs, T, oT, ts, at_, _, rec, traced, _⟩ := id fl
  have end_ : wpAny (model X.prog X.w) X.A (setFlight (.ref a) X.env.frame) (fun _ s2 => wpAny (model X.prog X.w) X.A (throw (.ref a) : Sem Flow) (SP X pins D) X.xe s2) X.xe s' := by
    rw [hf]
    refine HandSPX.setFlight_upZ fl fun h2 held up2 => wpAny_throw (tk _ _ ⟨a, B, sI, ps, σ, H, cls, d, rfl, J, ground, upto.trans up2, .inr (.inr ?_), un, os, bare, wish⟩)
    rw [hs]
    exact held
  refine wpAny_handleBy_nil ?_
  unfold PySem.passOn
  refine wpAny_bind (wpAny_field at_ rec traced ?_)
  rw [if_neg (fun z => by simp at z)]
  first
    | exact wpAny_bind (wpAny_pure (wpAny_bind end_))
    | exact wpAny_bind end_
end
/-- what flies in from the body was not there ahead of it -/
theorem first_seen {X : Cx} {pins : List (Addr × Obj)} {σ : L2.St} {H : Hp} {s : Shared} {B : Heap} {a : Addr} (J : Inv X pins σ H s) (hx : X.ex = []) (ground : ∀ b o, s.heap.get? b = some o → b ∉ frs X.stack → B.get? b = some o) (anew : B.get? a = none) (off : a ∉ frs X.stack) :
    X.s_0.heap.get? a = none ∧ ∀ p ∈ X.pn ++ pins, p.1 ≠ a := by
  have absent : ∀ o, s.heap.get? a ≠ some o := fun o q => nomatch anew.symm.trans (ground a o q off)
  refine ⟨?_, fun p hp z => absent p.2 (z ▸ (J.pin p hp).1)⟩
  cases q : X.s_0.heap.get? a with
  | none => rfl
  | some o =>
    obtain ⟨_, z⟩ := J.base.there a o q (by rw [hx]; exact List.not_mem_nil)
    exact absurd z (absent _)
/-! ### caught = e -/
section
variable {X : Cx} {x n y : Str} {c : Value} {i j : Nat} {body : List Stmt} {np py pn2 pos pos' pos2 : Pos} {tb : WX → TS} {out : WX} {fin : L2.St → Addr → L2.St}
/-- the suite y = n, the exception in slot i: in slot j too, then the clause's name is gone, and the object is known -/
theorem keep_it {a : Addr} {o : Obj} {vs : Array Value} {cls : Value} {d : Option Addr} {pins : List (Addr × Obj)} {σ : L2.St} {H : Hp} {s : Shared} {Q : Flow → Shared → Prop} {E : Value → Shared → Prop} (ok : X.Ok) (hN : X.N.Nodup) (hi : X.N[i]? = some n) (hln : X.env.kindOf n = some .local) (hj : X.N[j]? = some y) (hlj : X.env.kindOf y = some .local)
    (hd1 : (n == ("__debug__" : Str)) = false) (hd2 : (n == ("__classdict__" : Str)) = false) (S : Inv (X.suite a ((a, o) :: (X.pn ++ pins))) [] (σ.set i (some (.ref a))) H s) (kind : Zc cls d o) (rec : o.data = .fields vs) (un : H a = none)
    (new : X.s_0.heap.get? a = none) (nL : a ≠ X.env.locals) (npin : ∀ p ∈ X.pn ++ pins, p.1 ≠ a) (there : i < σ.length)
    (go : ∀ s', Inv X pins ((σ.set i (some (.ref a))).set j (some (.ref a))) (upd H a (ExK cls d a)) s' → Q .next s') :
    wpAny (model X.prog X.w) (X.A.mark (some (.ref a))) (execs [.Assign [.Name y py] (.Name n pn2) pos2] X.env) Q E s := by
  have suite : PSs (X.suite a ((a, o) :: (X.pn ++ pins))) [.Assign [.Name y py] (.Name n pn2) pos2] (tAsg (tVar i) (gName j)) :=
    pss_one (ps_asg (pe_var hi (.inl hln) hd1 hd2) (pg_name hN hj (.inl hlj) (.inr hlj)))
  have read : (σ.set i (some (V.ref a)))[i]? = some (some (.ref a)) := List.getElem?_set_self there
  refine wpAny_mono (suite.run [] s _ H { nx := fun σ' H' => σ' = (σ.set i (some (V.ref a))).set j (some (V.ref a)) ∧ H' = H, rt := fun _ _ => False } S ⟨.ref a, read, rfl, rfl⟩) (fun f s' told => ?_) fun _ _ z => False.elim z
  match f, told with
  | .next, ⟨_, _, S', e1, e2⟩ =>
    subst e1 e2
    have at_ := (S'.pin (a, o) (List.mem_append_left _ (List.mem_cons_self ..))).1
    have J := S'.unsuite ok
    have ncell : ∀ x c, X.env.cells.lookup x = some c → c ≠ a := by
      rintro x c e rfl
      obtain ⟨_, _, is, cel⟩ := J.cell x c e
      cases at_.symm.trans is
      exact nomatch rec.symm.trans cel
    exact go s' (track J un ⟨fun b _ e _ z => (by cases new.symm.trans ((congrArg X.s_0.heap.get? z).symm.trans e)), nL.symm, ncell, npin⟩ ⟨⟨o, vs, at_, kind, rec⟩, ⟨o, at_⟩, fun _ _ ⟨o1, v1, q1, q2⟩ k => ⟨o1, v1, k o1 q1, q2⟩⟩)
  | .brk, ⟨_, _, _, z⟩ => exact z.elim
  | .cont, ⟨_, _, _, z⟩ => exact z.elim
  | .ret _, ⟨_, _, _, _, _, z⟩ => exact z.elim
/-- try: body / except x as n: y = n -/
theorem ps_try_kept (hs : X.stack = X.env :: X.outer) (hf : X.env.frame = some X.env.locals) (hN : X.N.Nodup) (hi : X.N[i]? = some n) (hln : X.env.kindOf n = some .local) (hj : X.N[j]? = some y) (hlj : X.env.kindOf y = some .local) (hc : Names X x c) (hx : X.ex = []) (less : Less X.N.length i j fin) (tk : Takes X out)
    (hb : ∀ (W : WX) (pn : List (Addr × Obj)) (xe : Value → Shared → Prop), Takes (X.tr pn xe) W → PassesOwn (model X.prog X.w) X.A X.env xe → PSs (X.tr pn xe) body (tb W))
    (hd1 : (n == ("__debug__" : Str)) = false := by decide) (hd2 : (n == ("__classdict__" : Str)) = false := by decide) :
    PS X (.Try body [.ExceptHandler (some (.Name x np)) (some n) [.Assign [.Name y py] (.Name n pn2) pos2] pos'] [] [] pos) (fun D σ H => tb (wKept X.K c fin out D) D σ H) := by
  refine ⟨fun pins s σ H D I wish => wpAny_Try_except ?_⟩
  have ok := I.ok
  have run := hb (wKept X.K c fin out D) (X.pn ++ pins) (fun e s1 => wpAny (model X.prog X.w) X.A (noteFrame e X.env) (fun _ s2 => wpAny (model X.prog X.w) X.A (setFlight e none) (fun _ s3 =>
    wpAny (model X.prog X.w) X.A (handleBy e X.env [.ExceptHandler (some (.Name x np)) (some n) [.Assign [.Name y py] (.Name n pn2) pos2] pos']) (SP X pins D) X.xe s3) X.xe s2) X.xe s1) ?caught PassesOwn.looking
  case caught =>
    rintro _ s' ⟨a, B, sI, ps', σ', H', cls, d, rfl, J0, ground, upto, sky, un, os, bare, hit, names, yes, no⟩
    have J : Inv X pins σ' H' sI := Inv.ofTry J0 ok
    rw [show (X.tr (X.pn ++ pins) _).stack = X.env :: X.outer from hs] at sky
    refine Sky.land (s := s') Zc.steady (ok.frames.trans (congrArg some hs)) hf sky fun h3 fl3 up3 => ?_
    obtain ⟨o3, v3, at3, kind3, rec3⟩ := fl3.there
    have off := RecAt.off ⟨at3, rec3⟩ fl3.2.2.1
    obtain ⟨_, _, nL, nF, _⟩ := RecAt.pin (s := { s' with heap := h3 }) ⟨at3, rec3⟩ un hf off
    obtain ⟨new, npin⟩ := first_seen J hx ground fl3.2.1 (by rw [hs]; exact off)
    have S3 := (J.landed (s' := { s' with heap := h3 }) ground fl3.1 (upto.trans up3) os bare).suite at3 rec3 un nL nF
    have isOf := RecAt.ty (prog := X.prog) (w := X.w) (h := h3) ⟨at3, rec3⟩
    rw [kind3.1] at isOf
    refine wpAny_handleBy_cons (codeAny_handlers_test (clause_name hc S3 ((PySem.W.exm_one (M := model X.prog X.w) S3.kIn isOf names).here ?_))) (fun z => nomatch z)
    cases hit with
    | false => exact flies_by (s' := { s' with heap := h3 }) hs hf tk J ground (upto.trans up3) fl3 un os bare (no rfl)
    | true =>
      refine codeAny_handlers_suite_as (HandSPX.lands_againZ fl3 fun h4 fl4 up4 => ?_)
      obtain ⟨o4, v4, at4, kind4, rec4⟩ := fl4.there
      have S4 := (J.landed (s' := { s' with heap := h4 }) ground fl4.1 ((upto.trans up3).trans up4) os bare).suite at4 rec4 un nL nF
      have room : i < σ'.length := J.len ▸ (List.getElem?_eq_some_iff.mp hi).1
      refine store_ok (X := X.suite a ((a, o4) :: (X.pn ++ pins))) (v := .ref a) S4 hN hi (.inl hln) rfl (fun s5 S5 => ?_) (.inr hln)
      refine keep_it ok hN hi hln hj hlj hd1 hd2 S5 kind4 rec4 un new nL npin room fun s6 known => ?_
      obtain ⟨long, less'⟩ := less σ' a J.len
      exact gone_ok known hN hi hln fun s7 J7 => ⟨_, _, J7.weak (by rw [long, ← J.len, List.length_set, List.length_set, List.length_set]) less', yes rfl a un⟩
  refine wpAny_mono (run.run [] s σ H D (I.toTry _) wish) (fun f s1 told => ?_) fun _ _ z => z
  cases f with
  | next => exact wpAny_execs_nil (body_out ok told)
  | _ => exact body_out ok told
end
/-! ### isinstance of such an exception -/
section
variable {X : Cx}
/-- isinstance(e, C), e an exception without a dict of its own -/
def rIsK (K : PySem.W.Frag) : List V → Hp → VK → Prop := fun xs H Q => ∃ (a D : Addr) (c : V) (cv : Value) (b : Bool), xs = [.ref a, c] ∧ H a = some (ExK (.ref D) none a) ∧ ExcC K D ∧ (∀ u, RelV c u → u = cv) ∧ PySem.W.kitOne K (.ref D) cv = some b ∧ Q (.bl b) H
theorem ref_and {a : Addr} {c : V} : ∀ {us : List Value}, Vals [.ref a, c] us → ∃ u, us = [.ref a, u] ∧ RelV c u
  | _, .cons rfl (.cons rc .nil) => ⟨_, rfl, rc⟩
/-- one without a dict of its own, as an instance -/
theorem exK_bare {D a : Addr} {h : Heap} {P : Program} {w : World} (hok : HOk P w H h) (ea : H a = some (ExK (.ref D) none a)) : ∃ ob, PySem.W.InstAt h a ob D none := by
  obtain ⟨⟨_, _, _, _⟩, _, there, ⟨rfl, rfl, _⟩, rfl⟩ := exK_there hok ea
  exact ⟨_, there, rfl, rfl, trivial⟩
theorem call_isK : CallR X (.builtin "isinstance") (rIsK X.K) := by
  rintro pins s σ H _ us Q I r ⟨a, D, c, cv, b, rfl, ea, C, one, told, q⟩
  obtain ⟨u, rfl, ru⟩ := ref_and r
  obtain rfl := one u ru
  obtain ⟨ob, inst⟩ := exK_bare I.hok ea
  have kit := PySem.W.handS_kitx_exc (x := a) (ox := ob) C.hg C.hk C.hs C.hd C.ha C.hn C.ht C.hm
  exact PySem.W.kia_one kit I.kIn inst told (fun z => nomatch z) fun tk => fin_bl (I.tok tk) q rfl
/-- isinstance(x, C), x None or such an exception -/
theorem call_isBoth : CallR X (.builtin "isinstance") (fun xs H Q => rIsi X.K xs H Q ∨ rIsK X.K xs H Q) :=
  fun pins s σ H xs us Q I r h => h.elim (call_isi pins s σ H xs us Q I r) (call_isK pins s σ H xs us Q I r)
end
end Own

set_option Elab.async false
set_option linter.all false
set_option maxRecDepth 100000
set_option maxHeartbeats 4000000
/-! Callees as one thing: a def of the module, a method, a class that is made; those that may raise. -/
namespace Own
open PySem PySem.Spec PyProof.Rows L2
abbrev EF : XK := fun _ _ _ => False
theorem passF {P : Program} {w : World} {X : Cx} : Passes (L2.CX P w) X EF := fun _ _ _ _ _ _ _ c => by
  obtain ⟨_, _, _, _, _, _, _, _, _, _, _, _, z⟩ := c
  exact z.elim
section
variable (P : Program) (w : World) (K : PySem.W.Frag) (mg : Str → Option Value) (base : Heap)
structure CalX (k : Nat) (x : Str) (sp : Sp) : Prop where
  ex : ∃ (f : Addr) (fd : FuncData) (ps : List Str), FnOk P w K mg base (L2.CX P w) k f fd ps sp ∧ mg x = some (.ref f) ∧ PySem.W.keepIn K (.ref f) = true ∧ Binds K fd ps []
structure MetX (k : Nat) (C : Addr) (m : Str) (sp : Sp) : Prop where
  ex : ∃ (f : Addr) (fd : FuncData) (ps : List Str), Cls K C ∧ Meth K C m f ∧ FnOk P w K mg base (L2.CX P w) k f fd ps sp ∧ Binds K fd ps []
structure MakX (k : Nat) (x : Str) (C : Addr) (sp : Sp) : Prop where
  ex : ∃ (f : Addr) (fd : FuncData) (ps : List Str), Mk K C f ∧ FnOk P w K mg base (L2.CX P w) k f fd ps sp ∧ mg x = some (.ref C) ∧ Binds K fd ps []
end
/-- a def that lets nothing out, as one that may -/
theorem lift0 {P : Program} {w : World} {K : PySem.W.Frag} {mg : Str → Option Value} {base : Heap} {k : Nat} {f : Addr} {fd : FuncData} {ps : List Str} {sp : Sp} (F : FnOk P w K mg base CX0 k f fd ps sp) : FnOk P w K mg base (L2.CX P w) k f fd ps sp := by
  refine ⟨F.len, fun A outer s H args us vs Q E hr e0 hb hv h => codeAny_mono (F.run A outer s H args us vs Q E hr e0 hb hv h) fun r s' hq => ?_⟩
  cases r with
  | error e => exact (show False from hq).elim
  | ok fl =>
    cases fl with
    | ret u => exact hq
    | next => exact (show False from hq).elim
    | brk => exact (show False from hq).elim
    | cont => exact (show False from hq).elim
end Own

set_option Elab.async false
set_option linter.all false
set_option maxRecDepth 100000
set_option maxHeartbeats 4000000
/-! Lists of tuples in the heap; numbers as whole numbers of a range. -/
namespace Own
open PySem PySem.Spec PyProof.Rows L2
theorem tyName_int {x : V} {H : Hp} (e : tyName x H = some "int") : ∃ i, x = .int i := by
  have no : ∀ {n : String}, n ≠ "int" → some n = some "int" → False := fun h z => h (Option.some.inj z)
  cases x with
  | int i => exact ⟨i, rfl⟩
  | ref p =>
    simp only [tyName] at e
    split at e
    · exact (no (by decide) e).elim
    · exact (no (by decide) e).elim
    · exact (no (by decide) e).elim
    · exact (no (by decide) e).elim
    · cases e
  | byt y => cases e
  | flt y => cases e
  | ty y => cases e
  | _ => exact (no (by decide) e).elim
/-- is_whole's answer -/
def isW (x : V) (lo hi : Int) : Bool := match x with
  | .int i => decide (lo ≤ i) && decide (i ≤ hi)
  | _ => false
theorem isW_int {x : V} {lo hi : Int} (h : isW x lo hi = true) : ∃ i, x = .int i ∧ lo ≤ i ∧ i ≤ hi := by
  cases x with
  | int i =>
    have z : (decide (lo ≤ i) && decide (i ≤ hi)) = true := h
    rw [Bool.and_eq_true, decide_eq_true_eq, decide_eq_true_eq] at z
    exact ⟨i, rfl, z.1, z.2⟩
  | _ => cases h
theorem isW_nat {x : V} {n : Nat} (h : isW x 0 ((n : Int) - 1) = true) : ∃ i : Nat, x = .int (i : Int) ∧ i < n := by
  obtain ⟨i, rfl, h1, h2⟩ := isW_int h
  refine ⟨i.toNat, ?_, by omega⟩
  rw [Int.toNat_of_nonneg h1]
theorem isW_true {i lo hi : Int} (h1 : lo ≤ i) (h2 : i ≤ hi) : isW (.int i) lo hi = true := by
  show (decide (lo ≤ i) && decide (i ≤ hi)) = true
  rw [decide_eq_true h1, decide_eq_true h2]
  rfl
/-- the values are references to these tuples -/
abbrev Tups (H : Hp) : List V → List (List V) → Prop := Paired fun v xs => ∃ t, v = V.ref t ∧ H t = some (.tup xs)
theorem tups_ext {H H' : Hp} (k : ∀ t xs, H t = some (.tup xs) → H' t = some (.tup xs)) : ∀ {vs : List V} {xss : List (List V)}, Tups H vs xss → Tups H' vs xss
  | _, _, .nil => .nil
  | _, _, .cons ⟨t, e, h⟩ r => .cons ⟨t, e, k t _ h⟩ (tups_ext k r)
theorem tups_snoc {H : Hp} {t : Addr} {xs : List V} (h : H t = some (.tup xs)) : ∀ {vs : List V} {xss : List (List V)}, Tups H vs xss → Tups H (vs ++ [V.ref t]) (xss ++ [xs])
  | _, _, .nil => .cons ⟨t, rfl, h⟩ .nil
  | _, _, .cons r q => .cons r (tups_snoc h q)
theorem tups_get {H : Hp} : ∀ {vs : List V} {xss : List (List V)} {i : Nat} {v : V}, Tups H vs xss → vs[i]? = some v → ∃ t xs, v = V.ref t ∧ xss[i]? = some xs ∧ H t = some (.tup xs)
  | _, _, _, _, .nil, e => by simp at e
  | _, _, 0, _, .cons ⟨t, e, h⟩ _, q => by
    simp at q
    exact ⟨t, _, by rw [← q, e], rfl, h⟩
  | _, _, i + 1, v, .cons _ r, q => by
    obtain ⟨t, xs, h1, h2, h3⟩ := tups_get (i := i) (v := v) r (by simpa using q)
    exact ⟨t, xs, h1, by simpa using h2, h3⟩
theorem tups_len {H : Hp} {vs : List V} {xss : List (List V)} (h : Tups H vs xss) : vs.length = xss.length := Paired.length h
/-- at l a list of these tuples -/
def TL (H : Hp) (l : Addr) (xss : List (List V)) : Prop := ∃ vs, H l = some (.lst vs) ∧ Tups H vs xss
theorem same_new {H : Hp} {p : Addr} {o : HO} (n : H p = none) : Same H (upd H p o) := fun b u e => by
  rw [upd_ne (ne_of_none e n)]
  exact e
theorem upd_none {H : Hp} {p d : Addr} {o : HO} (h : upd H p o d = none) : d ≠ p ∧ H d = none := by
  by_cases e : d = p
  · rw [e, upd_same] at h
    cases h
  · rw [upd_ne e] at h
    exact ⟨e, h⟩
theorem take_snoc {α : Type} : ∀ {l : List α} {i : Nat} {x : α}, l[i]? = some x → l.take (i + 1) = l.take i ++ [x]
  | [], i, x, h => by simp at h
  | a :: l, 0, x, h => by
    simp at h
    simp [h]
  | a :: l, i + 1, x, h => by
    have ih := take_snoc (l := l) (i := i) (x := x) (by simpa using h)
    rw [List.take_succ_cons, ih]
    rfl
/-! ### lookups in written lists of attributes -/
theorem at_here {k : Str} {v : V} {r : List (Str × V)} : List.lookup k ((k, v) :: r) = some v := by
  simp [List.lookup]
theorem at_past {k g : Str} {v : V} {r : List (Str × V)} (h : (k == g) = false) : List.lookup k ((g, v) :: r) = List.lookup k r := by
  simp only [List.lookup, h]
theorem to_here {f : Str} {v x : V} {r : List (Str × V)} : putF f v ((f, x) :: r) = (f, v) :: r := if_pos rfl
theorem to_past {f g : Str} {v x : V} {r : List (Str × V)} (h : ¬ g = f) : putF f v ((g, x) :: r) = (g, x) :: putF f v r := if_neg h
/-! ### ifs over known tests -/
theorem if_yes {c : Bool} {A B : Prop} (hc : c = true) (h : A) : if c = true then A else B := by
  rw [if_pos hc]
  exact h
theorem if_no {c : Bool} {A B : Prop} (hc : c = false) (h : B) : if c = true then A else B := by
  rw [hc, if_neg Bool.false_ne_true]
  exact h
theorem if_both {c : Bool} {A B : Prop} (h1 : c = true → A) (h2 : c = false → B) : if c = true then A else B := by
  cases c with
  | true => exact if_yes rfl (h1 rfl)
  | false => exact if_no rfl (h2 rfl)
/-! ### a town -/
abbrev TRow := Nat × Nat × Nat
def rowV (r : TRow) : List V := [.int (r.1 : Int), .int (r.2.1 : Int), .int (r.2.2 : Int)]
def endV (r : TRow) : List V := [.int (r.2.1 : Int), .int (r.2.2 : Int)]
abbrev Ents (H : Hp) : List (Key × V) → List TRow → Prop := Paired fun kv r => kv.1 = Sum.inl (r.1 : Int) ∧ ∃ t, kv.2 = V.ref t ∧ H t = some (.tup (endV r))
theorem ents_ext {H H' : Hp} (k : ∀ t xs, H t = some (.tup xs) → H' t = some (.tup xs)) : ∀ {kvs : List (Key × V)} {rows : List TRow}, Ents H kvs rows → Ents H' kvs rows
  | _, _, .nil => .nil
  | _, _, .cons ⟨e, t, h1, h2⟩ r => .cons ⟨e, t, h1, k t _ h2⟩ (ents_ext k r)
theorem ents_snoc {H : Hp} {t : Addr} {r : TRow} (h : H t = some (.tup (endV r))) : ∀ {kvs : List (Key × V)} {rows : List TRow}, Ents H kvs rows → Ents H (kvs ++ [(Sum.inl (r.1 : Int), V.ref t)]) (rows ++ [r])
  | _, _, .nil => .cons ⟨rfl, t, rfl, h⟩ .nil
  | _, _, .cons z q => .cons z (ents_snoc h q)
theorem ents_get {H : Hp} : ∀ {kvs : List (Key × V)} {rows : List TRow} {i : Nat} {kv : Key × V}, Ents H kvs rows → kvs[i]? = some kv → ∃ r t, rows[i]? = some r ∧ kv = (Sum.inl (r.1 : Int), V.ref t) ∧ H t = some (.tup (endV r))
  | _, _, _, _, .nil, e => by simp at e
  | (k0, v0) :: _, _, 0, _, .cons ⟨e, t, h1, h2⟩ _, q => by
    simp at q
    refine ⟨_, t, rfl, ?_, h2⟩
    have e1 : k0 = _ := e
    have e2 : v0 = _ := h1
    rw [← q, e1, e2]
  | _, _, i + 1, v, .cons _ r, q => by
    obtain ⟨a, t, h1, h2, h3⟩ := ents_get (i := i) (kv := v) r (by simpa using q)
    exact ⟨a, t, by simpa using h1, h2, h3⟩
theorem ents_drop {H : Hp} (k : Nat) : ∀ {kvs : List (Key × V)} {rows : List TRow}, Ents H kvs rows → Ents H (dropK kvs (Sum.inl (k : Int))) (rows.filter fun r => decide (r.1 ≠ k))
  | _, _, .nil => .nil
  | kv :: kvs, r :: rows, .cons z q => by
    obtain ⟨e, t, h1, h2⟩ := id z
    have ih := ents_drop k q
    by_cases h : r.1 = k
    · rw [dropK_pos (by rw [e, h])]
      simp only [List.filter_cons, h]
      simpa using ih
    · have ne : ¬ kv.1 = Sum.inl (k : Int) := by
        rw [e]
        intro y
        exact h (Int.ofNat.inj (Sum.inl.inj y))
      rw [dropK_neg ne]
      simp only [List.filter_cons]
      rw [if_pos (by simpa using h)]
      exact .cons z ih
theorem ents_has {H : Hp} (k : Nat) : ∀ {kvs : List (Key × V)} {rows : List TRow}, Ents H kvs rows → (valV kvs (Sum.inl (k : Int) : Key)).isSome = decide (k ∈ rows.map (·.1))
  | _, _, .nil => by simp [valV_nil]
  | kv :: kvs, r :: rows, .cons z q => by
    obtain ⟨e, t, h1, h2⟩ := id z
    by_cases h : r.1 = k
    · rw [valV_pos (by rw [e, h])]
      simp [h]
    · have ne : ¬ kv.1 = Sum.inl (k : Int) := by
        rw [e]
        intro y
        exact h (Int.ofNat.inj (Sum.inl.inj y))
      rw [valV_neg ne, ents_has k q]
      have h' : ¬ k = r.1 := fun y => h y.symm
      simp [h']
theorem ents_len {H : Hp} {kvs : List (Key × V)} {rows : List TRow} (h : Ents H kvs rows) : kvs.length = rows.length := Paired.length h
def tF (m : Nat) (d : Addr) (n : Nat) : List (Str × V) := [("_many", .int (m : Int)), ("_ends", .ref d), ("_built", .int (n : Int))]
theorem tF_many (m : Nat) (d : Addr) (n : Nat) : (tF m d n).lookup ("_many" : Str) = some (.int (m : Int)) := at_here
theorem tF_ends (m : Nat) (d : Addr) (n : Nat) : (tF m d n).lookup ("_ends" : Str) = some (.ref d) := (at_past (by decide +kernel)).trans at_here
theorem tF_built (m : Nat) (d : Addr) (n : Nat) : (tF m d n).lookup ("_built" : Str) = some (.int (n : Int)) := (at_past (by decide +kernel)).trans ((at_past (by decide +kernel)).trans at_here)
theorem tF_no (m : Nat) (d : Addr) (n : Nat) {x : Str} (h1 : (x == ("_many" : Str)) = false) (h2 : (x == ("_ends" : Str)) = false) (h3 : (x == ("_built" : Str)) = false) : (tF m d n).lookup x = none :=
  (at_past h1).trans ((at_past h2).trans ((at_past h3).trans rfl))
theorem tF_put (m : Nat) (d : Addr) (n k : Nat) : putF "_built" (.int (k : Int)) (tF m d n) = tF m d k :=
  (to_past (by decide +kernel)).trans (congrArg _ ((to_past (by decide +kernel)).trans (congrArg _ to_here)))
theorem tF_new (m : Nat) (d : Addr) : putF "_built" (.int 0) (putF "_ends" (.ref d) (putF "_many" (.int (m : Int)) [])) = tF m d 0 := by
  have e : putF "_ends" (V.ref d) (putF "_many" (.int (m : Int)) []) = [(("_many" : Str), V.int (m : Int)), (("_ends" : Str), V.ref d)] := (to_past (by decide +kernel)).trans rfl
  rw [e]
  exact (to_past (by decide +kernel)).trans (congrArg _ ((to_past (by decide +kernel)).trans rfl))
/-- the streets of a town: numbers rise, below the next one; ends are two unlike places -/
structure RowsOk (m : Nat) (rows : List TRow) (n : Nat) : Prop where
  rise : rows.Pairwise fun a b => a.1 < b.1
  below : ∀ r ∈ rows, r.1 < n
  ends : ∀ r ∈ rows, r.2.1 < m ∧ r.2.2 < m ∧ r.2.1 ≠ r.2.2
  few : rows.length ≤ 60
theorem RowsOk.snoc {m n a b : Nat} {rows : List TRow} (R : RowsOk m rows n) (h : rows.length < 60) (ha : a < m) (hb : b < m) (ne : a ≠ b) : RowsOk m (rows ++ [(n, a, b)]) (n + 1) where
  rise := by
    rw [List.pairwise_append]
    refine ⟨R.rise, List.pairwise_singleton _ _, fun x hx y hy => ?_⟩
    rw [List.mem_singleton] at hy
    rw [hy]
    exact R.below x hx
  below := fun r hr => by
    rcases List.mem_append.mp hr with z | z
    · have := R.below r z
      omega
    · rw [List.mem_singleton] at z
      rw [z]
      exact Nat.lt_succ_self n
  ends := fun r hr => by
    rcases List.mem_append.mp hr with z | z
    · exact R.ends r z
    · rw [List.mem_singleton] at z
      rw [z]
      exact ⟨ha, hb, ne⟩
  few := by
    rw [List.length_append]
    exact h
theorem RowsOk.drop {m n : Nat} {rows : List TRow} (R : RowsOk m rows n) (p : TRow → Bool) : RowsOk m (rows.filter p) n where
  rise := R.rise.filter _
  below := fun r hr => R.below r (List.mem_filter.mp hr).1
  ends := fun r hr => R.ends r (List.mem_filter.mp hr).1
  few := Nat.le_trans (List.length_filter_le _ _) R.few
/-- the town at p, its dict at d -/
structure TownAt (C : Addr) (H : Hp) (p d : Addr) (m : Nat) (rows : List TRow) (n : Nat) : Prop where
  ob : ∃ dx, H p = some (.ins C dx (tF m d n))
  dc : ∃ kvs, H d = some (.dK kvs) ∧ Ents H kvs rows
  ok : RowsOk m rows n
  pm : 1 ≤ m ∧ m ≤ 16
theorem TownAt.pd {C : Addr} {H : Hp} {p d : Addr} {m : Nat} {rows : List TRow} {n : Nat} (T : TownAt C H p d m rows n) : p ≠ d := by
  obtain ⟨dx, h1⟩ := T.ob
  obtain ⟨kvs, h2, _⟩ := T.dc
  exact ne_of h1 h2 (by intro z; cases z)
theorem TownAt.same {C : Addr} {H H' : Hp} {p d : Addr} {m : Nat} {rows : List TRow} {n : Nat} (T : TownAt C H p d m rows n) (s : Same H H') : TownAt C H' p d m rows n := by
  obtain ⟨dx, h1⟩ := T.ob
  obtain ⟨kvs, h2, h3⟩ := T.dc
  exact ⟨⟨dx, s _ _ h1⟩, ⟨kvs, s _ _ h2, ents_ext (fun t xs e => s _ _ e) h3⟩, T.ok, T.pm⟩
/-- all but the town's own two objects stands -/
def Keeps (H H' : Hp) (p d : Addr) : Prop := ∀ c o, H c = some o → c ≠ p → c ≠ d → H' c = some o
theorem keeps_tups {C : Addr} {H H' : Hp} {p d : Addr} {m : Nat} {rows : List TRow} {n : Nat} (T : TownAt C H p d m rows n) (k : Keeps H H' p d) : ∀ t xs, H t = some (.tup xs) → H' t = some (.tup xs) := by
  obtain ⟨dx, h1⟩ := T.ob
  obtain ⟨kvs, h2, _⟩ := T.dc
  intro t xs e
  refine k t _ e (fun z => ?_) fun z => ?_
  · rw [z, h1] at e
    cases e
  · rw [z, h2] at e
    cases e
theorem RowsOk.back {m n : Nat} {rows : List TRow} (R : RowsOk m rows n) (a b : Nat) : ((rows ++ [(n, a, b)]).filter fun r => decide (r.1 ≠ n)) = rows := by
  rw [List.filter_append]
  have e1 : (rows.filter fun r => decide (r.1 ≠ n)) = rows := List.filter_eq_self.mpr fun r hr => by
    have := R.below r hr
    rw [decide_eq_true_eq]
    omega
  rw [e1]
  simp
theorem RowsOk.mono {m n k : Nat} {rows : List TRow} (R : RowsOk m rows n) (h : n ≤ k) : RowsOk m rows k :=
  ⟨R.rise, fun r hr => Nat.lt_of_lt_of_le (R.below r hr) h, R.ends, R.few⟩
theorem same_over {H Hz : Hp} {l : Addr} {o : HO} (n : H l = none) (s : Same H Hz) : Same H (upd Hz l o) := fun c u e => by
  rw [upd_ne (ne_of_none e n)]
  exact s c u e
theorem tups_over {Hz : Hp} {l : Addr} {o : HO} {xs : List V} {vs : List V} {xss : List (List V)} (a : Hz l = some (.lst xs)) (u : Tups Hz vs xss) : Tups (upd Hz l o) vs xss := tups_ext (fun t ys e => by
  rw [upd_ne (fun z => by rw [z, a] at e; cases e)]
  exact e) u
end Own

set_option Elab.async false
set_option linter.all false
set_option maxRecDepth 100000
set_option maxHeartbeats 4000000
/-! Sizes of numbers, remainders, the law helpers' facts that speak of no program. -/
namespace Own
open PySem PySem.Spec PyProof.Rows L2
/-- a whole number that the machine multiplies without a thought -/
def Fit (c : Int) : Prop := c.natAbs.log2 < 2000000
theorem fit_small {c : Int} (h : c.natAbs < 2 ^ 64) : Fit c := by
  unfold Fit
  by_cases e : c.natAbs = 0
  · rw [e]
    decide
  · have z := (Nat.log2_lt e).mpr h
    omega
theorem fit_range {c : Int} (h1 : 0 ≤ c) (h2 : c < 18446744073709551616) : Fit c := fit_small (by omega)
theorem fit_bits {c : Int} (h : Builtin.Int.intBits c ≤ 1048576) : Fit c := by
  unfold Fit
  have z : c.natAbs.log2 ≤ Builtin.Int.intBits c := by
    unfold Builtin.Int.intBits
    split
    · rename_i e
      simp_all
    · omega
  omega
theorem mul_fit {i j : Int} (hi : Fit i) (hj : Fit j) : CMulG i j := by
  unfold CMulG
  unfold Fit at hi hj
  omega
theorem emod_lt {i m : Int} (h : 0 < m) : 0 ≤ i % m ∧ i % m < m := ⟨Int.emod_nonneg i (by omega), Int.emod_lt_of_pos i h⟩
theorem nat_of {i : Int} (h : 0 ≤ i) : ∃ n : Nat, i = (n : Int) := ⟨i.toNat, (Int.toNat_of_nonneg h).symm⟩
/-- an item of a list at a remainder -/
theorem at_mod {α : Type} {xs : List α} {i : Int} (h : xs ≠ []) : ∃ v, atI xs (i % (xs.length : Int)) = some v ∧ v ∈ xs := by
  have hl : 0 < xs.length := List.length_pos_iff.mpr h
  obtain ⟨h1, h2⟩ := emod_lt (i := i) (m := (xs.length : Int)) (by omega)
  obtain ⟨j, hj⟩ := nat_of h1
  have lt : j < xs.length := by omega
  refine ⟨xs[j], ?_, List.getElem_mem lt⟩
  rw [hj]
  exact atI_nat (List.getElem?_eq_getElem lt)
theorem at_lt {α : Type} {xs : List α} {i : Int} (h1 : 0 ≤ i) (h2 : i < (xs.length : Int)) : ∃ v, atI xs i = some v ∧ v ∈ xs := by
  obtain ⟨j, hj⟩ := nat_of h1
  have lt : j < xs.length := by omega
  refine ⟨xs[j], ?_, List.getElem_mem lt⟩
  rw [hj]
  exact atI_nat (List.getElem?_eq_getElem lt)
abbrev Pair := Nat × Nat
def pairV (p : Pair) : List V := [.int (p.1 : Int), .int (p.2 : Int)]
/-- two unlike places of a town of m -/
def PairOk (m : Nat) (p : Pair) : Prop := p.1 < m ∧ p.2 < m ∧ p.1 ≠ p.2
theorem step_ends {m : Nat} {one num : Int} (hm : 2 ≤ m) (h1 : 0 ≤ one) (h2 : one < m) : 0 ≤ (one + 1 + num % ((m : Int) - 1)) % m ∧ (one + 1 + num % ((m : Int) - 1)) % m < m ∧ (one + 1 + num % ((m : Int) - 1)) % m ≠ one := by
  obtain ⟨a1, a2⟩ := emod_lt (i := num) (m := (m : Int) - 1) (by omega)
  generalize num % ((m : Int) - 1) = q at *
  obtain ⟨b1, b2⟩ := emod_lt (i := one + 1 + q) (m := (m : Int)) (by omega)
  refine ⟨b1, b2, ?_⟩
  by_cases h : one + 1 + q < m
  · rw [Int.emod_eq_of_lt (by omega) h]
    omega
  · have e : (one + 1 + q) % (m : Int) = (one + 1 + q - m) % (m : Int) := (Int.sub_emod_right _ _).symm
    rw [e, Int.emod_eq_of_lt (by omega) (by omega)]
    omega
/-- the items taken so far of a list of whole numbers -/
theorem int_item {ns : List Int} {i : Nat} {y : V} (h : (ns.map V.int)[i]? = some y) : ∃ z, ns[i]? = some z ∧ y = V.int z := by
  rw [List.getElem?_map] at h
  cases e : ns[i]? with
  | none =>
    rw [e] at h
    cases h
  | some z =>
    rw [e] at h
    exact ⟨z, rfl, (Option.some.inj h).symm⟩
end Own
namespace Own
open PySem PySem.Spec PyProof.Rows L2
theorem pair_nat {i j : Int} (hi : 0 ≤ i) (hj : 0 ≤ j) : pairV (i.toNat, j.toNat) = [V.int i, V.int j] := by
  show [V.int ((i.toNat : Nat) : Int), V.int ((j.toNat : Nat) : Int)] = [V.int i, V.int j]
  rw [Int.toNat_of_nonneg hi, Int.toNat_of_nonneg hj]
theorem pair_ok {m : Nat} {i j : Int} (h1 : 0 ≤ i) (h2 : i < m) (h3 : 0 ≤ j) (h4 : j < m) (ne : i ≠ j) : PairOk m (i.toNat, j.toNat) := by
  refine ⟨?_, ?_, ?_⟩
  · show i.toNat < m
    omega
  · show j.toNat < m
    omega
  · show i.toNat ≠ j.toNat
    omega
theorem dp_ints {K : PySem.W.Frag} {H : Hp} : ∀ ns : List Int, DpAll K H (ns.map V.int) (ns.map PyData.int)
  | [] => .nil
  | n :: ns => .cons (.int n) (dp_ints ns)
theorem eqv_nil_nil : PyData.eqv (.list []) (.list []) = true := by simp [PyData.eqv, PyData.eqvAll]
theorem eqv_cons_nil (d : PyData) (ds : List PyData) : PyData.eqv (.list (d :: ds)) (.list []) = false := by simp [PyData.eqv, PyData.eqvAll]
/-- what may be laid, n deep -/
def Lay (n : Nat) (d : PyData) : Prop := d.canLay0 = true ∧ d.depth ≤ n
theorem lay_int (i : Int) : Lay 0 (.int i) := ⟨by simp only [PyData.canLay0], by simp only [PyData.depth]; exact Nat.le_refl _⟩
theorem lay_all {n : Nat} : ∀ {ds : List PyData}, (∀ d ∈ ds, Lay n d) → PyData.canLayAll0 ds = true ∧ PyData.depthAll ds ≤ n
  | [], _ => ⟨by simp only [PyData.canLayAll0], by simp only [PyData.depthAll]; exact Nat.zero_le _⟩
  | d :: ds, h => by
    obtain ⟨h1, h2⟩ := lay_all (ds := ds) fun e he => h e (List.mem_cons_of_mem _ he)
    obtain ⟨h3, h4⟩ := h d List.mem_cons_self
    refine ⟨?_, ?_⟩
    · simp only [PyData.canLayAll0, h1, h3, Bool.and_self]
    · simp only [PyData.depthAll]
      exact Nat.max_le.mpr ⟨h4, h2⟩
theorem lay_list {n : Nat} {ds : List PyData} (h : ∀ d ∈ ds, Lay n d) : Lay (n + 1) (.list ds) := by
  obtain ⟨h1, h2⟩ := lay_all h
  exact ⟨by simp only [PyData.canLay0, h1], by simp only [PyData.depth]; omega⟩
theorem lay_tup {n : Nat} {ds : List PyData} (h : ∀ d ∈ ds, Lay n d) : Lay (n + 1) (.tuple ds) := by
  obtain ⟨h1, h2⟩ := lay_all h
  exact ⟨by simp only [PyData.canLay0, h1], by simp only [PyData.depth]; omega⟩
theorem Lay.shaped {n : Nat} {d : PyData} (h : Lay n d) (hn : n ≤ 64) : SeqAt.shaped d = true := by
  unfold SeqAt.shaped
  rw [h.1, Bool.true_and, decide_eq_true_eq]
  exact Nat.le_trans h.2 hn
theorem lay_ints (ns : List Int) : Lay 1 (.list (ns.map PyData.int)) := lay_list fun d hd => by
  obtain ⟨i, _, rfl⟩ := List.mem_map.mp hd
  exact lay_int i
theorem Lay.eqv {n : Nat} {d : PyData} (h : Lay n d) : PyData.eqv d d = true := SeqAt.eqv_refl d h.1
theorem cut_take (xs : List V) (c : Nat) : cutV xs none (some (c : Int)) = xs.take c := by
  unfold cutV
  rw [HT.sIx_none, HT.sIx_nat, Nat.sub_zero, List.drop_zero]
  by_cases h : c ≤ xs.length
  · rw [Nat.min_eq_left h]
  · rw [Nat.min_eq_right (by omega), List.take_of_length_le (Nat.le_refl _), List.take_of_length_le (by omega)]
theorem at_end {α : Type} {l : List α} {v : α} (h : l[l.length - 1]? = some v) : atI l (-1) = some v := by
  rw [← List.getLast?_eq_getElem?, List.getLast?_eq_some_iff] at h
  obtain ⟨ys, rfl⟩ := h
  exact atI_last ys v
end Own

set_option Elab.async false
set_option linter.all false
set_option maxRecDepth 100000
set_option maxHeartbeats 4000000
/-! Defs that make lambdas: the def's own code object and its table. -/
namespace Own
open PySem PySem.Spec PyProof.Rows L2
theorem fn_lam {P : Program} {w : World} {K : PySem.W.Frag} {mg : Str → Option Value} {base : Heap} {x qual : Str} {params : Arguments} {body : List Stmt} {scope : Scope} {fd : FuncData} {N ps : List Str} {k : Nat} {sp : Sp} {p : Str × Option Str}
    (F : FunD K x qual params body scope [] [] (He.fAd K p) fd) (S : FnScope N ps scope) (len : ∀ vs H Q E, sp vs H Q E → vs.length = ps.length)
    (hbody : ∀ (A : Around) (outer : List Env) (s : Shared) (H : Hp) (vs : List V) (Q : VK) (E : XK), Room k (A.deeper (envOfC qual scope s.heap.objs.size (He.fAd K p) (.ref (He.codeOf K p)))) → sp vs H Q E →
      ∃ t, PSs (cxOf (L2.CX P w) P w K mg base N qual scope (He.fAd K p) (.ref (He.codeOf K p)) A outer s H E) body t ∧ t { nx := fun _ H' => Q .non H', rt := Q } (start N vs) H) : FnOk P w K mg base (L2.CX P w) (k + 1) (He.fAd K p) fd ps sp := by
  obtain ⟨oc, od, dV, kV, doc, pm, an, cdv, ct, osl, rfl, lk, hcd, _, _⟩ := F.ex
  obtain ⟨c, rfl⟩ := He.codeIn_ref hcd
  have ec : He.codeOf K p = c := He.codeOf_eq lk rfl
  refine fn_of lk hcd S len fun A outer s H vs Q E hr hsp => ?_
  have z := hbody A outer s H vs Q E
  rw [ec] at z
  exact z hr hsp
/-- a lambda without parameters takes no arguments -/
abbrev LamBinds (params : Arguments) (body : Expr) (scope : Scope) : Prop := ∀ q cl pm cv ctv, bindArgs (PySem.W.kla_fn "<lambda>" q params body scope cl pm cv ctv) ⟨[], []⟩ = pure []
/-- a def's promise with its tables' heap: all but the tables stays, the tables are known -/
abbrev ExtT (T : List (Addr × Str)) (H H' : Hp) : Prop := LamX.ExtN H H' ∧ LamX.Tabs T H'
theorem ext_same {T : List (Addr × Str)} {H H' : Hp} (t : LamX.Tabs T H) (s : Same H H') : ExtT T H H' := ⟨LamX.ExtN.of s, t.ext s⟩
theorem ext_trans {T : List (Addr × Str)} {H H1 H2 : Hp} (a : LamX.ExtN H H1) (b : ExtT T H1 H2) : ExtT T H H2 := ⟨a.trans b.1, b.2⟩
theorem TownAt.ext {C : Addr} {H H' : Hp} {p d : Addr} {m : Nat} {rows : List TRow} {n : Nat} (T : TownAt C H p d m rows n) (s : LamX.ExtN H H') : TownAt C H' p d m rows n := by
  obtain ⟨dx, h1⟩ := T.ob
  obtain ⟨kvs, h2, h3⟩ := T.dc
  exact ⟨⟨dx, s _ _ h1 (fun _ z => by cases z)⟩, ⟨kvs, s _ _ h2 (fun _ z => by cases z), ents_ext (fun t xs e => s _ _ e (fun _ z => by cases z)) h3⟩, T.ok, T.pm⟩
theorem lst_ext {H H' : Hp} {l : Addr} {xs : List V} (h : H l = some (.lst xs)) (s : LamX.ExtN H H') : H' l = some (.lst xs) := s _ _ h (fun _ z => by cases z)
theorem tl_ext {H H' : Hp} {l : Addr} {xss : List (List V)} (h : TL H l xss) (s : LamX.ExtN H H') : TL H' l xss := by
  obtain ⟨vs, h1, h2⟩ := h
  exact ⟨vs, lst_ext h1 s, tups_ext (fun t xs e => s _ _ e (fun _ z => by cases z)) h2⟩
theorem sql_ext {K : PySem.W.Frag} {H H' : Hp} {l : Addr} {xs : List V} (h : SqL K H l xs) (s : LamX.ExtN H H') : SqL K H' l xs := by
  rcases h with (h | ⟨o, h⟩) | h
  · exact .inl (.inl (s _ _ h (fun _ z => by cases z)))
  · exact .inl (.inr ⟨o, s _ _ h (fun _ z => by cases z)⟩)
  · exact .inr h
theorem lam_none {X : Cx} : defaultsOf ({ posonlyargs := [], args := [], vararg := none, kwonlyargs := [], kw_defaults := [], kwarg := none, defaults := [] } : Arguments) X.env = ([], []) := by rfl
theorem ty_ext {H H' : Hp} {v : V} (s : LamX.ExtN H H') (h : ∃ n, tyName v H = some n) : ∃ n, tyName v H' = some n := by
  obtain ⟨n, e⟩ := h
  refine ⟨n, ?_⟩
  cases v with
  | ref p =>
    simp only [tyName] at e ⊢
    cases there : H p with
    | none => simp [there] at e
    | some o =>
      have stays := s p o there fun ps z => by simp [there, z] at e
      rw [stays, ← there]
      exact e
  | _ => exact e
theorem tabs_keeps {C : Addr} {T : List (Addr × Str)} {H H' : Hp} {p d : Addr} {m : Nat} {rows : List TRow} {n : Nat} (W : TownAt C H p d m rows n) (k : Keeps H H' p d) (t : LamX.Tabs T H) : LamX.Tabs T H' := by
  obtain ⟨dx, h1⟩ := W.ob
  obtain ⟨kvs, h2, _⟩ := W.dc
  intro q hq
  obtain ⟨ps, e1, e2, e3⟩ := t q hq
  refine ⟨ps, k _ _ e1 (fun z => ?_) (fun z => ?_), e2, fun pos cv hc => ?_⟩
  · rw [z, h1] at e1
    cases e1
  · rw [z, h2] at e1
    cases e1
  · obtain ⟨c, f1, f2⟩ := e3 pos cv hc
    refine ⟨c, f1, k _ _ f2 (fun z => ?_) (fun z => ?_)⟩
    · rw [z, h1] at f2
      unfold LamX.CodeO at f2
      cases f2
    · rw [z, h2] at f2
      unfold LamX.CodeO at f2
      cases f2
def rowD (r : TRow) : PyData := .tuple [.int (r.1 : Int), .int (r.2.1 : Int), .int (r.2.2 : Int)]
theorem dp_rows {K : PySem.W.Frag} {H : Hp} : ∀ {vs : List V} {rows : List TRow}, Tups H vs (rows.map rowV) → DpAll K H vs (rows.map rowD)
  | [], [], _ => .nil
  | _ :: _, [], h => by cases h
  | [], _ :: _, h => by cases h
  | v :: vs, r :: rows, .cons ⟨t, e, h⟩ q => by
    rw [e]
    exact .cons (.tup (SqT.of h) (.cons (.int _) (.cons (.int _) (.cons (.int _) .nil)))) (dp_rows q)
theorem lay_rows (rows : List TRow) : Lay 2 (.list (rows.map rowD)) := lay_list fun d hd => by
  obtain ⟨r, _, rfl⟩ := List.mem_map.mp hd
  refine lay_tup fun e he => ?_
  simp only [List.mem_cons, List.not_mem_nil, or_false] at he
  rcases he with h | h | h <;> rw [h] <;> exact lay_int _
/-- two lists of the same rows compared -/
theorem dp_town {K : PySem.W.Frag} {H : Hp} {l : Addr} {rows : List TRow} (h : TL H l (rows.map rowV)) : Dp K H (.ref l) (.list (rows.map rowD)) := by
  obtain ⟨vs, h1, h2⟩ := h
  exact .lst (SqL.of h1) (dp_rows h2)
theorem tl_same {H H' : Hp} {l : Addr} {xss : List (List V)} (h : TL H l xss) (s : Same H H') : TL H' l xss := by
  obtain ⟨vs, h1, h2⟩ := h
  exact ⟨vs, s _ _ h1, tups_ext (fun t xs e => s _ _ e) h2⟩
theorem tl_keeps {C : Addr} {H H' : Hp} {p d l : Addr} {m : Nat} {rows : List TRow} {n : Nat} {xss : List (List V)} (W : TownAt C H p d m rows n) (k : Keeps H H' p d) (h : TL H l xss) : TL H' l xss := by
  obtain ⟨vs, h1, h2⟩ := h
  obtain ⟨dx, e1⟩ := W.ob
  obtain ⟨kvs, e2, _⟩ := W.dc
  exact ⟨vs, k _ _ h1 (ne_of h1 e1 (by intro z; cases z)) (ne_of h1 e2 (by intro z; cases z)), tups_ext (keeps_tups W k) h2⟩
end Own

set_option Elab.async false
set_option linter.all false
set_option maxRecDepth 100000
set_option maxHeartbeats 4000000
/-! list + list, where either may be the script. -/
namespace Own
open PySem PySem.Spec PyProof.Rows L2
section
variable {X : Cx}
/-- + of two lists that may be read -/
def rCatS (K : PySem.W.Frag) : R2 := fun x y H Q => ∃ l b xs zs, x = .ref l ∧ y = .ref b ∧ SqL K H l xs ∧ SqL K H b zs ∧ xs.length + zs.length ≤ sizeLine ∧ ∀ p, H p = none → Q (.ref p) (upd H p (.lst (xs ++ zs)))
theorem op_catS : OpR X (binaryOp .Add) (rCatS X.K) := by
  intro pins s σ H x y v u Q I rx ry h
  obtain ⟨l, b, xs, zs, rfl, rfl, hl, hb, small, q⟩ := h
  cases rx
  cases ry
  obtain ⟨its, r1, ⟨o1, n1, e1, c1, d1, s1⟩, _⟩ := I.list hl
  obtain ⟨jts, r2, ⟨o2, n2, e2, c2, d2, s2⟩, _⟩ := I.list hb
  obtain ⟨oc1, od1, oda1, osl1⟩ := o1
  obtain ⟨oc2, od2, oda2, osl2⟩ := o2
  simp only at c1 d1 s1 c2 d2 s2
  subst c1 d1 s1 c2 d2 s2
  have len1 := r1.length
  have len2 := r2.length
  have fits : its.toArray.size + jts.toArray.size ≤ sizeLine := by
    rw [List.size_toArray, List.size_toArray]
    omega
  refine concat_meets (a := .ref l) (b := .ref b) ⟨_, e1, rfl⟩ ⟨_, e2, rfl⟩ noFill_list_add seq_list_add
    PySem.F.slot_list_add PySem.F.entry_list_add (PySem.F.args_list_add_2 _ _)
    (list_addW l b its.toArray jts.toArray n1 n2 none none osl1 osl2 fits) ⟨e1, e2, ?_⟩
  have ea : its.toArray ++ jts.toArray = (its ++ jts).toArray := by simp
  rw [ea]
  exact ⟨.ref _, _, I.lnew (t' := s.toks) (r1.append r2) (by rw [List.length_append]; omega), rfl, q _ I.fresh⟩
end
end Own

set_option Elab.async false
set_option linter.all false
set_option maxRecDepth 100000
set_option maxHeartbeats 4000000
/-! An own error class over ValueError whose __init__ begins with super().__init__(text). -/
namespace Own
open PySem PySem.Spec PyProof.Rows L2
section
open PySem.W
/-- at C stands an error class whose objects ValueError makes -/
def VeAt (h : Heap) (C : Addr) : Prop := ∃ nm q N bs bm flag sn sub ab col dd k0 k1 k2 k3 k5, h.get? C = some (excClassObj nm q C N bs bm flag sn sub ab col dd k0 k1 k2 k3 k5 "ValueError.__new__")
theorem VeAt.keeps {h h' : Heap} {C : Addr} (c : VeAt h C) (k : ∀ b o, h.get? b = some o → h'.get? b = some o) : VeAt h' C := by
  obtain ⟨nm, q, N, bs, bm, flag, sn, sub, ab, col, dd, k0, k1, k2, k3, k5, at_⟩ := c
  exact ⟨nm, q, N, bs, bm, flag, sn, sub, ab, col, dd, k0, k1, k2, k3, k5, k _ _ at_⟩
/-- ValueError.__init__, bound to the exception at e, called: it sets e's arguments anew, no more -/
theorem call_bound_ve {prog : Program} {w : World} {A : Around} {E : Value → Shared → Prop} {s : Shared} {C u e t0 : Addr} {rest : List Value} {Q : Value → Shared → Prop}
    (cl : VeAt s.heap C) (he : s.heap.get? e = some (HandSPX.excO C t0)) (hu : s.heap.get? u = some (kxs_mw "ValueError.__init__" e)) (few : rest.length ≤ sizeLine)
    (hq : ∀ (h' : Heap) (t1 : Addr), (∀ b o, b ≠ e → s.heap.get? b = some o → h'.get? b = some o) → h'.get? e = some (HandSPX.excO C t1) → Q .none { s with heap := h' }) :
    wpAny (model prog w) A (call (.ref u) rest) Q E s := by
  obtain ⟨h, g, d, t, os⟩ := s
  obtain ⟨nm, q, N, bs, bm, flag, sn, sub, ab, col, dd, k0, k1, k2, k3, k5, hC⟩ := cl
  have kind : (Value.type "method-wrapper" == Value.type "method" || Value.type "method-wrapper" == Value.type "builtin_function_or_method" || Value.type "method-wrapper" == Value.type "method-wrapper") = true := by decide
  have room : ∀ {o : Obj} {b : Addr}, h.get? b = some o → (h.push (kdv_tup rest)).get? b = some o := fun q => Heap.get?_push_of_some _ q
  refine wpAny_call (codeAny_of_tree (?_ : wpAny (model prog w) A.in1 (callAny (.ref u) ⟨rest, []⟩) _ _ _))
  simp only [callAny]
  refine wpAny_bind (wpAny_load hu ?_)
  simp only [kxs_mw, kind, if_true]
  refine KFB.if_so (by decide) (wpAny_bind (ESX.check_bound F.excBase_ValueError hC he rfl (wpAny_bind (wpAny_pure (wpAny_pure ?_)))))
  refine ⟨Code.quiet_builtin _ (by decide +kernel), codeAny_builtin F.excBase_ValueError.initEntry ?_⟩
  rw [Around.under_plainId F.excBase_ValueError.init.plain _]
  wp_walk
  exact hq _ h.objs.size (fun b o off q => (Heap.get?_update_other _ _ off.symm).trans (room q)) (Heap.get?_update_self _ (room he) rfl)
end
abbrev supN : List Str := ["self", "between", "apart", "part"]
abbrev supEnv (scope : Scope) (s : Shared) (f cda cc : Addr) : Env := PySem.W.ksEnv "Parted.__init__" scope s.heap.objs.size f (.ref cda) cc
/-- Parted.__init__ runs: its class's cell is captured -/
def supCx (P : Program) (w : World) (K : PySem.W.Frag) (mg : Str → Option Value) (base : Heap) (scope : Scope) (f cda cc : Addr) (A : Around) (outer : List Env) (s : Shared) (H : Hp) (E : XK) : Cx where
  prog := P
  w := w
  K := K
  mg := mg
  base := base
  A := A.deeper (supEnv scope s f cda cc)
  N := supN
  s_0 := s
  H_0 := H
  env := supEnv scope s f cda cc
  outer := outer
  stack := supEnv scope s f cda cc :: outer
  ex := []
  fn := fun _ => false
  calm := true
  pn := []
  xe := fun e s' => wpAny (model P w) (A.deeper (supEnv scope s f cda cc)) (leaving (supEnv scope s f cda cc) e) (fun _ s'' => L2.CX P w outer H s E e s'') (fun e' s'' => L2.CX P w outer H s E e' s'') s'
/-- the scope of such a def: three parameters, the comprehension's name elsewhere, the class captured -/
structure SupS (scope : Scope) : Prop where
  kind : scope.kind = .function
  co : scope.isCoroutine = false
  gen : scope.isGenerator = false
  loc : scope.names.lookup ("self" : Str) = some .local ∧ scope.names.lookup ("between" : Str) = some .local ∧ scope.names.lookup ("apart" : Str) = some .local
  cls : scope.names.lookup ("__class__" : Str) = some .free
  sup : scope.names.lookup ("super" : Str) = some .globalImplicit
  nocell : ∀ y ∈ scope.names, y.2 ≠ .cell
  free : ∀ y ∈ scope.names, y.2 = .free → y.1 = "__class__"
  part : ¬ Vis scope "part"
structure SupC (K : PySem.W.Frag) (mg : Str → Option Value) (P : Program) (C fI cda cc : Addr) (params : Arguments) (body : List Stmt) (scope : Scope) (fd : FuncData) : Prop where
  oex : OexC K C
  fn : ∃ (oc dV kV doc pm ct : Value) (od an : Option Addr) (osl : Array (Option Value)), fd = PySem.W.ksFn "__init__" "Parted.__init__" params body scope dV kV doc pm an (.ref cda) ct cc ∧ K.lookup fI = some ⟨oc, od, .func fd, osl⟩
  arg : ∃ ar : Arg, (params.posonlyargs ++ params.args).head? = some ar ∧ ar.arg = "self"
  code : PySem.W.codeIn K (.ref cda) "Parted.__init__" = true
  file : ∃ (ccl : Value) (cdd : Option Addr) (vs : Array Value) (ccs : Array (Option Value)) (f : Str) (tf : Tok), K.lookup cda = some ⟨ccl, cdd, .fields vs, ccs⟩ ∧ vs[2]? = some (.str f tf) ∧ ((P.main.file : Str) == f) = true
  cell : ∃ (cl : Value) (cld : Option Addr) (csl : Array (Option Value)), K.lookup cc = some ⟨cl, cld, .cell (some (.ref C)), csl⟩
  sup : mg "super" = none
  opq : PySem.W.nsIn K cStatics "thirdparty.any" = some none
  meth : PySem.W.ks_superIn K C C "__init__" = some (some (.builtin "ValueError.__init__"))
  ve : PySem.W.subIn K (.ref C) (.type "ValueError") = some true
  own : PySem.W.mroIn K C (.ref C) = some true
  top : (P.main.scope.names.lookup ("super" : Str)).isSome = false
section
variable {P : Program} {w : World} {K : PySem.W.Frag} {mg : Str → Option Value} {base : Heap} {C fI cda cc : Addr} {params : Arguments} {body : List Stmt} {scope : Scope} {A : Around} {outer : List Env} {s : Shared} {H : Hp} {E : XK} {v0 v1 v2 : V} {u0 u1 u2 : Value}
theorem sup_start {h0 : Heap} {tk : Nat} (S : SupS scope) (hc : ∃ (cl : Value) (cld : Option Addr) (csl : Array (Option Value)), K.lookup cc = some ⟨cl, cld, .cell (some (.ref C)), csl⟩) (hd : A.handled = none) (e0 : Env0 P w K mg base A outer s H) (r0 : RelV v0 u0) (r1 : RelV v1 u1) (r2 : RelV v2 u2)
    (hns : h0.Ns s.heap.objs.size fun x => ([(("self" : Str), u0), ("between", u1), ("apart", u2)] : List (Str × Value)).reverse.lookup x) (kp : ∀ b o, s.heap.get? b = some o → h0.get? b = some o) :
    Inv (supCx P w K mg base scope fI cda cc A outer s H E) [] [some v0, some v1, some v2, none] H { s with heap := h0, toks := tk } := by
  obtain ⟨cl, cld, csl, hcc⟩ := hc
  have ccB := e0.mod.kin cc _ hcc
  have ccS := e0.bs cc _ ccB
  have only : ∀ {x c}, (supEnv scope s fI cda cc).cells.lookup x = some c → x = "__class__" ∧ c = cc := by
    intro x c e
    have e' : List.lookup x [(("__class__" : Str), cc)] = some c := e
    by_cases hx : x = "__class__"
    · subst hx
      rw [List.lookup_cons_self] at e'
      exact ⟨rfl, (Option.some.inj e').symm⟩
    · have nx : (x == ("__class__" : Str)) = false := by simpa using hx
      simp [List.lookup, nx] at e'
  have noA : ∀ b : Addr, b ∉ (supCx P w K mg base scope fI cda cc A outer s H E).ex := fun b z => absurd (show b ∈ ([] : List Addr) from z) (by simp)
  refine ⟨⟨e0.mod, S.kind, rfl, rfl, Nat.le_refl _, fun y z c a b => (only a).1.trans (only b).1.symm, fun y hy => ?_, fun y c z _ => ?_, fun _ => hd, Around.frames_deeper e0.frames, .inr ⟨rfl, rfl⟩, fun b z => absurd z (noA b), e0.bs, e0.bsz, fun b _ _ => noA b, fun b z => absurd z (noA b), e0.funs, e0.frf⟩,
    rfl, e0.bare, Un.kept kp, ⟨_, hns, fun i y v a b z => ?_⟩, fun y c e => ?_, e0.hok.fresh (Nat.le_refl _), fun y c e => ?_, fun q hq => absurd (show q ∈ ([] : List (Addr × Obj)) ++ [] from hq) (by simp), e0.hok.kept kp, rfl⟩
  · have hy : scope.names.lookup y = some .cell ∨ scope.names.lookup y = some .free := hy
    rcases hy with hy | hy
    · exact absurd rfl (S.nocell _ (PySem.mem_of_lookup hy))
    · have ey : y = "__class__" := S.free _ (PySem.mem_of_lookup hy) rfl
      subst ey
      exact ⟨cc, List.lookup_cons_self⟩
  · have z : false = true := z
    cases z
  · obtain ⟨l0, l1, l2⟩ := S.loc
    match i, a, b with
    | 0, a, b =>
      cases a
      cases b
      exact ⟨u0, r0, .inl ⟨l0, rfl⟩⟩
    | 1, a, b =>
      cases a
      cases b
      exact ⟨u1, r1, .inl ⟨l1, rfl⟩⟩
    | 2, a, b =>
      cases a
      cases b
      exact ⟨u2, r2, .inl ⟨l2, rfl⟩⟩
    | 3, a, b => cases b
    | n + 4, a, b => simp at b
  · obtain ⟨_, rfl⟩ := only e
    exact ⟨_, _, kp _ _ ccS.1, rfl⟩
  · obtain ⟨_, rfl⟩ := only e
    exact ccS.2
end
end Own

set_option Elab.async false
set_option linter.all false
set_option maxRecDepth 100000
set_option maxHeartbeats 4000000
/-! The run of an own __init__ that begins with super().__init__(text). -/
namespace Own
open PySem PySem.Spec PyProof.Rows L2
section
variable {P : Program} {w : World} {K : PySem.W.Frag} {mg : Str → Option Value} {base : Heap} {C fI cda cc : Addr} {params : Arguments} {body rest : List Stmt} {scope : Scope} {fd : FuncData} {A : Around} {outer : List Env} {s : Shared} {H : Hp} {E : XK} {v1 v2 : V} {u1 u2 : Value} {args : Args} {Q : VK} {a : Addr} {k : Nat}
theorem sup_run {p0 p1 pa pc p3 p4 : Pos} {j : Nat} {m : Str} {pl : Sem Bool} (S : SupS scope) (T : SupC K mg P C fI cda cc params body scope fd)
    (eb : body = Stmt.Expr (.Call (.Attribute (.Call (.Name "super" p0) [] [] p1) "__init__" pa) [.Constant (.str m) j pc] [] p3) p4 :: rest)
    (he : ∀ env : Env, eval (.Call (.Attribute (.Call (.Name "super" p0) [] [] p1) "__init__" pa) [.Constant (.str m) j pc] [] p3) env = (do
      let ov ← attributeBase (.Call (.Name "super" p0) [] [] p1) "__init__" env (eval (.Call (.Name "super" p0) [] [] p1) env)
      standAt pa.atName
      let (f, first) ← holding [ov] (getMethod ov "__init__" pl)
      callWith p3 f first (backTo p3 (starEach [.Constant (.str m) j pc] env)) []))
    (hr : Room (k + 1) A) (e0 : Env0 P w K mg base A outer s H) (hb : BindsTo s fd args (([("self" : Str), "between", "apart"]).zip [.ref a, u1, u2])) (r1 : RelV v1 u1) (r2 : RelV v2 u2) (ea : H a = some (exo a C none))
    (hrest : ∃ t, PSs (supCx P w K mg base scope fI cda cc A outer s H E) rest t ∧ t { nx := fun _ H' => Q .non H', rt := Q } [some (.ref a), some v1, some v2, none] H) :
    codeAny (model P w) A (.call (.ref fI) args) (CR (L2.CX P w) outer P w H s Q E) s := by
  obtain ⟨oc, dV, kV, doc, pm, ct, od, an, osl, ef, lk⟩ := T.fn
  obtain ⟨ccl, cdd, vs, ccs, file, tf, lc, ev2, hfile⟩ := T.file
  obtain ⟨cl, cld, csl, lcc⟩ := T.cell
  obtain ⟨nm, q, N, bs, bm, sn, sub, ab, col, dd, k0, k1, k2, k3, k5, hC, hbm⟩ := T.oex.cls
  obtain ⟨ar, har, earg⟩ := T.arg
  have stood : ∀ b o, base.get? b = some o → s.heap.get? b = some o := fun b o e => (e0.bs b o e).1
  have KX := e0.mod.kin.keeps stood
  subst ef
  refine ks_codeAny_call_defAt (fd := PySem.W.ksFn "__init__" "Parted.__init__" params body scope dV kV doc pm an (.ref cda) ct cc) (body := body) (binds := [("self", .ref a), ("between", u1), ("apart", u2)]) hr.depth (KX _ _ lk) rfl (e0.mod.nolimit.keeps stood) (PySem.W.codeRec_of KX T.code) rfl hb S.nocell
    (fun x hx => ?_) (fun h0 hns kp => ?_) S.co S.gen S.kind
  · have hx : x ∈ [(("self" : Str), Value.ref a), ("between", u1), ("apart", u2)] := hx
    simp only [List.mem_cons, List.mem_nil_iff, or_false] at hx
    rcases hx with rfl | rfl | rfl
    · exact S.loc.1
    · exact S.loc.2.1
    · exact S.loc.2.2
  have I : Inv (supCx P w K mg base scope fI cda cc A outer s H E) [] [some (.ref a), some v1, some v2, none] H { s with heap := h0, toks := s.toks + 3 } := sup_start S T.cell hr.hd e0 (v0 := .ref a) rfl r1 r2 hns kp
  obtain ⟨t, ht, hq⟩ := hrest
  obtain ⟨t1, ho⟩ := exo_at I.hok ea
  rcases s with ⟨hh, g, d, tk, os⟩
  obtain ⟨mb, hb1, hb2⟩ := I.mod.blt
  have X0 := I.kIn
  have hD := X0 _ _ hC
  have Ia : PySem.W.InstAt h0 a { cls := .ref C, dict := none, data := .fields #[.ref t1, .none, .none, .none, .bool false, .none] } C none := ⟨ho, rfl, rfl, trivial⟩
  have hcl : PySem.W.clsIn K C = some { name := nm, bases := bs, mro := .ref C :: bm, ns := N, qualname := q, hasDict := true, slotNames := sn, subclasses := sub, abstract := ab, collection := col, hasDel := false } := by unfold PySem.W.clsIn; rw [hC] <;> rfl
  have alo : PySem.W.alongIn K "__init__" (((Value.ref C :: bm).dropWhile (· != .ref C)).drop 1) = some (some (.builtin "ValueError.__init__")) := by
    have z := T.meth
    unfold PySem.W.ks_superIn at z
    rw [hcl] at z
    exact z
  have hke : (supEnv scope ⟨hh, g, d, tk, os⟩ fI cda cc).scope.kind = .function := S.kind
  subst eb
  refine ks_wpAt_execs_cons (ks_wpAt_Expr_any (ks_wpAt_MethodCall (pl := pl) ?_ (he _)) (by show (scope.kind == .module && _) = false; rw [S.kind]; rfl))
  refine ks_wpAt_super_base (env := supEnv scope ⟨hh, g, d, tk, os⟩ fI cda cc) S.sup S.cls (by decide) rfl (X0 _ _ lk) rfl har rfl (X0 _ _ lc) rfl ev2 hfile T.top ?_
  refine PySem.W.ks_loadName_global hke S.sup (Calls.loadGlobal_builtin (env := supEnv scope ⟨hh, g, d, tk, os⟩ fI cda cc) (I.mod.glob.keeps I.bk) T.sup (hb1.keeps I.bk) ((hb2 _ (by decide +kernel)).trans PyProof.Rows.Boot.«super») ⟨rfl, ?_⟩)
  refine wpAny_loadName_free hke S.cls rfl ⟨_, X0 _ _ lcc, rfl⟩ ?_
  rw [earg]
  refine wpAny_loadName_local hke S.loc.1 hns rfl ?_
  refine ks_wpAny_isType_cls hD rfl ⟨rfl, ?_⟩
  refine ks_wpAny_call_super hD rfl ho rfl (fun c e => by cases e) (PySem.W.looks_mroIn X0 T.own) (fun h1 e1 kp1 => ?_)
  have X1 : K.In h1 := X0.keeps kp1
  have I1 : PySem.W.InstAt h1 a { cls := .ref C, dict := none, data := .fields #[.ref t1, .none, .none, .none, .bool false, .none] } C none := ⟨kp1 _ _ ho, rfl, rfl, trivial⟩
  refine PySem.W.kxs_getMethod PySem.W.kxs_ValueError e1 (PySem.W.looks_opaque X1 T.opq) (l₀ := .ref C :: bm) (fun A Q E s k q => wpAny_bind ((PySem.W.looks_clsIn X1 hcl) A _ E s k (wpAny_pure q))) rfl X1 alo (I1.type.andThen (PySem.W.looks_subIn X1 T.ve)) (PySem.W.ks_ne X1 I1 hcl) (by decide) ?_
  have hu : (h1.push (PySem.W.kxs_mw "ValueError.__init__" a)).get? h1.objs.size = some (PySem.W.kxs_mw "ValueError.__init__" a) := Heap.get?_push_at rfl rfl
  have kp2 : ∀ b o, h1.get? b = some o → (h1.push (PySem.W.kxs_mw "ValueError.__init__" a)).get? b = some o := fun b o e => Heap.get?_push_of_some _ e
  refine PySem.W.kxs_callWith (i := "ValueError.__init__") (x := a) (by rfl) ?_
  refine Calls.evalArgs_plain (Calls.spliced_cons (Calls.Constant_str (k := j) (pos := pc) (Calls.spliced_nil ⟨hu, ?_⟩)))
  refine call_bound_ve (VeAt.keeps ⟨_, _, _, _, _, _, _, _, _, _, _, _, _, _, _, _, hD⟩ fun b o q => kp2 b o (kp1 b o q)) (kp2 _ _ (kp1 _ _ ho)) hu (by show 1 ≤ sizeLine; rw [sizeLine_eq]; omega) (fun h3 t3 kp3 e3 => ?_)
  have J := I.write (t' := tk + 3 + 1 + 1) (x := a) (e := a) (h' := h3) (o := exo a C none) (by rw [ea]; exact True.intro) (.inl rfl) (fun b o hb e => kp3 b o hb (kp2 _ _ (kp1 _ _ e))) ⟨_, e3⟩ (exo_ok e3)
  rw [show upd H a (exo a C none) = H from funext fun b => (Decidable.em (b = a)).elim (fun z => by rw [z, upd_same, ea]) upd_ne] at J
  refine wpAt_of_wpAny (wpAny_mono (ht.run [] _ _ _ _ J hq) (fun fl s' told => ?_) fun _ _ z => z)
  match fl, told with
  | .next, ⟨_, H', J', q⟩ => exact ⟨.non, H', J'.os, J'.bare, J'.base, J'.hok, rfl, q⟩
  | .ret _, ⟨v, _, H', J', rel, q⟩ => exact ⟨v, H', J'.os, J'.bare, J'.base, J'.hok, rel, q⟩
  | .brk, ⟨_, _, _, z⟩ => exact z.elim
  | .cont, ⟨_, _, _, z⟩ => exact z.elim
end
end Own

set_option Elab.async false
set_option linter.all false
set_option maxRecDepth 100000
set_option maxHeartbeats 4000000
/-! An own error with its dict, kept as a value: made, and its attributes read. -/
namespace Own
open PySem PySem.Spec PyProof.Rows L2
/-- at p a list of references to these lists -/
abbrev Lsts (H : Hp) : List V → List (List V) → Prop := Paired fun v xs => ∃ t, v = V.ref t ∧ H t = some (.lst xs)
theorem lsts_ext {H H' : Hp} (k : ∀ t xs, H t = some (.lst xs) → H' t = some (.lst xs)) : ∀ {vs : List V} {xss : List (List V)}, Lsts H vs xss → Lsts H' vs xss
  | _, _, .nil => .nil
  | _, _, .cons ⟨t, e, h⟩ r => .cons ⟨t, e, k t _ h⟩ (lsts_ext k r)
theorem lsts_snoc {H : Hp} {t : Addr} {xs : List V} (h : H t = some (.lst xs)) : ∀ {vs : List V} {xss : List (List V)}, Lsts H vs xss → Lsts H (vs ++ [V.ref t]) (xss ++ [xs])
  | _, _, .nil => .cons ⟨t, rfl, h⟩ .nil
  | _, _, .cons r q => .cons r (lsts_snoc h q)
theorem lsts_get {H : Hp} : ∀ {vs : List V} {xss : List (List V)} {i : Nat}, Lsts H vs xss → i < vs.length → ∃ t xs, vs[i]? = some (V.ref t) ∧ xss[i]? = some xs ∧ H t = some (.lst xs)
  | _, _, _, .nil, e => by simp at e
  | _, _, 0, .cons ⟨t, e, h⟩ _, q => ⟨t, _, by rw [e]; rfl, rfl, h⟩
  | _, _, i + 1, .cons _ r, q => by
    obtain ⟨t, xs, h1, h2, h3⟩ := lsts_get (i := i) r (by simpa using q)
    exact ⟨t, xs, by simpa using h1, by simpa using h2, h3⟩
section
variable {X : Cx} {e : Expr} {es : List Expr} {te : TE} {ta : TA} {n x : Str} {p pos : Pos} {C fI : Addr} {k : Nat} {fd : FuncData} {ps : List Str} {sp : Sp} {CX : CXT}
/-- such an error's attribute -/
theorem pe_exf (he : PE X e te) (hb : attributeBase e n X.env (eval e X.env) = eval e X.env := by rfl) :
    PE X (.Attribute e n pos) (fun σ H Q => te σ H fun x H1 => ∃ (a C d : Addr) (fs : List (Str × V)) (v : V), x = .ref a ∧ XfC X.K C ∧ PySem.W.findIn X.K (.ref C) n = some none ∧ H1 a = some (exo a C (some d)) ∧ H1 d = some (exd d fs) ∧ fs.lookup n = some v ∧ Q v H1) := by
  refine ⟨fun pins s σ H Q I wish => attr_of hb (thn (he.run pins s σ H _ I wish) ?_)⟩
  rintro _ s1 ⟨_, H1, I1, here, a, C, d, fs, v, rfl, T, noIn, ea, ed, found, q⟩
  cases here
  obtain ⟨_, at_⟩ := exo_at I1.hok ea
  obtain ⟨mA, ns, rel⟩ := exd_at I1.hok ed
  obtain ⟨od, dict, look⟩ := lookIn_ns ns
  have of := rel n
  rw [found] at of
  obtain ⟨u, there, ru⟩ := RelO.some_of of
  have inst : PySem.W.InstAt s1.heap a _ C (some od) := ⟨at_, rfl, rfl, dict⟩
  have own := PySem.W.findObj_own T.hdC noIn rfl ((look n).trans (congrArg some there))
  exact HandSPX.exc_get I1.kIn inst T.ga T.gg T.exC own (handed_of ru) ⟨v, H1, I1.tok _, ru, q⟩
/-! ### C(e, ..) as a value -/
/-- the heap in which C's __init__ begins: the arguments' tuple, and the exception behind it -/
def excHeap (h : Heap) (C : Addr) (us : List Value) : Heap := (h.push (PySem.W.kdv_tup us)).push (PySem.HandSPX.excO C h.objs.size)
theorem exc_made {pins : List (Addr × Obj)} {σ : L2.St} {H : Hp} {s : Shared} (C : Addr) (us : List Value) (I : Inv X pins σ H s) : H (s.heap.objs.size + 1) = none ∧ Inv X pins σ (upd H (s.heap.objs.size + 1) (exo (s.heap.objs.size + 1) C none)) { s with heap := excHeap s.heap C us } := by
  have behind : s.heap.objs.size ≤ s.heap.objs.size + 1 := by omega
  have there : (excHeap s.heap C us).get? (s.heap.objs.size + 1) = some (PySem.HandSPX.excO C s.heap.objs.size) := by
    unfold excHeap
    heap_get
  exact ⟨I.hok.fresh behind, I.laid (t' := s.toks) (h' := excHeap s.heap C us) (fun b o q => Heap.get?_push_of_some _ (Heap.get?_push_of_some _ q)) behind (exo_ok there)⟩
/-- C's own __init__ keeping sp -/
theorem pe_mkO (T : OexC X.K C) (iC : PySem.W.findIn X.K (.ref C) "__init__" = some (some (.ref fI))) (tI : PySem.W.typeIn X.K (.ref fI) = some (.type "function"))
    (F1 : FnOk X.prog X.w X.K X.mg X.base CX k fI fd ps sp) (hr : Room (k + 1) X.A) (hb : Binds X.K fd ps []) (hx : Passes CX X (fun _ _ _ => False)) (hg : Gl X x) (hm : X.mg x = some (.ref C)) (ha : PA X (e :: es) ta)
    (hdb : (x == ("__debug__" : Str)) = false := by decide) (he : starEach (e :: es) X.env = (false, eval e X.env) :: starEach es X.env := by rfl) (hpl : (backTo pos (starEach es X.env)).any (·.1) = false := by rfl) :
    PE X (.Call (.Name x p) (e :: es) [] pos) (fun σ H Q => ta σ H fun vs H1 => vs.length ≤ 1000 ∧ ∀ a, H1 a = none → sp (.ref a :: vs) (upd H1 a (exo a C none)) (fun v H2 => v = .non ∧ Q (.ref a) H2) (fun _ _ _ => False)) := by
  refine ⟨fun pins s σ H Q I wish => wpAny_Call_Name_kw (ld_glob I hg hm (PySem.W.callWith_K (h₀ := X.base) I.ok.mod.kin T.kC (thn (ha.run pos pins s σ H _ I wish) ?_) he hpl) hdb)⟩
  rintro us s1 ⟨vs, H1, I1, rel, few, go⟩
  refine ⟨I1.kIn, ?_⟩
  obtain ⟨new, I2⟩ := exc_made C us I1
  have want := go _ new
  have all : Vals (V.ref (s1.heap.objs.size + 1) :: vs) (Value.ref (s1.heap.objs.size + 1) :: us) := .cons rfl rel
  have binds := hb _ (Value.ref (s1.heap.objs.size + 1) :: us) I2.kIn (by rw [List.append_nil, ← F1.len _ _ _ _ want]; exact all.length.symm)
  rw [List.append_nil] at binds
  have small : us.length ≤ sizeLine := by
    have z := rel.length
    rw [sizeLine_eq]
    omega
  have init := F1.run _ X.stack _ _ ⟨Value.ref (s1.heap.objs.size + 1) :: us, []⟩ _ _ _ (fun _ _ _ => False) (hr.make C us []) (I2.env0.make C us []) binds all want
  obtain ⟨_, _, _, _, _, _, _, _, _, _, _, _, _, _, _, isC, base⟩ := T.cls
  refine wpAny_call (PySem.HandSPX.call_own F.excBase_ValueError (fun Y => PySem.HandSPX.refsVE_contains Y _ base) (I1.kIn _ _ isC) (PySem.W.looks_findIn I1.kIn iC) (fun self => PySem.W.bind_fn I1.kIn self tI) small (codeAny_mono init fun r s' out => ?_))
  match r, out with
  | .error _, out => exact hx pins σ _ _ _ s' I2 out
  | .ok (.ret _), out =>
    obtain ⟨_, H2, J, rv, none_, q⟩ := I2.after out
    cases none_
    exact ⟨rv, .ref _, H2, J, rfl, q⟩
  | .ok .next, out => exact out.elim
  | .ok .brk, out => exact out.elim
  | .ok .cont, out => exact out.elim
end
/-- new lists of these, none at r -/
abbrev NewL (H H' : Hp) (r : Addr) : List V → List (List V) → Prop := Paired fun v ys => ∃ t, v = V.ref t ∧ t ≠ r ∧ H t = none ∧ H' t = some (.lst ys)
theorem newL_ext {H H1 H2 : Hp} {r : Addr} (k : ∀ t ys, t ≠ r → H t = none → H1 t = some (.lst ys) → H2 t = some (.lst ys)) : ∀ {vs : List V} {yss : List (List V)}, NewL H H1 r vs yss → NewL H H2 r vs yss
  | _, _, .nil => .nil
  | _, _, .cons ⟨t, e, n, z, h⟩ q => .cons ⟨t, e, n, z, k t _ n z h⟩ (newL_ext k q)
theorem newL_snoc {H H' : Hp} {r t : Addr} {ys : List V} (n : t ≠ r) (z : H t = none) (h : H' t = some (.lst ys)) : ∀ {vs : List V} {yss : List (List V)}, NewL H H' r vs yss → NewL H H' r (vs ++ [V.ref t]) (yss ++ [ys])
  | _, _, .nil => .cons ⟨t, rfl, n, z, h⟩ .nil
  | _, _, .cons q w => .cons q (newL_snoc n z h w)
theorem newL_get {H H' : Hp} {r : Addr} : ∀ {vs : List V} {yss : List (List V)} {i : Nat}, NewL H H' r vs yss → i < vs.length → ∃ t ys, vs[i]? = some (V.ref t) ∧ yss[i]? = some ys ∧ t ≠ r ∧ H t = none ∧ H' t = some (.lst ys)
  | _, _, _, .nil, e => by simp at e
  | _, _, 0, .cons ⟨t, e, n, z, h⟩ _, _ => ⟨t, _, by rw [e]; rfl, rfl, n, z, h⟩
  | _, _, i + 1, .cons _ q, l => by
    obtain ⟨t, ys, h1, h2, h3⟩ := newL_get (i := i) q (by simpa using l)
    exact ⟨t, ys, by simpa using h1, by simpa using h2, h3⟩
theorem newL_lsts {H H' : Hp} {r : Addr} : ∀ {vs : List V} {yss : List (List V)}, NewL H H' r vs yss → Lsts H' vs yss
  | _, _, .nil => .nil
  | _, _, .cons ⟨t, e, _, _, h⟩ q => .cons ⟨t, e, h⟩ (newL_lsts q)
end Own

set_option Elab.async false
set_option linter.all false
set_option maxRecDepth 100000
set_option maxHeartbeats 4000000
/-! The head's look: the library's facts, and an error's own __init__ with its class's cell. -/
namespace Own
open PySem PySem.Spec PyProof.Rows L2
/-! ### Bools of facts -/
/-- an error class with its own __init__ -/
def oexB (K : PySem.W.Frag) (C : Addr) : Bool := (match K.lookup C with
  | some ⟨.type t, _, .cls cd, sl⟩ => decide (t = "type") && ((match cd.mro, sl.toList with
    | .ref D :: bm, [_, _, _, _, some (.builtin n), _] => decide (D = C) && (decide (n = "ValueError.__new__") && PySem.HandSPX.refsVE bm)
    | _, _ => false) && (cd.hasDict && !cd.hasDel))
  | _ => false) && (He.eqO (PySem.W.findIn K (.ref C) "__setattr__") (some (some (.builtin "object.__setattr__"))) && (decide (PySem.W.subIn K (.ref C) (.type "BaseException") = some true) && (decide (PySem.W.typeIn K (.ref C) = some (.type "type")) && PySem.W.keepIn K (.ref C))))
theorem oexB_ok {K : PySem.W.Frag} {C : Addr} (h : oexB K C = true) : OexC K C := by
  obtain ⟨h1, h⟩ := He.ba h
  obtain ⟨h2, h⟩ := He.ba h
  obtain ⟨h3, h⟩ := He.ba h
  obtain ⟨h4, h5⟩ := He.ba h
  refine ⟨?_, He.eqO_ok h2, of_decide_eq_true h3, of_decide_eq_true h4, h5⟩
  split at h1
  · rename_i t dd cd sl ho
    obtain ⟨d1, g1⟩ := He.ba h1
    obtain ⟨h6, g2⟩ := He.ba g1
    obtain ⟨h8, h9⟩ := He.ba g2
    have e1 := of_decide_eq_true d1
    clear d1 g1 g2 h1
    subst e1
    obtain ⟨nm, bs, mro, ns, qn, hd, sn, sub, ab, col, del⟩ := cd
    split at h6
    · rename_i D bm k0 k1 k2 k3 n k5 hm hs
      obtain ⟨d2, h10⟩ := He.ba h6
      obtain ⟨d3, h11⟩ := He.ba h10
      have e2 := of_decide_eq_true d2
      have e3 := of_decide_eq_true d3
      clear d2 d3 h10 h6
      subst e2 e3
      dsimp only at hm h8 h9
      subst hm h8
      have e4 : del = false := by
        cases del with
        | false => rfl
        | true => cases h9
      subst e4
      have hsl : sl = #[k0, k1, k2, k3, some (.builtin "ValueError.__new__"), k5] := by
        obtain ⟨l⟩ := sl
        simp only at hs
        rw [hs]
      subst hsl
      exact ⟨nm, qn, ns, bs, bm, sn, sub, ab, col, dd, k0, k1, k2, k3, k5, ho, h11⟩
    · cases h6
  · cases h1
/-- an error class whose instances are asked for their kind -/
def excCB (K : PySem.W.Frag) (D : Addr) : Bool := He.eqO (PySem.W.findIn K (.ref D) "__getattribute__") (some (some (.builtin "BaseException.__getattribute__"))) && (He.eqO (PySem.W.findIn K (.ref D) "__getattr__") (some none) && (decide (PySem.W.subIn K (.ref D) (.type "BaseException") = some true) &&
  (PySem.W.hasDictIn K D && (He.eqO (PySem.W.findIn K (.ref D) "__class__") (some (some (.builtin "object.__class__"))) && (He.eqO (PySem.W.specialIn K (.builtin "object.__class__") "__get__") (some (some (.builtin "getset_descriptor.__get__"))) &&
  (decide (PySem.W.takesIn K (.builtin "object.__class__") = some true) && decide (PySem.W.mroIn K D (.type "object") = some true)))))))
theorem excCB_ok {K : PySem.W.Frag} {D : Addr} (h : excCB K D = true) : ExcC K D := by
  obtain ⟨h1, h⟩ := He.ba h
  obtain ⟨h2, h⟩ := He.ba h
  obtain ⟨h3, h⟩ := He.ba h
  obtain ⟨h4, h⟩ := He.ba h
  obtain ⟨h5, h⟩ := He.ba h
  obtain ⟨h6, h⟩ := He.ba h
  obtain ⟨h7, h8⟩ := He.ba h
  exact ⟨He.eqO_ok h1, He.eqO_ok h2, of_decide_eq_true h3, h4, He.eqO_ok h5, He.eqO_ok h6, of_decide_eq_true h7, of_decide_eq_true h8⟩
/-! ### a method that captures its class -/
abbrev SupV : Type := Option (Str × Str × Arguments × FuncBody × Scope × Addr × List Str × Value × Addr)
def supObs (K : PySem.W.Frag) (f : Addr) : SupV := match K.lookup f with
  | some ⟨_, _, .func fd, _⟩ => some (fd.name, fd.qualname, fd.params, fd.body, fd.scope, fd.globals, fd.closure.map (·.1), fd.defaults, fd.builtins)
  | _ => none
def supVal (st : Stmt) : SupV := some ("__init__", "Parted.__init__", defArgs st, .stmts (defBody st), defScope st, mainGlobals, ["__class__"], .none, builtinsNs)
def fileB (o : Option Value) (file : Str) : Bool := match o with
  | some (.str g _) => (file == g)
  | _ => false
theorem fileB_ok {o : Option Value} {file : Str} (h : fileB o file = true) : ∃ g t, o = some (.str g t) ∧ (file == g) = true := by
  cases o with
  | none => cases h
  | some v =>
    cases v with
    | str g t => exact ⟨g, t, rfl, h⟩
    | _ => cases h
def supB (K : PySem.W.Frag) (f C : Addr) (file : Str) : Bool := match K.lookup f with
  | some ⟨_, _, .func fd, _⟩ => (match fd.code with
    | .ref cda => PySem.W.codeIn K (.ref cda) "Parted.__init__" && (match K.lookup cda with
      | some ⟨_, _, .fields vs, _⟩ => fileB vs[2]? file
      | _ => false)
    | _ => false) && (match fd.closure with
    | (_, cc) :: _ => (match K.lookup cc with
      | some ⟨_, _, .cell (some (.ref D)), _⟩ => decide (D = C)
      | _ => false)
    | _ => false)
  | _ => false
theorem sup_of {K : PySem.W.Frag} {mg : Str → Option Value} {P : Program} {f C : Addr} {st : Stmt} (e : supObs K f = supVal st) (b : supB K f C P.main.file = true) (oex : OexC K C) (arg : ∃ ar : Arg, ((defArgs st).posonlyargs ++ (defArgs st).args).head? = some ar ∧ ar.arg = "self")
    (sup : mg "super" = none) (opq : PySem.W.nsIn K cStatics "thirdparty.any" = some none) (meth : PySem.W.ks_superIn K C C "__init__" = some (some (.builtin "ValueError.__init__"))) (ve : PySem.W.subIn K (.ref C) (.type "ValueError") = some true) (own : PySem.W.mroIn K C (.ref C) = some true)
    (top : (P.main.scope.names.lookup ("super" : Str)).isSome = false) :
    ∃ (cda cc : Addr) (kV doc pm ct : Value) (an : Option Addr), SupC K mg P C f cda cc (defArgs st) (defBody st) (defScope st) (PySem.W.ksFn "__init__" "Parted.__init__" (defArgs st) (defBody st) (defScope st) .none kV doc pm an (.ref cda) ct cc) := by
  unfold supObs at e
  unfold supB at b
  cases q : K.lookup f with
  | none =>
    rw [q] at b
    cases b
  | some o =>
    obtain ⟨oc, od, dt, osl⟩ := o
    rw [q] at b e
    cases dt with
    | func fd =>
      obtain ⟨n1, n2, n3, n4, n5, n6, n7, n8, n9, n10, n11, n12, n13, n14, n15⟩ := fd
      have e2 : (some (n1, n2, n3, n4, n5, n6, n7.map (·.1), n8, n15) : SupV) = some (("__init__" : Str), ("Parted.__init__" : Str), defArgs st, FuncBody.stmts (defBody st), defScope st, mainGlobals, ([("__class__" : Str)] : List Str), Value.none, builtinsNs) := e
      simp only [Option.some.injEq, Prod.mk.injEq] at e2
      obtain ⟨h1, h2, h3, h4, h5, h6, h7, h8, h9⟩ := e2
      subst h1 h2 h3 h4 h5 h6 h8 h9
      obtain ⟨cc, rfl⟩ : ∃ cc, n7 = [(("__class__" : Str), cc)] := by
        cases n7 with
        | nil => exact absurd (congrArg List.length h7) (by simp)
        | cons p r =>
          cases r with
          | nil =>
            obtain ⟨x, c⟩ := p
            have z : [x] = [("__class__" : Str)] := h7
            have z2 : x = "__class__" := (List.cons.inj z).1
            exact ⟨c, by rw [z2]⟩
          | cons p2 r2 => exact absurd (congrArg List.length h7) (by simp)
      obtain ⟨b1, b2⟩ := He.ba b
      cases n13 with
      | ref cda =>
        obtain ⟨b3, b4⟩ := He.ba b1
        refine ⟨cda, cc, n9, n10, n11, n14, n12, oex, ⟨oc, .none, n9, n10, n11, n14, od, n12, osl, rfl, q⟩, arg, b3, ?_, ?_, sup, opq, meth, ve, own, top⟩
        · cases q2 : K.lookup cda with
          | none =>
            rw [q2] at b4
            cases b4
          | some o2 =>
            obtain ⟨oc2, od2, dt2, osl2⟩ := o2
            rw [q2] at b4
            cases dt2 with
            | fields vs =>
              obtain ⟨g, t, q3, b5⟩ := fileB_ok b4
              exact ⟨oc2, od2, vs, osl2, g, t, rfl, q3, b5⟩
            | _ => cases b4
        · cases q2 : K.lookup cc with
          | none =>
            have b5 : (match K.lookup cc with | some ⟨_, _, .cell (some (.ref D)), _⟩ => decide (D = C) | _ => false) = true := b2
            rw [q2] at b5
            cases b5
          | some o2 =>
            have b5 : (match K.lookup cc with | some ⟨_, _, .cell (some (.ref D)), _⟩ => decide (D = C) | _ => false) = true := b2
            obtain ⟨oc2, od2, dt2, osl2⟩ := o2
            rw [q2] at b5
            cases dt2 with
            | cell u =>
              cases u with
              | none => cases b5
              | some u =>
                cases u with
                | ref D =>
                  have z := of_decide_eq_true b5
                  exact ⟨oc2, od2, osl2, by rw [z]⟩
                | _ => cases b5
            | _ => cases b5
      | _ => cases b1
    | _ => cases b
/-! ### the look -/
def asY (g : Addr → Option Obj) (n : Nat) : List Addr := cStatics :: He.asD g n
abbrev AlY : Type := He.AlX × List SupV
def obsY (n : Nat) (fa : List He.Fa) (fn : List He.DefD) (tf : List He.Defn) (ex : PySem.W.Frag → Bool) (ss : List ((PySem.W.Frag → Addr) × Stmt)) (g : Addr → Option Obj) : AlY :=
  ((He.obsT fa fn [] (He.frT g (asY g n)), ex (He.frT g (asY g n)) && He.tabsB g tf (He.frT g (asY g n))), ss.map fun d => supObs (He.frT g (asY g n)) (d.1 (He.frT g (asY g n))))
def valY (fn : List He.DefD) (ss : List ((PySem.W.Frag → Addr) × Stmt)) (w : World) : AlY := (He.valX fn [] w, ss.map fun d => supVal d.2)
structure SaysY (fa : List He.Fa) (fn : List He.DefD) (tf : List He.Defn) (ex : PySem.W.Frag → Bool) (ss : List ((PySem.W.Frag → Addr) × Stmt)) (w : World) (h : Heap) (K : PySem.W.Frag) : Prop where
  x : He.SaysX fa fn [] tf ex w h K
  s : ss.map (fun d => supObs K (d.1 K)) = ss.map fun d => supVal d.2
theorem saysY_of {n : Nat} {fa : List He.Fa} {fn : List He.DefD} {tf : List He.Defn} {ex : PySem.W.Frag → Bool} {ss : List ((PySem.W.Frag → Addr) × Stmt)} {w : World} {h : Heap} (e : obsY n fa fn tf ex ss h.get? = valY fn ss w) : SaysY fa fn tf ex ss w h (He.frT h.get? (asY h.get? n)) := by
  obtain ⟨e12, e3⟩ := Prod.mk.inj e
  obtain ⟨e1, e2⟩ := Prod.mk.inj e12
  obtain ⟨m, tb⟩ := He.ba e2
  have look : ∀ p ∈ tf, PySem.W.codeHdIn (He.frT h.get? (asY h.get? n)) (He.cT (He.frT h.get? (asY h.get? n)) p).1 (He.cT (He.frT h.get? (asY h.get? n)) p).2 = true ∧ ∃ o, h.get? (He.cT (He.frT h.get? (asY h.get? n)) p).2 = some o ∧ He.emptyTab o = true := fun p hp => by
    obtain ⟨z1, z2⟩ := He.ba (List.all_eq_true.mp tb p hp)
    refine ⟨z1, ?_⟩
    revert z2
    cases h.get? (He.cT (He.frT h.get? (asY h.get? n)) p).2 with
    | none => exact fun z => by cases z
    | some o => exact fun z => ⟨o, rfl, z⟩
  refine ⟨⟨e1, m, fun p hp => (look p hp).1, fun p hp => ?_, fun p hp => ?_⟩, e3⟩
  · obtain ⟨_, o, q, z⟩ := look p hp
    exact He.frT_none q z
  · obtain ⟨_, o, q, z⟩ := look p hp
    rw [q, He.emptyTab_eq z]
def hookY (n : Nat) (fa : List He.Fa) (fn : List He.DefD) (tf : List He.Defn) (ex : PySem.W.Frag → Bool) (ss : List ((PySem.W.Frag → Addr) × Stmt)) : PySem.W.Hook where
  α := AlY
  obs := fun s => obsY n fa fn tf ex ss s.heap.get?
  val := fun w => valY fn ss w
  says := fun w h => ∃ K : PySem.W.Frag, K.In h ∧ SaysY fa fn tf ex ss w h K
  of := fun _ _ e => ⟨_, He.frT_in, saysY_of e⟩
  keeps := fun _ _ _ ⟨K, hK, c⟩ k => ⟨K, PySem.W.Frag.In.keeps hK k, ⟨⟨c.x.t, c.x.more, c.x.hd, c.x.out, fun p hp => k _ _ (c.x.empty p hp)⟩, c.s⟩⟩
theorem obsY_eq {n : Nat} {fa : List He.Fa} {fn : List He.DefD} {tf : List He.Defn} {ex : PySem.W.Frag → Bool} {ss : List ((PySem.W.Frag → Addr) × Stmt)} {g : Addr → Option Obj} {s : Shared} (h : ∀ a, g a = s.heap.get? a) : obsY n fa fn tf ex ss g = (hookY n fa fn tf ex ss).obs s := by
  have e : g = s.heap.get? := funext h
  rw [e] <;> rfl
theorem sup_binds {K : PySem.W.Frag} {name qual : Str} {params : Arguments} {body : List Stmt} {scope : Scope} {dV kV doc pm cdv ct : Value} {an : Option Addr} {cc : Addr} {ps : List Str}
    (h : ∀ us : List Value, us.length = ps.length → bindArgs (PySem.W.ksFn name qual params body scope dV kV doc pm an cdv ct cc) ⟨us, []⟩ = pure (ps.zip us)) : Binds K (PySem.W.ksFn name qual params body scope dV kV doc pm an cdv ct cc) ps [] := fun s us _ hl => by
  rw [List.append_nil] at hl ⊢
  exact .of_eq (h us hl)
end Own

set_option Elab.async false
set_option linter.all false
set_option maxRecDepth 100000
set_option maxHeartbeats 4000000
/-! Places joined by streets: ways, classes, their least places. -/
namespace Own
abbrev Join := List (Nat × Nat)
inductive Way (ps : Join) : Nat → Nat → Prop
  | stay (a : Nat) : Way ps a a
  | fwd {a b c : Nat} : Way ps a b → (b, c) ∈ ps → Way ps a c
  | bwd {a b c : Nat} : Way ps a b → (c, b) ∈ ps → Way ps a c
section
variable {ps qs : Join} {m a b c x y : Nat}
theorem Way.trans (h : Way ps a b) (k : Way ps b c) : Way ps a c := by
  induction k with
  | stay => exact h
  | fwd _ e ih => exact .fwd ih e
  | bwd _ e ih => exact .bwd ih e
theorem Way.symm (h : Way ps a b) : Way ps b a := by
  induction h with
  | stay => exact .stay _
  | fwd _ e ih => exact (Way.bwd (.stay _) e).trans ih
  | bwd _ e ih => exact (Way.fwd (.stay _) e).trans ih
theorem Way.mono (s : ∀ q ∈ ps, q ∈ qs) (h : Way ps a b) : Way qs a b := by
  induction h with
  | stay => exact .stay _
  | fwd _ e ih => exact .fwd ih (s _ e)
  | bwd _ e ih => exact .bwd ih (s _ e)
theorem Way.lt (s : ∀ q ∈ ps, q.1 < m ∧ q.2 < m) (ha : a < m) (h : Way ps a b) : b < m := by
  induction h with
  | stay => exact ha
  | fwd _ e ih => exact (s _ e).2
  | bwd _ e ih => exact (s _ e).1
/-- what holds the begin and is closed holds all that is come to -/
theorem Way.closed {S : Nat → Prop} (h : Way ps a b) (ha : S a) (cl : ∀ q ∈ ps, (S q.1 ↔ S q.2)) : S b := by
  induction h with
  | stay => exact ha
  | fwd _ e ih => exact (cl _ e).mp ih
  | bwd _ e ih => exact (cl _ e).mpr ih
/-- a street more -/
theorem way_snoc : Way (ps ++ [(a, b)]) x y ↔ Way ps x y ∨ (Way ps x a ∧ Way ps b y) ∨ (Way ps x b ∧ Way ps a y) := by
  have up : ∀ {u v}, Way ps u v → Way (ps ++ [(a, b)]) u v := fun h => h.mono fun q hq => List.mem_append_left _ hq
  have e : (a, b) ∈ ps ++ [(a, b)] := List.mem_append_right _ (List.mem_singleton.mpr rfl)
  constructor
  · intro h
    induction h with
    | stay => exact .inl (.stay _)
    | @fwd v w _ e ih =>
      rcases List.mem_append.mp e with e | e
      · rcases ih with h | ⟨h1, h2⟩ | ⟨h1, h2⟩
        · exact .inl (.fwd h e)
        · exact .inr (.inl ⟨h1, .fwd h2 e⟩)
        · exact .inr (.inr ⟨h1, .fwd h2 e⟩)
      · cases List.mem_singleton.mp e
        rcases ih with h | ⟨h1, h2⟩ | ⟨h1, h2⟩
        · exact .inr (.inl ⟨h, .stay _⟩)
        · exact .inr (.inl ⟨h1, .stay _⟩)
        · exact .inl h1
    | @bwd v w _ e ih =>
      rcases List.mem_append.mp e with e | e
      · rcases ih with h | ⟨h1, h2⟩ | ⟨h1, h2⟩
        · exact .inl (.bwd h e)
        · exact .inr (.inl ⟨h1, .bwd h2 e⟩)
        · exact .inr (.inr ⟨h1, .bwd h2 e⟩)
      · cases List.mem_singleton.mp e
        rcases ih with h | ⟨h1, h2⟩ | ⟨h1, h2⟩
        · exact .inr (.inr ⟨h, .stay _⟩)
        · exact .inl h1
        · exact .inr (.inr ⟨h1, .stay _⟩)
  · rintro (h | ⟨h1, h2⟩ | ⟨h1, h2⟩)
    · exact up h
    · exact (Way.fwd (up h1) e).trans (up h2)
    · exact (Way.bwd (up h1) e).trans (up h2)
/-- only what is in the list counts -/
theorem way_same (s : ∀ q, q ∈ ps ↔ q ∈ qs) : Way ps a b ↔ Way qs a b := ⟨fun h => h.mono fun q hq => (s q).mp hq, fun h => h.mono fun q hq => (s q).mpr hq⟩
/-- a street between places that are joined joins no more -/
theorem way_add (h : Way ps a b) (s : ∀ q ∈ qs, q = (a, b) ∨ q ∈ ps) (w : Way qs x y) : Way ps x y := by
  induction w with
  | stay => exact .stay _
  | fwd _ e ih =>
    rcases s _ e with z | z
    · cases z
      exact ih.trans h
    · exact .fwd ih z
  | bwd _ e ih =>
    rcases s _ e with z | z
    · cases z
      exact ih.trans h.symm
    · exact .bwd ih z
end
/-! ### the least of a class -/
def Least (ps : Join) (h : Nat) : Prop := ∀ q, q < h → ¬ Way ps q h
theorem least_of (ps : Join) : ∀ p : Nat, ∃ h, h ≤ p ∧ Way ps h p ∧ Least ps h := fun p => by
  induction p using Nat.strongRecOn with
  | ind p ih =>
    by_cases l : Least ps p
    · exact ⟨p, Nat.le_refl _, .stay _, l⟩
    · have z : ∃ q, q < p ∧ Way ps q p := Classical.byContradiction fun n => l fun q hq w => n ⟨q, hq, w⟩
      obtain ⟨q, hq, w⟩ := z
      obtain ⟨h, h1, h2, h3⟩ := ih q hq
      exact ⟨h, Nat.le_trans h1 (Nat.le_of_lt hq), h2.trans w, h3⟩
theorem least_uniq {ps : Join} {h k : Nat} (a : Least ps h) (b : Least ps k) (w : Way ps h k) : h = k := by
  rcases Nat.lt_trichotomy h k with l | e | l
  · exact (b _ l w).elim
  · exact e
  · exact (a _ l w.symm).elim
noncomputable def cls (m : Nat) (ps : Join) (p : Nat) : List Nat := (List.range m).filter fun q => @decide (Way ps p q) (Classical.propDecidable _)
noncomputable def heads (m : Nat) (ps : Join) : List Nat := (List.range m).filter fun p => @decide (Least ps p) (Classical.propDecidable _)
noncomputable def partsOf (m : Nat) (ps : Join) : List (List Nat) := (heads m ps).map (cls m ps)
section
variable {ps qs : Join} {m a b p q x y : Nat}
theorem mem_cls : q ∈ cls m ps p ↔ q < m ∧ Way ps p q := by
  unfold cls
  rw [List.mem_filter, List.mem_range]
  exact and_congr_right fun _ => @decide_eq_true_iff _ (Classical.propDecidable _)
theorem mem_heads : p ∈ heads m ps ↔ p < m ∧ Least ps p := by
  unfold heads
  rw [List.mem_filter, List.mem_range]
  exact and_congr_right fun _ => @decide_eq_true_iff _ (Classical.propDecidable _)
theorem range_up (m : Nat) : (List.range m).Pairwise (· < ·) := List.pairwise_lt_range
theorem cls_up : (cls m ps p).Pairwise (· < ·) := (range_up m).filter _
theorem heads_up : (heads m ps).Pairwise (· < ·) := (range_up m).filter _
theorem cls_same (w : Way ps p q) : cls m ps p = cls m ps q := by
  unfold cls
  refine List.filter_congr fun x _ => ?_
  have e : Way ps p x ↔ Way ps q x := ⟨fun h => w.symm.trans h, fun h => w.trans h⟩
  exact decide_eq_decide.mpr e
theorem cls_len : (cls m ps p).length ≤ m := by
  have z := List.length_filter_le (fun q => @decide (Way ps p q) (Classical.propDecidable _)) (List.range m)
  rw [List.length_range] at z
  exact z
theorem heads_len : (heads m ps).length ≤ m := by
  have z := List.length_filter_le (fun p => @decide (Least ps p) (Classical.propDecidable _)) (List.range m)
  rw [List.length_range] at z
  exact z
theorem parts_len : (partsOf m ps).length ≤ m := by
  unfold partsOf
  rw [List.length_map]
  exact heads_len
theorem parts_congr (e : ∀ x y, Way ps x y ↔ Way qs x y) : partsOf m ps = partsOf m qs := by
  have h1 : heads m ps = heads m qs := List.filter_congr fun x _ => by
    have z : Least ps x ↔ Least qs x := ⟨fun l q hq w => l q hq ((e _ _).mpr w), fun l q hq w => l q hq ((e _ _).mp w)⟩
    exact decide_eq_decide.mpr z
  have h2 : cls m ps = cls m qs := funext fun p => List.filter_congr fun x _ => by
    exact decide_eq_decide.mpr (e p x)
  unfold partsOf
  rw [h1, h2]
theorem filter_less {α : Type} {l : List α} {f g : α → Bool} (i : ∀ x ∈ l, f x = true → g x = true) (s : ∃ x ∈ l, g x = true ∧ f x = false) : (l.filter f).length < (l.filter g).length := by
  induction l with
  | nil =>
    obtain ⟨x, hx, _⟩ := s
    cases hx
  | cons a l ih =>
    have le : (l.filter f).length ≤ (l.filter g).length := by
      rw [← List.countP_eq_length_filter, ← List.countP_eq_length_filter]
      exact List.countP_mono_left fun x hx => i x (List.mem_cons_of_mem _ hx)
    obtain ⟨x, hx, gx, fx⟩ := s
    rcases List.mem_cons.mp hx with rfl | hx
    · rw [List.filter_cons, List.filter_cons, if_pos gx, if_neg (by rw [fx]; exact Bool.false_ne_true), List.length_cons]
      omega
    · have lt := ih (fun y hy => i y (List.mem_cons_of_mem _ hy)) ⟨x, hx, gx, fx⟩
      rw [List.filter_cons, List.filter_cons]
      by_cases fa : f a = true
      · rw [if_pos fa, if_pos (i a List.mem_cons_self fa), List.length_cons, List.length_cons]
        omega
      · rw [if_neg fa]
        by_cases ga : g a = true
        · rw [if_pos ga, List.length_cons]
          omega
        · rw [if_neg ga]
          exact lt
/-- a street whose ends are not joined without it: a part fewer with it -/
theorem parts_fewer (h : ¬ Way ps a b) (s : ∀ q, q ∈ qs ↔ q = (a, b) ∨ q ∈ ps) (ha : a < m) (hb : b < m) : (partsOf m qs).length < (partsOf m ps).length := by
  unfold partsOf
  rw [List.length_map, List.length_map]
  have up : ∀ {x y}, Way ps x y → Way qs x y := fun w => w.mono fun q hq => (s q).mpr (.inr hq)
  have ab : Way qs a b := .fwd (.stay _) ((s _).mpr (.inl rfl))
  refine filter_less (fun x _ hx => ?_) ?_
  · have l : Least qs x := (@decide_eq_true_iff _ (Classical.propDecidable _)).mp hx
    exact (@decide_eq_true_iff _ (Classical.propDecidable _)).mpr fun q hq w => l q hq (up w)
  · obtain ⟨la, a1, a2, a3⟩ := least_of ps a
    obtain ⟨lb, b1, b2, b3⟩ := least_of ps b
    have ne : la ≠ lb := fun e => h (a2.symm.trans (e ▸ b2))
    have both : Way qs la lb := ((up a2).trans ab).trans (up b2.symm)
    rcases Nat.lt_or_gt_of_ne ne with l | l
    · refine ⟨lb, List.mem_range.mpr (by omega), (@decide_eq_true_iff _ (Classical.propDecidable _)).mpr b3, (@decide_eq_false_iff_not _ (Classical.propDecidable _)).mpr fun z => z _ l both⟩
    · refine ⟨la, List.mem_range.mpr (by omega), (@decide_eq_true_iff _ (Classical.propDecidable _)).mpr a3, (@decide_eq_false_iff_not _ (Classical.propDecidable _)).mpr fun z => z _ l both.symm⟩
theorem parts_grow (s : ∀ q, q ∈ qs ↔ q = (a, b) ∨ q ∈ ps) (ha : a < m) (hb : b < m) : (partsOf m qs).length < (partsOf m ps).length ↔ ¬ Way ps a b := by
  refine ⟨fun l w => ?_, fun h => parts_fewer h s ha hb⟩
  have e : partsOf m ps = partsOf m qs := parts_congr fun x y => ⟨fun h => h.mono fun q hq => (s q).mpr (.inr hq), fun h => way_add w (fun q hq => (s q).mp hq) h⟩
  rw [e] at l
  omega
end
/-! ### lists in order -/
theorem up_uniq : ∀ {l1 l2 : List Nat}, l1.Pairwise (· < ·) → l2.Pairwise (· < ·) → (∀ x, x ∈ l1 ↔ x ∈ l2) → l1 = l2
  | [], [], _, _, _ => rfl
  | [], b :: l2, _, _, e => absurd ((e b).mpr List.mem_cons_self) (by simp)
  | a :: l1, [], _, _, e => absurd ((e a).mp List.mem_cons_self) (by simp)
  | a :: l1, b :: l2, p1, p2, e => by
    rw [List.pairwise_cons] at p1 p2
    have hab : a = b := by
      rcases List.mem_cons.mp ((e a).mp List.mem_cons_self) with h | h
      · exact h
      · rcases List.mem_cons.mp ((e b).mpr List.mem_cons_self) with k | k
        · exact k.symm
        · have := p2.1 a h
          have := p1.1 b k
          omega
    subst hab
    refine congrArg (a :: ·) (up_uniq p1.2 p2.2 fun x => ?_)
    constructor
    · intro h
      rcases List.mem_cons.mp ((e x).mp (List.mem_cons_of_mem _ h)) with k | k
      · have := p1.1 x h
        omega
      · exact k
    · intro h
      rcases List.mem_cons.mp ((e x).mpr (List.mem_cons_of_mem _ h)) with k | k
      · have := p2.1 x h
        omega
      · exact k
theorem nodup_le : ∀ {m : Nat} {xs : List Nat}, xs.Nodup → (∀ x ∈ xs, x < m) → xs.length ≤ m
  | 0, xs, _, h => by
    cases xs with
    | nil => exact Nat.le_refl _
    | cons a r => exact absurd (h a List.mem_cons_self) (by omega)
  | m + 1, xs, nd, h => by
    have ih := nodup_le (m := m) (xs := xs.erase m) (nd.erase _) (fun x hx => by
      have z := (nd.mem_erase_iff).mp hx
      have := h x z.2
      omega)
    have z : xs.length ≤ (xs.erase m).length + 1 := by
      by_cases hm : m ∈ xs
      · rw [List.length_erase_of_mem hm]
        omega
      · rw [List.erase_of_not_mem hm]
        omega
    omega
/-- sorted whole numbers that are these places -/
theorem sorted_cls {S : List Nat} {ys : List Int} {l : List Nat} (p : ys.Perm (S.map fun (q : Nat) => (q : Int))) (up : ys.Pairwise (· ≤ ·)) (nd : S.Nodup) (hl : l.Pairwise (· < ·)) (e : ∀ x, x ∈ S ↔ x ∈ l) : ys = l.map fun (q : Nat) => (q : Int) := by
  have nn : ∀ y ∈ ys, ∃ k : Nat, y = (k : Int) := fun y hy => by
    obtain ⟨k, _, rfl⟩ := List.mem_map.mp (p.mem_iff.mp hy)
    exact ⟨k, rfl⟩
  have back : ∃ zs : List Nat, ys = zs.map fun (q : Nat) => (q : Int) := by
    clear p up
    induction ys with
    | nil => exact ⟨[], rfl⟩
    | cons y ys ih =>
      obtain ⟨k, hk⟩ := nn y List.mem_cons_self
      obtain ⟨zs, hz⟩ := ih fun z hz => nn z (List.mem_cons_of_mem _ hz)
      exact ⟨k :: zs, by rw [hk, hz]; rfl⟩
  obtain ⟨zs, rfl⟩ := back
  have inj : Function.Injective (fun (q : Nat) => (q : Int)) := fun a b h => Int.ofNat.inj h
  have mem : ∀ x, x ∈ zs ↔ x ∈ S := fun x => by
    have z := p.mem_iff (a := (x : Int))
    constructor
    · intro h
      obtain ⟨k, hk, ek⟩ := List.mem_map.mp (z.mp (List.mem_map.mpr ⟨x, h, rfl⟩))
      have : k = x := Int.ofNat.inj ek
      exact this ▸ hk
    · intro h
      obtain ⟨k, hk, ek⟩ := List.mem_map.mp (z.mpr (List.mem_map.mpr ⟨x, h, rfl⟩))
      have : k = x := Int.ofNat.inj ek
      exact this ▸ hk
  have ndz : zs.Nodup := by
    have z : (S.map fun (q : Nat) => (q : Int)).Nodup := by
      rw [List.nodup_iff_pairwise_ne, List.pairwise_map]
      exact (List.nodup_iff_pairwise_ne.mp nd).imp fun h k => h (Int.ofNat.inj k)
    have y := (p.nodup_iff).mpr z
    rw [List.nodup_iff_pairwise_ne, List.pairwise_map] at y
    exact List.nodup_iff_pairwise_ne.mpr (y.imp fun h k => h (by rw [k]))
  have upz : zs.Pairwise (· < ·) := by
    rw [List.pairwise_map] at up
    have y := List.nodup_iff_pairwise_ne.mp ndz
    exact (up.and y).imp fun ⟨h, k⟩ => by omega
  rw [up_uniq upz hl fun x => (mem x).trans (e x)]
end Own

set_option Elab.async false
set_option linter.all false
set_option maxRecDepth 100000
set_option maxHeartbeats 4000000
/-! Steps, and the walks that are found by them: pure. -/
namespace Own
open L2
def natV (q : Nat) : V := .int (q : Int)
def ends (rows : List TRow) : Join := rows.map (·.2)
def normR (r : TRow) : TRow := (r.1, min r.2.1 r.2.2, max r.2.1 r.2.2)
def flipR (r : TRow) : TRow := (r.1, r.2.2, r.2.1)
theorem flipR_flipR (r : TRow) : flipR (flipR r) = r := rfl
theorem normR_flipR (r : TRow) : normR (flipR r) = normR r := by
  show (r.1, min r.2.2 r.2.1, max r.2.2 r.2.1) = (r.1, min r.2.1 r.2.2, max r.2.1 r.2.2)
  rw [Nat.min_comm, Nat.max_comm]
inductive Led (ws : Join) : Nat → Nat → Prop
  | stay (a : Nat) : Led ws a a
  | go {a b c : Nat} : Led ws a b → (b, c) ∈ ws → Led ws a c
section
variable {ws ws' : Join} {m a b c : Nat}
theorem Led.trans (h : Led ws a b) (k : Led ws b c) : Led ws a c := by
  induction k with
  | stay => exact h
  | go _ e ih => exact .go ih e
theorem Led.closed {S : Nat → Prop} (h : Led ws a b) (ha : S a) (cl : ∀ q ∈ ws, S q.1 → S q.2) : S b := by
  induction h with
  | stay => exact ha
  | go _ e ih => exact cl _ e ih
theorem Led.mono (s : ∀ q ∈ ws, q ∈ ws') (h : Led ws a b) : Led ws' a b := by
  induction h with
  | stay => exact .stay _
  | go _ e ih => exact .go ih (s _ e)
theorem Led.way (h : Led ws a b) : Way ws a b := by
  induction h with
  | stay => exact .stay _
  | go _ e ih => exact .fwd ih e
end
/-- both ways -/
def bothWays (rows : List TRow) : List TRow := rows.flatMap fun r => [r, flipR r]
theorem both_nil : bothWays [] = [] := rfl
theorem both_cons (r : TRow) (rows : List TRow) : bothWays (r :: rows) = r :: flipR r :: bothWays rows := rfl
theorem both_snoc (r : TRow) (rows : List TRow) : bothWays (rows ++ [r]) = bothWays rows ++ [r, flipR r] := by
  unfold bothWays
  rw [List.flatMap_append]
  rfl
theorem mem_both {rows : List TRow} {x : TRow} : x ∈ bothWays rows ↔ x ∈ rows ∨ flipR x ∈ rows := by
  unfold bothWays
  rw [List.mem_flatMap]
  constructor
  · rintro ⟨r, hr, h⟩
    simp only [List.mem_cons, List.not_mem_nil, or_false] at h
    rcases h with h | h
    · exact .inl (h ▸ hr)
    · right
      rw [h, flipR_flipR]
      exact hr
  · rintro (h | h)
    · exact ⟨x, h, List.mem_cons_self ..⟩
    · exact ⟨flipR x, h, by rw [flipR_flipR]; simp⟩
theorem both_len (rows : List TRow) : (bothWays rows).length = 2 * rows.length := by
  induction rows with
  | nil => rfl
  | cons r rows ih =>
    rw [both_cons, List.length_cons, List.length_cons, List.length_cons, ih]
    omega
theorem both_flip {rows : List TRow} {x : TRow} (h : x ∈ bothWays rows) : flipR x ∈ bothWays rows := by
  rw [mem_both] at h ⊢
  rw [flipR_flipR]
  exact h.symm
theorem both_filter (p : Nat → Bool) (rows : List TRow) : (bothWays rows).filter (fun x => p x.1) = bothWays (rows.filter fun x => p x.1) := by
  induction rows with
  | nil => rfl
  | cons r rows ih =>
    rw [both_cons]
    have f : (flipR r).1 = r.1 := rfl
    cases h : p r.1 with
    | true => rw [List.filter_cons, if_pos h, List.filter_cons, if_pos (by rw [f]; exact h), ih, List.filter_cons, if_pos h, both_cons]
    | false => rw [List.filter_cons, if_neg (by rw [h]; exact Bool.false_ne_true), List.filter_cons, if_neg (by rw [f, h]; exact Bool.false_ne_true), ih, List.filter_cons, if_neg (by rw [h]; exact Bool.false_ne_true)]
theorem both_filterP (p : Nat → Bool) (rows : List TRow) (h : ∀ r ∈ rows, p r.2.1 = p r.2.2) : (bothWays rows).filter (fun x => p x.2.1) = bothWays (rows.filter fun x => p x.2.1) := by
  induction rows with
  | nil => rfl
  | cons r rows ih =>
    have ih := ih fun x hx => h x (List.mem_cons_of_mem _ hx)
    have hr := h r (List.mem_cons_self ..)
    rw [both_cons]
    have f : (flipR r).2.1 = r.2.2 := rfl
    cases e : p r.2.1 with
    | true => rw [List.filter_cons, if_pos e, List.filter_cons, if_pos (by rw [f, ← hr]; exact e), ih, List.filter_cons, if_pos e, both_cons]
    | false => rw [List.filter_cons, if_neg (by rw [e]; exact Bool.false_ne_true), List.filter_cons, if_neg (by rw [f, ← hr, e]; exact Bool.false_ne_true), ih, List.filter_cons, if_neg (by rw [e]; exact Bool.false_ne_true)]
theorem both_in {m : Nat} {rows : List TRow} (inm : ∀ q ∈ ends rows, q.1 < m ∧ q.2 < m) : ∀ q ∈ ends (bothWays rows), q.1 < m ∧ q.2 < m := fun q hq => by
  obtain ⟨x, hx, rfl⟩ := List.mem_map.mp hq
  rcases mem_both.mp hx with h | h
  · exact inm _ (List.mem_map.mpr ⟨x, h, rfl⟩)
  · have z := inm _ (List.mem_map.mpr ⟨flipR x, h, rfl⟩)
    exact ⟨z.2, z.1⟩
theorem led_both {rows : List TRow} {a b : Nat} : Led (ends (bothWays rows)) a b ↔ Way (ends rows) a b := by
  constructor
  · intro h
    induction h with
    | stay => exact .stay _
    | @go b c _ e ih =>
      obtain ⟨x, hx, ex⟩ := List.mem_map.mp e
      have e1 : x.2.1 = b := congrArg Prod.fst ex
      have e2 : x.2.2 = c := congrArg Prod.snd ex
      rcases mem_both.mp hx with h | h
      · exact .fwd ih (List.mem_map.mpr ⟨x, h, ex⟩)
      · exact .bwd ih (List.mem_map.mpr ⟨flipR x, h, by rw [← e1, ← e2]; rfl⟩)
  · intro h
    induction h with
    | stay => exact .stay _
    | @fwd b c _ e ih =>
      obtain ⟨x, hx, ex⟩ := List.mem_map.mp e
      exact .go ih (List.mem_map.mpr ⟨x, mem_both.mpr (.inl hx), ex⟩)
    | @bwd b c _ e ih =>
      obtain ⟨x, hx, ex⟩ := List.mem_map.mp e
      have e1 : x.2.1 = c := congrArg Prod.fst ex
      have e2 : x.2.2 = b := congrArg Prod.snd ex
      exact .go ih (List.mem_map.mpr ⟨flipR x, mem_both.mpr (.inr hx), by rw [← e1, ← e2]; rfl⟩)
/-! ### walks as they are found -/
abbrev Walks := List (Nat × List TRow)
def wk (W : Walks) : List Nat := W.map (·.1)
def walkTo (W : Walks) (p : Nat) : List TRow := ((W.find? fun e => decide (e.1 = p)).map (·.2)).getD []
def stepW (a : Nat) (S : Walks × List Nat) (st : TRow) : Walks × List Nat :=
  if st.2.1 = a ∧ st.2.2 ∉ wk S.1 then (S.1 ++ [(st.2.2, walkTo S.1 a ++ [st])], S.2 ++ [st.2.2]) else S
def bfs (steps : List TRow) : Nat → Walks × List Nat → Walks
  | 0, S => S.1
  | _ + 1, (W, []) => W
  | n + 1, (W, a :: q) => bfs steps n (steps.foldl (stepW a) (W, q))
def walksF (steps : List TRow) (p : Nat) : Walks := bfs steps 16 ([(p, [])], [p])
theorem bfs_nil (steps : List TRow) (n : Nat) (W : Walks) : bfs steps n (W, []) = W := by
  cases n <;> rfl
theorem walkTo_mem {W : Walks} {k : Nat} (h : k ∈ wk W) : (k, walkTo W k) ∈ W := by
  obtain ⟨e, he, ek⟩ := List.mem_map.mp h
  unfold walkTo
  cases z : W.find? fun e => decide (e.1 = k) with
  | none =>
    have := List.find?_eq_none.mp z e he
    rw [decide_eq_true ek] at this
    exact (this rfl).elim
  | some x =>
    have h1 := List.find?_some z
    have h2 := List.mem_of_find?_eq_some z
    have h3 : x.1 = k := of_decide_eq_true h1
    show (k, x.2) ∈ W
    rw [← h3]
    exact h2
/-- how the walks hang together -/
inductive Tree (steps : List TRow) (p : Nat) : Walks → Prop
  | root : Tree steps p [(p, [])]
  | add {W : Walks} {a : Nat} {w0 : List TRow} {st : TRow} : Tree steps p W → (a, w0) ∈ W → st ∈ steps → st.2.1 = a → st.2.2 ∉ wk W → Tree steps p (W ++ [(st.2.2, w0 ++ [st])])
theorem wk_snoc (W : Walks) (k : Nat) (w : List TRow) : wk (W ++ [(k, w)]) = wk W ++ [k] := by
  unfold wk
  rw [List.map_append]
  rfl
/-- steps in a row from a to c -/
def Run : Nat → List TRow → Nat → Prop
  | a, [], c => a = c
  | a, st :: w, c => st.2.1 = a ∧ Run st.2.2 w c
theorem run_app : ∀ {u v : List TRow} {a c : Nat}, Run a (u ++ v) c ↔ ∃ b, Run a u b ∧ Run b v c
  | [], v, a, c => by
    constructor
    · exact fun h => ⟨a, rfl, h⟩
    · rintro ⟨b, h1, h2⟩
      have e : a = b := h1
      rw [List.nil_append, e]
      exact h2
  | st :: u, v, a, c => by
    show (st.2.1 = a ∧ Run st.2.2 (u ++ v) c) ↔ _
    rw [run_app]
    constructor
    · rintro ⟨e, b, h1, h2⟩
      exact ⟨b, ⟨e, h1⟩, h2⟩
    · rintro ⟨b, ⟨e, h1⟩, h2⟩
      exact ⟨e, b, h1, h2⟩
theorem run_snoc {u : List TRow} {st : TRow} {a : Nat} (h : Run a u st.2.1) : Run a (u ++ [st]) st.2.2 := run_app.mpr ⟨_, h, rfl, rfl⟩
theorem run_led : ∀ {w : List TRow} {a c : Nat}, Run a w c → Led (ends w) a c
  | [], a, c, h => by
    have e : a = c := h
    rw [e]
    exact .stay _
  | st :: w, a, c, ⟨e, h⟩ => by
    have l1 : Led (ends (st :: w)) a st.2.2 := .go (.stay a) (by rw [← e]; exact List.mem_cons_self ..)
    exact l1.trans ((run_led h).mono fun q hq => List.mem_cons_of_mem _ hq)
/-- each place on a run is led to, and leads on -/
theorem run_via : ∀ {w : List TRow} {a c : Nat}, Run a w c → ∀ st ∈ w, Led (ends w) a st.2.2 ∧ Led (ends w) st.2.2 c
  | st :: w, a, c, ⟨e, h⟩, x, hx => by
    have up : ∀ {u v : Nat}, Led (ends w) u v → Led (ends (st :: w)) u v := fun l => l.mono fun q hq => List.mem_cons_of_mem _ hq
    have l1 : Led (ends (st :: w)) a st.2.2 := .go (.stay a) (by rw [← e]; exact List.mem_cons_self ..)
    rcases List.mem_cons.mp hx with z | z
    · rw [z]
      exact ⟨l1, up (run_led h)⟩
    · have ih := run_via h x z
      exact ⟨l1.trans (up ih.1), up ih.2⟩
section
variable {steps : List TRow} {p m : Nat} {W : Walks}
theorem tree_root (T : Tree steps p W) : p ∈ wk W := by
  induction T with
  | root => exact List.mem_cons_self ..
  | add _ _ _ _ _ ih => rw [wk_snoc]; exact List.mem_append_left _ ih
theorem tree_nd (T : Tree steps p W) : (wk W).Nodup := by
  induction T with
  | root => exact (List.nodup_cons.mpr ⟨List.not_mem_nil, List.nodup_nil⟩)
  | add _ _ _ _ n ih =>
    rw [wk_snoc, List.nodup_append]
    refine ⟨ih, (List.nodup_cons.mpr ⟨List.not_mem_nil, List.nodup_nil⟩), fun x hx y hy e => ?_⟩
    rw [List.mem_singleton] at hy
    rw [hy] at e
    rw [e] at hx
    exact n hx
theorem tree_led (T : Tree steps p W) : ∀ k ∈ wk W, Led (ends steps) p k := by
  induction T with
  | root =>
    intro k hk
    rw [List.mem_singleton.mp hk]
    exact .stay _
  | @add W a w0 st T ha hs e n ih =>
    intro k hk
    rw [wk_snoc] at hk
    rcases List.mem_append.mp hk with z | z
    · exact ih k z
    · rw [List.mem_singleton.mp z]
      exact .go (ih a (List.mem_map.mpr ⟨_, ha, rfl⟩)) (List.mem_map.mpr ⟨st, hs, by rw [← e]⟩)
theorem tree_run (T : Tree steps p W) : ∀ e ∈ W, Run p e.2 e.1 ∧ (∀ st ∈ e.2, st ∈ steps ∧ st.2.1 ∈ wk W ∧ st.2.2 ∈ wk W) ∧ e.2.length < W.length := by
  induction T with
  | root =>
    intro e he
    rw [List.mem_singleton.mp he]
    exact ⟨rfl, fun st hst => absurd hst List.not_mem_nil, Nat.zero_lt_one⟩
  | @add W a w0 st T ha hs e n ih =>
    intro x hx
    have len : (W ++ [(st.2.2, w0 ++ [st])]).length = W.length + 1 := by rw [List.length_append]; rfl
    rcases List.mem_append.mp hx with z | z
    · obtain ⟨h1, h2, h3⟩ := ih x z
      refine ⟨h1, fun y hy => ?_, by omega⟩
      obtain ⟨g1, g2, g3⟩ := h2 y hy
      rw [wk_snoc]
      exact ⟨g1, List.mem_append_left _ g2, List.mem_append_left _ g3⟩
    · rw [List.mem_singleton.mp z]
      obtain ⟨h1, h2, h3⟩ := ih _ ha
      refine ⟨run_snoc (by rw [e]; exact h1), fun y hy => ?_, ?_⟩
      · rw [wk_snoc]
        rcases List.mem_append.mp hy with y1 | y1
        · obtain ⟨g1, g2, g3⟩ := h2 y y1
          exact ⟨g1, List.mem_append_left _ g2, List.mem_append_left _ g3⟩
        · rw [List.mem_singleton.mp y1]
          exact ⟨hs, List.mem_append_left _ (by rw [e]; exact List.mem_map.mpr ⟨_, ha, rfl⟩), List.mem_append_right _ (List.mem_singleton.mpr rfl)⟩
      · show (w0 ++ [st]).length < _
        rw [len, List.length_append]
        show w0.length + 1 < _
        have : w0.length < W.length := h3
        omega
/-- where a number has one street, no street is walked twice -/
theorem tree_nums (T : Tree steps p W) (u : ∀ x ∈ steps, ∀ y ∈ steps, x.1 = y.1 → y = x ∨ y = flipR x) : ∀ e ∈ W, (e.2.map (·.1)).Nodup := by
  induction T with
  | root =>
    intro e he
    rw [List.mem_singleton.mp he]
    exact List.nodup_nil
  | @add W a w0 st T ha hs e n ih =>
    intro x hx
    rcases List.mem_append.mp hx with z | z
    · exact ih x z
    · rw [List.mem_singleton.mp z]
      show ((w0 ++ [st]).map (·.1)).Nodup
      rw [List.map_append, List.nodup_append]
      refine ⟨ih _ ha, (List.nodup_cons.mpr ⟨List.not_mem_nil, List.nodup_nil⟩), fun i hi j hj ij => ?_⟩
      obtain ⟨y, hy, ey⟩ := List.mem_map.mp hi
      have hj : j = st.1 := List.mem_singleton.mp hj
      have g := (tree_run T _ ha).2.1 y hy
      rcases u y g.1 st hs (by rw [ey, ij, hj]) with s | s
      · rw [s] at n
        exact n g.2.2
      · rw [s] at n
        exact n g.2.1
/-- the search, in the midst -/
structure BfsI (steps : List TRow) (p m : Nat) (S : Walks × List Nat) : Prop where
  tree : Tree steps p S.1
  lt : ∀ k ∈ wk S.1, k < m
  sub : ∀ a ∈ S.2, a ∈ wk S.1
theorem bfsI_len {S : Walks × List Nat} (I : BfsI steps p m S) : S.1.length ≤ m := by
  have z := nodup_le (tree_nd I.tree) I.lt
  unfold wk at z
  rw [List.length_map] at z
  exact z
theorem stepW_yes {a : Nat} {S : Walks × List Nat} {st : TRow} (h1 : st.2.1 = a) (h2 : st.2.2 ∉ wk S.1) : stepW a S st = (S.1 ++ [(st.2.2, walkTo S.1 a ++ [st])], S.2 ++ [st.2.2]) := if_pos ⟨h1, h2⟩
theorem stepW_no {a : Nat} {S : Walks × List Nat} {st : TRow} (h : ¬ (st.2.1 = a ∧ st.2.2 ∉ wk S.1)) : stepW a S st = S := if_neg h
theorem stepW_I {S : Walks × List Nat} {a : Nat} {st : TRow} (I : BfsI steps p m S) (ha : a ∈ wk S.1) (hs : st ∈ steps) (b : st.2.2 < m) : BfsI steps p m (stepW a S st) := by
  by_cases h : st.2.1 = a ∧ st.2.2 ∉ wk S.1
  · rw [stepW_yes h.1 h.2]
    refine ⟨.add I.tree (walkTo_mem ha) hs h.1 h.2, fun k hk => ?_, fun x hx => ?_⟩
    · rw [wk_snoc] at hk
      rcases List.mem_append.mp hk with z | z
      · exact I.lt k z
      · rw [List.mem_singleton.mp z]
        exact b
    · show x ∈ wk (S.1 ++ [_])
      rw [wk_snoc]
      rcases List.mem_append.mp hx with z | z
      · exact List.mem_append_left _ (I.sub x z)
      · exact List.mem_append_right _ z
  · rw [stepW_no h]
    exact I
theorem stepW_keep {S : Walks × List Nat} {a : Nat} {st : TRow} {k : Nat} (h : k ∈ wk S.1) : k ∈ wk (stepW a S st).1 := by
  by_cases c : st.2.1 = a ∧ st.2.2 ∉ wk S.1
  · rw [stepW_yes c.1 c.2]
    show k ∈ wk (S.1 ++ [_])
    rw [wk_snoc]
    exact List.mem_append_left _ h
  · rw [stepW_no c]
    exact h
theorem stepW_put {S : Walks × List Nat} {a : Nat} {st : TRow} (h : st.2.1 = a) : st.2.2 ∈ wk (stepW a S st).1 := by
  by_cases c : st.2.2 ∈ wk S.1
  · exact stepW_keep c
  · rw [stepW_yes h c]
    show _ ∈ wk (S.1 ++ [_])
    rw [wk_snoc]
    exact List.mem_append_right _ (List.mem_singleton.mpr rfl)
/-- as much as the walks grow, so much longer those that wait; what is new waits -/
theorem stepW_size (S : Walks × List Nat) (a : Nat) (st : TRow) : (stepW a S st).2.length + S.1.length = S.2.length + (stepW a S st).1.length := by
  by_cases c : st.2.1 = a ∧ st.2.2 ∉ wk S.1
  · rw [stepW_yes c.1 c.2, List.length_append, List.length_append]
    show S.2.length + 1 + S.1.length = S.2.length + (S.1.length + 1)
    omega
  · rw [stepW_no c]
theorem stepW_new {S : Walks × List Nat} {a : Nat} {st : TRow} {k : Nat} (h : k ∈ wk (stepW a S st).1) : k ∈ wk S.1 ∨ k ∈ (stepW a S st).2 := by
  by_cases c : st.2.1 = a ∧ st.2.2 ∉ wk S.1
  · rw [stepW_yes c.1 c.2] at h ⊢
    have h : k ∈ wk (S.1 ++ [_]) := h
    rw [wk_snoc] at h
    rcases List.mem_append.mp h with z | z
    · exact .inl z
    · exact .inr (List.mem_append_right _ z)
  · rw [stepW_no c] at h
    exact .inl h
theorem stepW_wait {S : Walks × List Nat} {a : Nat} {st : TRow} {k : Nat} (h : k ∈ S.2) : k ∈ (stepW a S st).2 := by
  by_cases c : st.2.1 = a ∧ st.2.2 ∉ wk S.1
  · rw [stepW_yes c.1 c.2]
    exact List.mem_append_left _ h
  · rw [stepW_no c]
    exact h
/-- all steps of one place -/
structure FoldW (steps : List TRow) (p m a : Nat) (xs : List TRow) (S S' : Walks × List Nat) : Prop where
  I : BfsI steps p m S'
  keep : ∀ k ∈ wk S.1, k ∈ wk S'.1
  size : S'.2.length + S.1.length = S.2.length + S'.1.length
  new : ∀ k ∈ wk S'.1, k ∈ wk S.1 ∨ k ∈ S'.2
  wait : ∀ k ∈ S.2, k ∈ S'.2
  put : ∀ st ∈ xs, st.2.1 = a → st.2.2 ∈ wk S'.1
theorem fold_W {a : Nat} : ∀ {xs : List TRow} {S : Walks × List Nat}, BfsI steps p m S → a ∈ wk S.1 → (∀ st ∈ xs, st ∈ steps ∧ st.2.2 < m) → FoldW steps p m a xs S (xs.foldl (stepW a) S)
  | [], S, I, _, _ => ⟨I, fun _ h => h, rfl, fun _ h => .inl h, fun _ h => h, fun _ h => absurd h List.not_mem_nil⟩
  | x :: xs, S, I, ha, h => by
    have hx := h x (List.mem_cons_self ..)
    have F := fold_W (xs := xs) (S := stepW a S x) (stepW_I I ha hx.1 hx.2) (stepW_keep ha) fun st hst => h st (List.mem_cons_of_mem _ hst)
    have sz := stepW_size S a x
    have sz2 := F.size
    refine ⟨F.I, fun k hk => F.keep k (stepW_keep hk), ?_, fun k hk => ?_, fun k hk => F.wait k (stepW_wait hk), fun st hst e => ?_⟩
    · show (xs.foldl (stepW a) (stepW a S x)).2.length + S.1.length = _
      show _ = S.2.length + (xs.foldl (stepW a) (stepW a S x)).1.length
      omega
    · rcases F.new k hk with z | z
      · rcases stepW_new z with y | y
        · exact .inl y
        · exact .inr (F.wait k y)
      · exact .inr z
    · rcases List.mem_cons.mp hst with z | z
      · rw [z] at e ⊢
        exact F.keep _ (stepW_put e)
      · exact F.put st z e
theorem bfs_spec (inm : ∀ q ∈ ends steps, q.1 < m ∧ q.2 < m) : ∀ {n : Nat} {S : Walks × List Nat}, BfsI steps p m S → (∀ k ∈ wk S.1, k ∉ S.2 → ∀ st ∈ steps, st.2.1 = k → st.2.2 ∈ wk S.1) → S.2.length + (m - S.1.length) ≤ n →
    BfsI steps p m (bfs steps n S, []) ∧ ∀ k ∈ wk (bfs steps n S), ∀ st ∈ steps, st.2.1 = k → st.2.2 ∈ wk (bfs steps n S)
  | n, (W, []), I, cl, _ => by
    rw [bfs_nil]
    exact ⟨I, fun k hk => cl k hk List.not_mem_nil⟩
  | 0, (W, a :: q), I, cl, h => by
    have h : (q.length + 1) + (m - W.length) ≤ 0 := h
    omega
  | n + 1, (W, a :: q), I, cl, h => by
    have h : (q.length + 1) + (m - W.length) ≤ n + 1 := h
    have ha : a ∈ wk W := I.sub a (List.mem_cons_self ..)
    have I0 : BfsI steps p m (W, q) := ⟨I.tree, I.lt, fun x hx => I.sub x (List.mem_cons_of_mem _ hx)⟩
    have F := fold_W (a := a) (xs := steps) I0 ha fun st hst => ⟨hst, (inm _ (List.mem_map.mpr ⟨st, hst, rfl⟩)).2⟩
    have sz : (steps.foldl (stepW a) (W, q)).2.length + W.length = q.length + (steps.foldl (stepW a) (W, q)).1.length := F.size
    have l1 : (steps.foldl (stepW a) (W, q)).1.length ≤ m := bfsI_len F.I
    have l0 : W.length ≤ m := bfsI_len I0
    refine bfs_spec inm (n := n) F.I (fun k hk hn st hst e => ?_) (by omega)
    rcases F.new k hk with z | z
    · by_cases ka : k = a
      · exact F.put st hst (e.trans ka)
      · refine F.keep _ (cl k z (fun y => ?_) st hst e)
        rcases List.mem_cons.mp y with y | y
        · exact ka y
        · exact hn (F.wait k y)
    · exact (hn z).elim
theorem bfs_start (hp : p < m) : BfsI steps p m ([(p, [])], [p]) := ⟨.root, fun k hk => by rw [List.mem_singleton.mp hk]; exact hp, fun a ha => ha⟩
theorem walks_spec (inm : ∀ q ∈ ends steps, q.1 < m ∧ q.2 < m) (hp : p < m) (m16 : m ≤ 16) : Tree steps p (walksF steps p) ∧ (∀ k, k ∈ wk (walksF steps p) ↔ k < m ∧ Led (ends steps) p k) := by
  have z := bfs_spec inm (n := 16) (bfs_start (steps := steps) hp) (fun k hk hn => (hn hk).elim) (by show 1 + (m - 1) ≤ 16; omega)
  refine ⟨z.1.tree, fun k => ⟨fun hk => ⟨z.1.lt k hk, tree_led z.1.tree k hk⟩, fun hk => ?_⟩⟩
  refine hk.2.closed (S := fun k => k ∈ wk (walksF steps p)) (tree_root z.1.tree) fun q hq h1 => ?_
  obtain ⟨st, hst, e⟩ := List.mem_map.mp hq
  rw [← e]
  exact z.2 _ h1 st hst (by rw [← e])
theorem walks_len (inm : ∀ q ∈ ends steps, q.1 < m ∧ q.2 < m) (hp : p < m) (m16 : m ≤ 16) : (walksF steps p).length ≤ m := by
  have z := bfs_spec inm (n := 16) (bfs_start (steps := steps) hp) (fun k hk hn => (hn hk).elim) (by show 1 + (m - 1) ≤ 16; omega)
  exact bfsI_len z.1
end
end Own


set_option Elab.async false
set_option linter.all false
set_option maxRecDepth 100000
set_option maxHeartbeats 4000000
namespace K09
open PySem PySem.Spec PyProof.Rows L2 Own
def top (i : Nat) : Stmt := PySem.Challenge.pw_onewaytown_k09_towns_refused.main.body.getD i (.Pass ⟨0, 0, 0, 0⟩)
/-! ### what the top has written -/
abbrev gA (K : PySem.W.Frag) (x : Str) : Addr := He.ga K x
/-- an error class without a body of its own -/
structure ErrT (K : PySem.W.Frag) (mg : Str → Option Value) (y : Str) : Prop where
  m : mg y = some (.ref (gA K y))
  x : PySem.W.excIn K (gA K y) He.veBase "ValueError.__new__" = true
  k : PySem.W.keepIn K (.ref (gA K y)) = true
  b : PySem.W.subIn K (.ref (gA K y)) (.type "BaseException") = some true
  t : PySem.W.typeIn K (.ref (gA K y)) = some (.type "type")
structure Txt (K : PySem.W.Frag) (mg : Str → Option Value) : Prop where
  f_type : mg "type" = none
  f_int : mg "int" = none
  f_len : mg "len" = none
  g_MOST_PLACES : ∃ u, mg "MOST_PLACES" = some u ∧ RelV (.int 16) u
  g_MOST_STREETS : ∃ u, mg "MOST_STREETS" = some u ∧ RelV (.int 60) u
  cl : Cls K (gA K "Town")
  nMany : NoAttr K (gA K "Town") "_many"
  nEnds : NoAttr K (gA K "Town") "_ends"
  nBuilt : NoAttr K (gA K "Town") "_built"
  BadCount : ErrT K mg "BadCount"
  BadPlace : ErrT K mg "BadPlace"
  BadStreet : ErrT K mg "BadStreet"
  TooMany : ErrT K mg "TooMany"
abbrev FnP (K : PySem.W.Frag) (x q : Str) (st : Stmt) (f : Addr) (fd : FuncData) : Prop := FunD K x q (defArgs st) (defBody st) (defScope st) [] [] f fd
/-! ### the program: is_whole and Town -/
def spWhole : Sp := fun vs H Q _ => ∃ (x : V) (lo hi : Int), vs = [x, .int lo, .int hi] ∧ (∃ n, tyName x H = some n) ∧ Q (.bl (isW x lo hi)) H
abbrev s_is_whole : Stmt := top 10
abbrev N_is_whole : List Str := ["thing", "least", "most"]
theorem sc_is_whole : FnScope N_is_whole ["thing", "least", "most"] (defScope s_is_whole) := ⟨rfl, rfl, rfl, by decide +kernel, rfl, by decide +kernel, by decide +kernel⟩
section
variable {P : Program} {w : World} {K : PySem.W.Frag} {mg : Str → Option Value} {base : Heap} {f : Addr} {fd : FuncData}
theorem ok_is_whole (T : Txt K mg) (D : FnP K "is_whole" "is_whole" s_is_whole f fd) : FnOk P w K mg base (L2.CX P w) 1 f fd ["thing", "least", "most"] spWhole := by
  have nd := sc_is_whole.nd
  refine D.ok sc_is_whole (fun vs H Q E h => ?_) (fun cdv A outer s H vs Q E hr h => ?_)
  · obtain ⟨x, lo, hi, rfl, _⟩ := h
    rfl
  · obtain ⟨x, lo, hi, rfl, ⟨n, hn⟩, k⟩ := h
    have hu := hu_of hr
    refine ⟨_, (pss_one (ps_ret (pe_and (pe_cmpR op_eqTy (pe_callTy call_tyOf rfl T.f_type (by decide +kernel) (pa_cons (pv 0) pa_nil)) (pe_bltn (v := .ty "int") (u := .type "int") rfl T.f_int (by decide +kernel) rfl) (nomark _)) (pe_one (pe_chain op_le op_le (pv 1) (pv 0) (pv 2)))))), ?_⟩
    refine ⟨_, rfl, x, n, rfl, hn, n, "int", rfl, rfl, tyName_meta hn, meta_all.2.2.1, _, rfl, ?_⟩
    refine if_both (fun e => ?_) (fun e => ?_)
    · have en := of_decide_eq_true e
      rw [en] at hn
      obtain ⟨i, rfl⟩ := tyName_int hn
      refine ⟨_, rfl, _, rfl, _, _, rfl, rfl, _, rfl, ?_⟩
      refine if_both (fun e1 => ?_) (fun e1 => ?_)
      · refine ⟨_, rfl, _, _, rfl, rfl, ?_⟩
        have z : isW (.int i) lo hi = decide (i ≤ hi) := by
          show (decide (lo ≤ i) && decide (i ≤ hi)) = decide (i ≤ hi)
          rw [e1]
          rfl
        rw [z] at k
        exact k
      · have z : isW (.int i) lo hi = false := by
          show (decide (lo ≤ i) && decide (i ≤ hi)) = false
          rw [e1]
          rfl
        rw [z] at k
        exact k
    · have z : isW x lo hi = false := by
        cases x with
        | int i =>
          exfalso
          cases hn
          cases e
        | _ => rfl
      rw [z] at k
      exact k
end
def spInit (K : PySem.W.Frag) (C : Addr) : Sp := fun vs H Q E => ∃ (p dx : Addr) (x : V), vs = [.ref p, x] ∧ H p = some (.ins C dx []) ∧ (∃ n, tyName x H = some n) ∧
  (isW x 1 16 = false → E (.ref (gA K "BadCount")) none H) ∧
  (∀ (m : Nat), x = .int (m : Int) → 1 ≤ m → m ≤ 16 → ∀ (d : Addr) (H' : Hp), H d = none → TownAt C H' p d m [] 0 → (∀ b o, H b = some o → b ≠ p → H' b = some o) → Q .non H')
def spPlaces (C : Addr) : Sp := fun vs H Q _ => ∃ (p d : Addr) (m : Nat) (rows : List TRow) (n : Nat), vs = [.ref p] ∧ TownAt C H p d m rows n ∧ Q (.int (m : Int)) H
/-- build: refused as it says, in its order; else a row more -/
def spBuild (K : PySem.W.Frag) (C : Addr) : Sp := fun vs H Q E => ∃ (p d : Addr) (m : Nat) (rows : List TRow) (n : Nat) (x y : V), vs = [.ref p, x, y] ∧ TownAt C H p d m rows n ∧ (∃ t, tyName x H = some t) ∧ (∃ t, tyName y H = some t) ∧
  ((isW x 0 ((m : Int) - 1) = false ∨ isW y 0 ((m : Int) - 1) = false ∨ x = y) → E (.ref (gA K "BadPlace")) none H) ∧
  (∀ a b : Nat, x = .int (a : Int) → y = .int (b : Int) → a < m → b < m → a ≠ b → 60 ≤ rows.length → E (.ref (gA K "TooMany")) none H) ∧
  (∀ a b : Nat, x = .int (a : Int) → y = .int (b : Int) → a < m → b < m → a ≠ b → rows.length < 60 → ∀ H', TownAt C H' p d m (rows ++ [(n, a, b)]) (n + 1) → Keeps H H' p d → Q (.int (n : Int)) H')
/-- dig: a street that is there goes, anything else is refused -/
def spDig (K : PySem.W.Frag) (C : Addr) : Sp := fun vs H Q E => ∃ (p d : Addr) (m : Nat) (rows : List TRow) (n : Nat) (x : V), vs = [.ref p, x] ∧ TownAt C H p d m rows n ∧ (∃ t, tyName x H = some t) ∧
  ((¬ ∃ s : Nat, x = .int (s : Int) ∧ s ∈ rows.map (·.1)) → E (.ref (gA K "BadStreet")) none H) ∧
  (∀ s : Nat, x = .int (s : Int) → s ∈ rows.map (·.1) → ∀ H', TownAt C H' p d m (rows.filter fun r => decide (r.1 ≠ s)) n → Keeps H H' p d → Q .non H')
def spStreets (C : Addr) : Sp := fun vs H Q _ => ∃ (p d : Addr) (m : Nat) (rows : List TRow) (n : Nat), vs = [.ref p] ∧ TownAt C H p d m rows n ∧
  ∀ (l : Addr) (H' : Hp), H l = none → Same H H' → TL H' l (rows.map rowV) → Q (.ref l) H'
abbrev s_Town_init : Stmt := inClass (top 14) 0
abbrev N_Town_init : List Str := ["self", "many"]
theorem sc_Town_init : FnScope N_Town_init ["self", "many"] (defScope s_Town_init) := ⟨rfl, rfl, rfl, by decide +kernel, rfl, by decide +kernel, by decide +kernel⟩
abbrev s_Town_places : Stmt := inClass (top 14) 1
abbrev N_Town_places : List Str := ["self"]
theorem sc_Town_places : FnScope N_Town_places ["self"] (defScope s_Town_places) := ⟨rfl, rfl, rfl, by decide +kernel, rfl, by decide +kernel, by decide +kernel⟩
abbrev s_Town_build : Stmt := inClass (top 14) 2
abbrev N_Town_build : List Str := ["self", "one", "other", "street"]
theorem sc_Town_build : FnScope N_Town_build ["self", "one", "other"] (defScope s_Town_build) := ⟨rfl, rfl, rfl, by decide +kernel, rfl, by decide +kernel, by decide +kernel⟩
abbrev s_Town_dig : Stmt := inClass (top 14) 3
abbrev N_Town_dig : List Str := ["self", "street"]
theorem sc_Town_dig : FnScope N_Town_dig ["self", "street"] (defScope s_Town_dig) := ⟨rfl, rfl, rfl, by decide +kernel, rfl, by decide +kernel, by decide +kernel⟩
abbrev s_Town_streets : Stmt := inClass (top 14) 4
abbrev N_Town_streets : List Str := ["self", "street", "one", "other"]
theorem sc_Town_streets : FnScope N_Town_streets ["self"] (defScope s_Town_streets) := ⟨rfl, rfl, rfl, by decide +kernel, rfl, by decide +kernel, by decide +kernel⟩
section
variable {P : Program} {w : World} {K : PySem.W.Frag} {mg : Str → Option Value} {base : Heap} {f : Addr} {fd : FuncData}
theorem ok_init (T : Txt K mg) (D : FnP K "__init__" "Town.__init__" s_Town_init f fd) (c_is_whole : CalX P w K mg base 1 "is_whole" spWhole) : FnOk P w K mg base (L2.CX P w) 2 f fd ["self", "many"] (spInit K (gA K "Town")) := by
  have nd := sc_Town_init.nd
  refine D.ok sc_Town_init (fun vs H Q E h => ?_) (fun cdv A outer s H vs Q E hr h => ?_)
  · obtain ⟨p, dx, x, rfl, _⟩ := h
    rfl
  · obtain ⟨p, dx, x, rfl, hp, ⟨n, hn⟩, no, yes⟩ := h
    have hu := hu_of hr
    obtain ⟨f_is_whole, fd_is_whole, ps_is_whole, F_is_whole, m_is_whole, k_is_whole, b_is_whole⟩ := c_is_whole.ex
    refine ⟨_, (pss_cons (ps_if (pt_not (pt_val (pe_call F_is_whole (hr.mono (by decide)) rfl m_is_whole k_is_whole b_is_whole .nil passF (pa_cons (pv 1) (pa_cons pe_int (pa_cons (C8.pe_gc rfl T.g_MOST_PLACES) pa_nil)))))) (pss_one (ps_raise rfl (takes_of rfl rfl rfl rfl) (pmk_own PySem.F.excBase_ValueError T.BadCount.x T.BadCount.m T.BadCount.k (raises_own T.BadCount.b T.BadCount.t) rfl))) pss_nil)
      (pss_cons (ps_fld (pv 0) (pv 1) rfl)
      (pss_cons (ps_fld (pv 0) pe_dnewK rfl)
      (pss_one (ps_fld (pv 0) pe_int rfl))))), ?_⟩
    refine ⟨_, rfl, x, 1, 16, rfl, ⟨n, hn⟩, _, rfl, ?_⟩
    refine if_both (fun e => ?_) (fun e => ?_)
    · exact no (by simpa using e)
    · obtain ⟨i, rfl, h1, h2⟩ := isW_int (show isW x 1 16 = true by simpa using e)
      obtain ⟨m, rfl⟩ : ∃ m : Nat, i = (m : Int) := ⟨i.toNat, (Int.toNat_of_nonneg (by omega)).symm⟩
      refine ⟨_, rfl, _, rfl, p, gA K "Town", dx, [], rfl, hp, T.cl, T.nMany, (by show 0 < 1000; decide), ?_⟩
      intro d hd
      obtain ⟨ndp, hd0⟩ := upd_none hd
      refine ⟨_, rfl, p, gA K "Town", dx, _, rfl, (by rw [upd_ne ndp.symm]; exact upd_same), T.cl, T.nEnds, (by show 1 < 1000; decide), ?_⟩
      refine ⟨_, rfl, p, gA K "Town", dx, _, rfl, upd_same, T.cl, T.nBuilt, (by show 2 < 1000; decide), ?_⟩
      refine yes m rfl (by omega) (by omega) d _ hd0 ⟨⟨dx, Eq.trans upd_same (congrArg (fun l => some (HO.ins (gA K "Town") dx l)) (tF_new m d))⟩, ⟨[], by rw [upd_ne ndp, upd_ne ndp, upd_same], .nil⟩, ⟨List.Pairwise.nil, fun r hr => (nomatch hr), fun r hr => (nomatch hr), (by show 0 ≤ 60; decide)⟩, by omega⟩ fun b o e hb => ?_
      rw [upd_ne hb, upd_ne hb, upd_ne (ne_of_none e hd0), upd_ne hb]
      exact e
theorem ok_places (T : Txt K mg) (D : FnP K "places" "Town.places" s_Town_places f fd) : FnOk P w K mg base (L2.CX P w) 1 f fd ["self"] (spPlaces (gA K "Town")) := by
  have nd := sc_Town_places.nd
  refine D.ok sc_Town_places (fun vs H Q E h => ?_) (fun cdv A outer s H vs Q E hr h => ?_)
  · obtain ⟨p, d, m, rows, n, rfl, _⟩ := h
    rfl
  · obtain ⟨p, d, m, rows, n, rfl, W, k⟩ := h
    obtain ⟨dx, h1⟩ := W.ob
    refine ⟨_, (pss_one (ps_ret (pe_fld (pv 0) rfl))), ?_⟩
    exact ⟨_, rfl, p, _, dx, _, _, rfl, h1, T.cl, T.nMany, tF_many _ _ _, k⟩
theorem ok_build (T : Txt K mg) (D : FnP K "build" "Town.build" s_Town_build f fd) (c_is_whole : CalX P w K mg base 1 "is_whole" spWhole) : FnOk P w K mg base (L2.CX P w) 2 f fd ["self", "one", "other"] (spBuild K (gA K "Town")) := by
  have nd := sc_Town_build.nd
  refine D.ok sc_Town_build (fun vs H Q E h => ?_) (fun cdv A outer s H vs Q E hr h => ?_)
  · obtain ⟨p, d, m, rows, n, x, y, rfl, _⟩ := h
    rfl
  · obtain ⟨p, d, m, rows, n, x, y, rfl, W, hx, hy, bad, many, good⟩ := h
    have hu := hu_of hr
    obtain ⟨dx, h1⟩ := W.ob
    obtain ⟨kvs, h2, ents⟩ := W.dc
    have npd := W.pd
    obtain ⟨f_is_whole, fd_is_whole, ps_is_whole, F_is_whole, m_is_whole, k_is_whole, b_is_whole⟩ := c_is_whole.ex
    refine ⟨_, (pss_cons (ps_if (pt_not (pt_val (pe_call F_is_whole (hr.mono (by decide)) rfl m_is_whole k_is_whole b_is_whole .nil passF (pa_cons (pv 1) (pa_cons pe_int (pa_cons (pe_op op_sub (pe_fld (pv 0) rfl) pe_int) pa_nil)))))) (pss_one (ps_raise rfl (takes_of rfl rfl rfl rfl) (pmk_own PySem.F.excBase_ValueError T.BadPlace.x T.BadPlace.m T.BadPlace.k (raises_own T.BadPlace.b T.BadPlace.t) rfl))) pss_nil)
      (pss_cons (ps_if (pt_not (pt_val (pe_call F_is_whole (hr.mono (by decide)) rfl m_is_whole k_is_whole b_is_whole .nil passF (pa_cons (pv 2) (pa_cons pe_int (pa_cons (pe_op op_sub (pe_fld (pv 0) rfl) pe_int) pa_nil)))))) (pss_one (ps_raise rfl (takes_of rfl rfl rfl rfl) (pmk_own PySem.F.excBase_ValueError T.BadPlace.x T.BadPlace.m T.BadPlace.k (raises_own T.BadPlace.b T.BadPlace.t) rfl))) pss_nil)
      (pss_cons (ps_if (pt_cmpR op_eq (pv 1) (pv 2) (nomark _)) (pss_one (ps_raise rfl (takes_of rfl rfl rfl rfl) (pmk_own PySem.F.excBase_ValueError T.BadPlace.x T.BadPlace.m T.BadPlace.k (raises_own T.BadPlace.b T.BadPlace.t) rfl))) pss_nil)
      (pss_cons (ps_if (pt_cmpR op_ge (pe_callB call_lenD rfl T.f_len PySem.boot_len (pa_cons (pe_fld (pv 0) rfl) pa_nil)) (C8.pe_gc rfl T.g_MOST_STREETS) (nomark _)) (pss_one (ps_raise rfl (takes_of rfl rfl rfl rfl) (pmk_own PySem.F.excBase_ValueError T.TooMany.x T.TooMany.m T.TooMany.k (raises_own T.TooMany.b T.TooMany.t) rfl))) pss_nil)
      (pss_cons (ps_set (i := 3) nd rfl (Or.inl rfl) (pe_fld (pv 0) rfl))
      (pss_cons (ps_dput hu (pe_fld (pv 0) rfl) (pv 3) (pe_tup (pa_cons (pv 1) (pa_cons (pv 2) pa_nil))) rfl)
      (pss_cons (ps_fld (pv 0) (pe_op op_add (pv 3) pe_int) rfl)
      (pss_one (ps_ret (pv 3)))))))))), ?_⟩
    refine ⟨_, rfl, _, rfl, p, _, dx, _, _, rfl, h1, T.cl, T.nMany, tF_many _ _ _, _, _, rfl, rfl, x, 0, _, rfl, hx, _, rfl, ?_⟩
    refine if_both (fun e => bad (.inl (by simpa using e))) (fun e => ?_)
    refine ⟨_, rfl, _, rfl, p, _, dx, _, _, rfl, h1, T.cl, T.nMany, tF_many _ _ _, _, _, rfl, rfl, y, 0, _, rfl, hy, _, rfl, ?_⟩
    refine if_both (fun e2 => bad (.inr (.inl (by simpa using e2)))) (fun e2 => ?_)
    obtain ⟨a, rfl, ha⟩ := isW_nat (show isW x 0 ((m : Int) - 1) = true by simpa using e)
    obtain ⟨b, rfl, hb⟩ := isW_nat (show isW y 0 ((m : Int) - 1) = true by simpa using e2)
    refine ⟨_, rfl, _, rfl, rfl, _, rfl, ?_⟩
    refine if_both (fun e3 => bad (.inr (.inr (by simpa using e3)))) (fun e3 => ?_)
    have ne : a ≠ b := by
      intro z
      rw [z] at e3
      simp at e3
    refine ⟨_, rfl, p, _, dx, _, _, rfl, h1, T.cl, T.nEnds, tF_ends _ _ _, d, kvs, rfl, h2, _, _, rfl, rfl, _, rfl, ?_⟩
    refine if_both (fun e4 => ?_) (fun e4 => ?_)
    · refine many a b rfl rfl ha hb ne ?_
      have z := of_decide_eq_true e4
      rw [ents_len ents] at z
      omega
    · have few : rows.length < 60 := by
        have z := of_decide_eq_false e4
        rw [ents_len ents] at z
        omega
      refine ⟨_, rfl, p, _, dx, _, _, rfl, h1, T.cl, T.nBuilt, tF_built _ _ _, ?_⟩
      refine ⟨_, rfl, _, rfl, (by show 2 ≤ sizeLine; decide), fun t ht => ?_⟩
      have npt : p ≠ t := ne_of_none h1 ht
      have ndt : d ≠ t := ne_of_none h2 ht
      have newKey : valV kvs (Sum.inl (n : Int) : Key) = none := by
        have z := ents_has n ents
        cases q : valV kvs (Sum.inl (n : Int) : Key) with
        | none => rfl
        | some v =>
          rw [q] at z
          have z2 := of_decide_eq_true z.symm
          obtain ⟨r, hr1, hr2⟩ := List.mem_map.mp z2
          have := W.ok.below r hr1
          omega
      refine ⟨_, rfl, p, _, dx, _, _, rfl, (by rw [upd_ne npt]; exact h1), T.cl, T.nEnds, tF_ends _ _ _, _, rfl, d, _, rfl, DPut.k (k := Sum.inl (n : Int)) (by rw [upd_ne ndt]; exact h2) (by rw [ents_len ents]; exact Nat.lt_of_lt_of_le few (by rw [sizeLine_eq]; decide)), ?_⟩
      refine ⟨_, rfl, _, _, rfl, rfl, _, rfl, p, _, dx, _, rfl, (by rw [upd_ne npd, upd_ne npt]; exact h1), T.cl, T.nBuilt, (by show 3 < 1000; decide), ?_⟩
      refine ⟨_, rfl, ?_⟩
      refine good a b rfl rfl ha hb ne few _ ⟨⟨dx, Eq.trans upd_same (congrArg (fun l => some (HO.ins (gA K "Town") dx l)) (tF_put m d n (n + 1)))⟩, ⟨_, by rw [upd_ne npd.symm]; exact upd_same, ?_⟩, W.ok.snoc few ha hb ne, W.pm⟩ fun c o hc hcp hcd => ?_
      · rw [putK_new _ newKey]
        refine ents_snoc (r := (n, a, b)) (t := t) ?_ (ents_ext (fun t2 xs e5 => ?_) ents)
        · rw [upd_ne npt.symm, upd_ne ndt.symm]
          exact upd_same
        · rw [upd_ne (ne_of e5 h1 (by intro z; cases z)), upd_ne (ne_of e5 h2 (by intro z; cases z)), upd_ne (ne_of_none e5 ht)]
          exact e5
      · rw [upd_ne hcp, upd_ne hcd, upd_ne (ne_of_none hc ht)]
        exact hc
theorem ok_dig (T : Txt K mg) (D : FnP K "dig" "Town.dig" s_Town_dig f fd) (c_is_whole : CalX P w K mg base 1 "is_whole" spWhole) : FnOk P w K mg base (L2.CX P w) 2 f fd ["self", "street"] (spDig K (gA K "Town")) := by
  have nd := sc_Town_dig.nd
  refine D.ok sc_Town_dig (fun vs H Q E h => ?_) (fun cdv A outer s H vs Q E hr h => ?_)
  · obtain ⟨p, d, m, rows, n, x, rfl, _⟩ := h
    rfl
  · obtain ⟨p, d, m, rows, n, x, rfl, W, hx, bad, good⟩ := h
    have hu := hu_of hr
    obtain ⟨dx, h1⟩ := W.ob
    obtain ⟨kvs, h2, ents⟩ := W.dc
    have npd := W.pd
    obtain ⟨f_is_whole, fd_is_whole, ps_is_whole, F_is_whole, m_is_whole, k_is_whole, b_is_whole⟩ := c_is_whole.ex
    refine ⟨_, (pss_cons (ps_if (PW.pt (pw_or (pt_not (pt_val (pe_call F_is_whole (hr.mono (by decide)) rfl m_is_whole k_is_whole b_is_whole .nil passF (pa_cons (pv 1) (pa_cons pe_int (pa_cons (pe_op op_sub (pe_fld (pv 0) rfl) pe_int) pa_nil)))))) (pw_or1 (pt_cmp (pc_dnotin hu (pv 1) (pe_fld (pv 0) rfl)))))) (pss_one (ps_raise rfl (takes_of rfl rfl rfl rfl) (pmk_own PySem.F.excBase_ValueError T.BadStreet.x T.BadStreet.m T.BadStreet.k (raises_own T.BadStreet.b T.BadStreet.t) rfl))) pss_nil)
      (pss_one (ps_ddel (pe_fld (pv 0) rfl) (pv 1)))), ?_⟩
    refine ⟨_, rfl, _, rfl, p, _, dx, _, _, rfl, h1, T.cl, T.nBuilt, tF_built _ _ _, _, _, rfl, rfl, x, 0, _, rfl, hx, _, rfl, ?_⟩
    refine if_both (fun e => ?_) (fun e => ?_)
    · refine if_yes rfl (bad fun ⟨s, e1, e2⟩ => ?_)
      obtain ⟨r, hr1, hr2⟩ := List.mem_map.mp e2
      have lt := W.ok.below r hr1
      rw [e1, isW_true (by omega) (by omega)] at e
      cases e
    · obtain ⟨s, rfl, hs⟩ := isW_nat (show isW x 0 ((n : Int) - 1) = true by simpa using e)
      refine ⟨_, rfl, _, rfl, p, _, dx, _, _, rfl, h1, T.cl, T.nEnds, tF_ends _ _ _, d, _, rfl, DGet.k (k := Sum.inl (s : Int)) h2, _, rfl, ?_⟩
      refine if_both (fun e1 => ?_) (fun e1 => ?_)
      · refine bad fun ⟨s2, e2, e3⟩ => ?_
        have es : s2 = s := (Int.ofNat.inj (V.int.inj e2)).symm
        rw [es] at e3
        have z := ents_has s ents
        rw [decide_eq_true e3] at z
        rw [z] at e1
        cases e1
      · have there : (valV kvs (Sum.inl (s : Int) : Key)).isSome = true := by
          cases q : valV kvs (Sum.inl (s : Int) : Key) with
          | none => rw [q] at e1; cases e1
          | some v => rfl
        have hin : s ∈ rows.map (·.1) := by
          rw [ents_has s ents] at there
          exact of_decide_eq_true there
        refine ⟨_, rfl, p, _, dx, _, _, rfl, h1, T.cl, T.nEnds, tF_ends _ _ _, _, rfl, d, kvs, Sum.inl (s : Int), rfl, h2, rfl, there, ?_⟩
        refine good s rfl hin _ ⟨⟨dx, by rw [upd_ne npd]; exact h1⟩, ⟨_, upd_same, ents_ext (fun t xs e5 => ?_) (ents_drop s ents)⟩, W.ok.drop _, W.pm⟩ fun c o hc hcp hcd => ?_
        · rw [upd_ne (ne_of e5 h2 (by intro z; cases z))]
          exact e5
        · rw [upd_ne hcd]
          exact hc
end
section
variable {P : Program} {w : World} {K : PySem.W.Frag} {mg : Str → Option Value} {base : Heap} {f : Addr} {fd : FuncData}
theorem ok_streets (T : Txt K mg) (D : FnP K "streets" "Town.streets" s_Town_streets f fd) : FnOk P w K mg base (L2.CX P w) 1 f fd ["self"] (spStreets (gA K "Town")) := by
  have nd := sc_Town_streets.nd
  refine D.ok sc_Town_streets (fun vs H Q E h => ?_) (fun cdv A outer s H vs Q E hr h => ?_)
  · obtain ⟨p, d, m, rows, n, rfl, _⟩ := h
    rfl
  · obtain ⟨p, d, m, rows, n, rfl, W, k⟩ := h
    obtain ⟨dx, h1⟩ := W.ob
    obtain ⟨kvs, h2, ents⟩ := W.dc
    have npd := W.pd
    refine ⟨_, (pss_one (ps_ret (pe_lock (pe_lc (own := [("street", 1), ("one", 2), ("other", 3)]) (g := (gTup K 2 (gCons (gName 1) (gCons (gTup K 2 (gCons (gName 2) (gCons (gName 3) gNil))) gNil)))) rfl nd (pi_items (pe_fld (pv 0) rfl)) (blkOk_by (own := [("street", 1), ("one", 2), ("other", 3)]) (N := N_Town_streets) (sc := defScope s_Town_streets) (by decide +kernel)) (fun _ _ _ _ _ => (pg_tup rfl (pgs_cons (pg_name (i := 1) nd rfl (Or.inl rfl)) (pgs_cons (pg_tup rfl (pgs_cons (pg_name (i := 2) nd rfl (Or.inl rfl)) (pgs_cons (pg_name (i := 3) nd rfl (Or.inl rfl)) pgs_nil))) pgs_nil)))) (fun _ _ _ _ _ => pts_nil) (fun _ _ _ _ _ => (pe_tup (pa_cons (pv 1) (pa_cons (pv 2) (pa_cons (pv 3) pa_nil))))))))), ?_⟩
    refine ⟨d, .dK kvs, h2, trivial, fun od => ?_⟩
    refine ⟨_, rfl, p, _, dx, _, _, rfl, (by rw [upd_ne npd]; exact h1), T.cl, T.nEnds, tF_ends _ _ _, d, od, kvs, rfl, upd_same, ?_⟩
    intro D hD
    obtain ⟨nDd, hD0⟩ := upd_none hD
    have len := ents_len ents
    have small : rows.length < sizeLine := Nat.lt_of_le_of_lt W.ok.few (by rw [sizeLine_eq]; decide)
    refine lc_it walk_items (fun i H' => ∃ vs, H' D = some (.lst vs) ∧ Tups H' vs ((rows.take i).map rowV) ∧ H' d = some (.frz od (.dK kvs)) ∧ ∀ b o, b ≠ d → H b = some o → H' b = some o)
      ⟨[], upd_same, .nil, (by rw [upd_ne nDd.symm]; exact upd_same), fun b o hb e => by rw [upd_ne (ne_of_none e hD0), upd_ne hb]; exact e⟩ (fun i H' _ ⟨_, _, _, z, _⟩ => z) ?_ ?_
    · rintro i x H1 H2 hi ⟨vs, e1, e2, e3, e4⟩ ⟨t, kk, v, rfl, ht, rfl, hk, hv⟩
      obtain ⟨kv, hkv⟩ : ∃ kv, kvs[i]? = some kv := ⟨_, List.getElem?_eq_getElem hi⟩
      obtain ⟨r, t2, hr1, rfl, hr2⟩ := ents_get ents hkv
      dsimp only at hk hv
      rw [hkv] at hk hv
      cases hk
      cases hv
      have ntd : t2 ≠ d := by
        intro z
        rw [z, h2] at hr2
        cases hr2
      have nDt : D ≠ t := ne_of_none e1 ht
      have hr3 := e4 _ _ ntd hr2
      refine ⟨t, _, rfl, SqT.of upd_same, rfl, _, _, rfl, _, _, rfl, t2, _, rfl, SqT.of (by rw [upd_ne (ne_of_none hr3 ht)]; exact hr3), rfl, _, _, rfl, _, _, rfl, rfl, rfl, rfl, ?_⟩
      refine ⟨_, rfl, _, rfl, _, rfl, (by show 3 ≤ sizeLine; decide), fun q hq => ?_⟩
      obtain ⟨nqt, hq0⟩ := upd_none hq
      have nDq : D ≠ q := ne_of_none e1 hq0
      have keep : ∀ b o, b ≠ D → H1 b = some o → upd (upd (upd H1 t (.tup [.int (r.1 : Int), V.ref t2])) q (.tup (rowV r))) D (.lst (vs ++ [V.ref q])) b = some o := fun b o nb e => by
        rw [upd_ne nb, upd_ne (ne_of_none e hq0), upd_ne (ne_of_none e ht)]
        exact e
      refine ⟨vs, by rw [upd_ne nDq, upd_ne nDt]; exact e1, ?_, vs ++ [V.ref q], upd_same, ?_, ?_, ?_⟩
      · rw [tups_len e2, List.length_map, List.length_take]
        omega
      · rw [take_snoc hr1, List.map_append]
        refine tups_snoc (by rw [upd_ne nDq.symm]; exact upd_same) (tups_ext (fun b xs e => keep b _ (fun z => ?_) e) e2)
        rw [z, e1] at e
        cases e
      · exact keep _ _ nDd.symm e3
      · intro b o hb e
        exact keep b o (ne_of_none e hD0) (e4 b o hb e)
    · rintro H1 ⟨vs, e1, e2, e3, e4⟩
      rw [len, List.take_length] at e2
      refine ⟨e3, k D _ hD0 (fun b o e => ?_) ⟨vs, by rw [upd_ne nDd]; exact e1, tups_ext (fun b xs e => ?_) e2⟩⟩
      · by_cases hb : b = d
        · rw [hb, h2] at e
          cases e
          rw [hb]
          exact upd_same
        · rw [upd_ne hb]
          exact e4 b o hb e
      · rw [upd_ne (fun z => by rw [z, e3] at e; cases e)]
        exact e
end
end K09

set_option Elab.async false
set_option linter.all false
set_option maxRecDepth 100000
set_option maxHeartbeats 4000000
namespace K09
open PySem PySem.Spec PyProof.Rows L2 Own
/-! ### the law's helpers: mixed, seed, ends, pairs, many -/
def spMixed : Sp := fun vs H Q _ => ∃ (c k : Int), vs = [.int c, .int k] ∧ Fit c ∧ 0 ≤ k ∧ k ≤ 1000 ∧ ∀ r : Int, 0 ≤ r → r < 2147483629 → Q (.int r) H
def spSeed (K : PySem.W.Frag) : Sp := fun vs H Q _ => ∃ (a : Addr) (ns : List Int), vs = [.ref a] ∧ SqL K H a (ns.map V.int) ∧ (∀ z ∈ ns, Fit z) ∧ ∀ (r : Int) (H' : Hp), 0 ≤ r → r < 2147483629 → Same H H' → Q (.int r) H'
def spEnds : Sp := fun vs H Q _ => ∃ (m : Nat) (way k num : Int), vs = [.int (m : Int), .int way, .int k, .int num] ∧ 2 ≤ m ∧ m ≤ 16 ∧ 0 ≤ k ∧ 0 ≤ num ∧
  ∀ (p : Addr) (H' : Hp) (q : Pair), H p = none → Same H H' → H' p = some (.tup (pairV q)) → PairOk m q → Q (.ref p) H'
def spPairs (K : PySem.W.Frag) : Sp := fun vs H Q _ => ∃ (a : Addr) (ns : List Int) (seed : Int) (m most : Nat), vs = [.ref a, .int seed, .int (m : Int), .int (most : Int)] ∧ SqL K H a (ns.map V.int) ∧ (∀ z ∈ ns, Fit z) ∧ Fit seed ∧ 1 ≤ m ∧ m ≤ 16 ∧ ns.length ≤ 63 ∧ most ≤ 60 ∧
  ∀ (l : Addr) (H' : Hp) (ps : List Pair), H l = none → Same H H' → TL H' l (ps.map pairV) → (∀ q ∈ ps, PairOk m q) → ps.length ≤ most → (m = 1 → ps = []) → Q (.ref l) H'
def spMany : Sp := fun vs H Q _ => ∃ (seed : Int) (most : Nat), vs = [.int seed, .int (most : Int)] ∧ Fit seed ∧ 1 ≤ most ∧ ∀ (m : Nat) (H' : Hp), 1 ≤ m → m ≤ most → Same H H' → Q (.int (m : Int)) H'
abbrev s_law_mixed : Stmt := top 16
abbrev N_law_mixed : List Str := ["_law_cell", "_law_k"]
theorem sc_law_mixed : FnScope N_law_mixed ["_law_cell", "_law_k"] (defScope s_law_mixed) := ⟨rfl, rfl, rfl, by decide +kernel, rfl, by decide +kernel, by decide +kernel⟩
abbrev s_law_seed : Stmt := top 17
abbrev N_law_seed : List Str := ["_law_script", "_law_found", "_law_k", "_law_cell"]
theorem sc_law_seed : FnScope N_law_seed ["_law_script"] (defScope s_law_seed) := ⟨rfl, rfl, rfl, by decide +kernel, rfl, by decide +kernel, by decide +kernel⟩
abbrev s_law_ends : Stmt := top 18
abbrev N_law_ends : List Str := ["_law_many_here", "_law_way", "_law_k", "_law_number", "_law_one", "_law_other", "_law_same", "_law_place"]
theorem sc_law_ends : FnScope N_law_ends ["_law_many_here", "_law_way", "_law_k", "_law_number"] (defScope s_law_ends) := ⟨rfl, rfl, rfl, by decide +kernel, rfl, by decide +kernel, by decide +kernel⟩
abbrev s_law_pairs : Stmt := top 19
abbrev N_law_pairs : List Str := ["_law_script", "_law_seed_here", "_law_many_here", "_law_most", "_law_way", "_law_far", "_law_found", "_law_k", "_law_cell"]
theorem sc_law_pairs : FnScope N_law_pairs ["_law_script", "_law_seed_here", "_law_many_here", "_law_most"] (defScope s_law_pairs) := ⟨rfl, rfl, rfl, by decide +kernel, rfl, by decide +kernel, by decide +kernel⟩
abbrev s_law_many : Stmt := top 20
abbrev N_law_many : List Str := ["_law_seed_here", "_law_most"]
theorem sc_law_many : FnScope N_law_many ["_law_seed_here", "_law_most"] (defScope s_law_many) := ⟨rfl, rfl, rfl, by decide +kernel, rfl, by decide +kernel, by decide +kernel⟩
structure TxtL (mg : Str → Option Value) : Prop where
  f_enumerate : mg "enumerate" = none
  f_min : mg "min" = none
  f_len : mg "len" = none
  f_range : mg "range" = none
theorem min_nat (x y : Nat) : (if (y : Int) < (x : Int) then (y : Int) else (x : Int)) = ((min x y : Nat) : Int) := by
  split <;> omega
theorem max_nat (x y : Nat) : (if (y : Int) > (x : Int) then (y : Int) else (x : Int)) = ((max x y : Nat) : Int) := by
  split <;> omega
structure TxtM (mg : Str → Option Value) : Prop extends TxtL mg where
  f_list : mg "list" = none
  f_max : mg "max" = none
section
variable {P : Program} {w : World} {K : PySem.W.Frag} {mg : Str → Option Value} {base : Heap} {f : Addr} {fd : FuncData}
theorem ok_mixed (D : FnP K "_law_mixed" "_law_mixed" s_law_mixed f fd) : FnOk P w K mg base (L2.CX P w) 1 f fd ["_law_cell", "_law_k"] spMixed := by
  have nd := sc_law_mixed.nd
  refine D.ok sc_law_mixed (fun vs H Q E h => ?_) (fun cdv A outer s H vs Q E hr h => ?_)
  · obtain ⟨c, j, rfl, _⟩ := h
    rfl
  · obtain ⟨c, j, rfl, fc, j0, j1, k⟩ := h
    have sq : 0 ≤ 2 * j * j ∧ 2 * j * j ≤ 2000000 := by
      have a1 : 0 ≤ j * j := Int.mul_nonneg j0 j0
      have a2 : j * j ≤ 1000 * 1000 := Int.mul_le_mul j1 j1 j0 (by omega)
      have a3 : 2 * j * j = 2 * (j * j) := Int.mul_assoc 2 j j
      omega
    refine ⟨_, (pss_one (ps_ret (pe_op op_mod (pe_op op_mulG (pe_op op_mod (pe_op op_add (pe_op op_add (pe_op op_mulG (pv 0) (pe_op op_add pe_int (pe_op op_mulG (pe_op op_mulG pe_int (pv 1)) (pv 1)))) (pe_op op_mulG pe_int (pv 1))) pe_int) pe_int) pe_int) pe_int))), ?_⟩
    refine ⟨_, rfl, _, rfl, _, _, rfl, rfl, mul_fit (fit_range (by omega) (by omega)) (fit_range (by omega) (by omega)), _, rfl, _, _, rfl, rfl, mul_fit (fit_range (by omega) (by omega)) (fit_range (by omega) (by omega)), _, _, rfl, rfl,
      _, _, rfl, rfl, mul_fit fc (fit_range (by omega) (by omega)), _, rfl, _, _, rfl, rfl, mul_fit (fit_range (by omega) (by omega)) (fit_range (by omega) (by omega)), _, _, rfl, rfl, _, _, rfl, rfl, _, _, rfl, rfl, (by show (0 : Int) < 2147483647; decide),
      _, _, rfl, rfl, ?_, _, _, rfl, rfl, (by show (0 : Int) < 2147483629; decide), ?_⟩
    · have z := emod_lt (i := c * (48271 + 2 * j * j) + 69621 * j + 11) (m := 2147483647) (by decide)
      exact mul_fit (fit_range z.1 (by omega)) (fit_range (by omega) (by omega))
    · have z := emod_lt (i := (c * (48271 + 2 * j * j) + 69621 * j + 11) % 2147483647 * 69621) (m := 2147483629) (by decide)
      exact k _ z.1 z.2
theorem ok_seed (T : TxtL mg) (D : FnP K "_law_seed" "_law_seed" s_law_seed f fd) (c_law_mixed : CalX P w K mg base 1 "_law_mixed" spMixed) : FnOk P w K mg base (L2.CX P w) 2 f fd ["_law_script"] (spSeed K) := by
  have nd := sc_law_seed.nd
  refine D.ok sc_law_seed (fun vs H Q E h => ?_) (fun cdv A outer s H vs Q E hr h => ?_)
  · obtain ⟨a, ns, rfl, _⟩ := h
    rfl
  · obtain ⟨a, ns, rfl, hS, fits, k⟩ := h
    obtain ⟨f_law_mixed, fd_law_mixed, ps_law_mixed, F_law_mixed, m_law_mixed, k_law_mixed, b_law_mixed⟩ := c_law_mixed.ex
    refine ⟨_, (pss_cons (ps_set (i := 1) nd rfl (Or.inl rfl) pe_int)
      (pss_cons (ps_for (passes_of rfl) rfl (pi_enum rfl T.f_enumerate (pa_cons (pv 0) pa_nil)) (pg_tup rfl (pgs_cons (pg_name (i := 2) nd rfl (Or.inl rfl)) (pgs_cons (pg_name (i := 3) nd rfl (Or.inl rfl)) pgs_nil))) (pss_one (ps_set (i := 1) nd rfl (Or.inl rfl) (pe_op op_mod (pe_op op_add (pe_op op_mulG (pv 1) pe_int) (pe_call F_law_mixed (hr.mono (by decide)) rfl m_law_mixed k_law_mixed b_law_mixed .nil passF (pa_cons (pv 3) (pa_cons (pe_op op_mod (pv 2) pe_int) pa_nil)))) pe_int))))
      (pss_one (ps_ret (pv 1))))), ?_⟩
    refine ⟨_, rfl, a, _, rfl, hS, for_it walk_enum (fun i σ H' => ∃ (g : Int) (u v : Option V), σ = [some (.ref a), some (.int g), u, v] ∧ 0 ≤ g ∧ g < 2147483629 ∧ Same H H') ⟨7, none, none, rfl, by decide, by decide, Same.refl H⟩ (fun i σ H' _ ⟨_, _, _, _, _, _, sm⟩ => sm.seq hS) ?_ ?_⟩
    · rintro i x σ H1 H2 hi ⟨g, u, v, rfl, g0, g1, sm⟩ ⟨t, y, z, rfl, ht, rfl, hy, hz⟩
      cases hy
      obtain ⟨c, hc, rfl⟩ := int_item hz
      have sm2 : Same H (upd H1 t (.tup [.int (i : Int), .int c])) := sm.trans (same_new ht)
      have r60 := emod_lt (i := (i : Int)) (m := 60) (by decide)
      refine ⟨t, _, rfl, SqT.of upd_same, rfl, _, _, rfl, _, _, rfl, rfl, ?_⟩
      refine ⟨_, rfl, _, _, rfl, rfl, mul_fit (fit_range g0 (by omega)) (fit_range (by omega) (by omega)), _, rfl, _, rfl, _, _, rfl, rfl, (by show (0 : Int) < 60; decide), c, _, rfl, fits c (List.mem_of_getElem? hc), r60.1, by omega, fun r r0 r1 => ?_⟩
      refine ⟨_, _, rfl, rfl, _, _, rfl, rfl, (by show (0 : Int) < 2147483629; decide), ?_⟩
      have z := emod_lt (i := g * 999983 + r) (m := 2147483629) (by decide)
      exact ⟨_, some (.int (i : Int)), some (.int c), rfl, z.1, z.2, sm2⟩
    · rintro σ H1 ⟨g, u, v, rfl, g0, g1, sm⟩
      exact ⟨_, rfl, k g H1 g0 g1 sm⟩
theorem ok_many (T : TxtL mg) (D : FnP K "_law_many" "_law_many" s_law_many f fd) (c_law_mixed : CalX P w K mg base 1 "_law_mixed" spMixed) : FnOk P w K mg base (L2.CX P w) 2 f fd ["_law_seed_here", "_law_most"] spMany := by
  have nd := sc_law_many.nd
  refine D.ok sc_law_many (fun vs H Q E h => ?_) (fun cdv A outer s H vs Q E hr h => ?_)
  · obtain ⟨a, m, rfl, _⟩ := h
    rfl
  · obtain ⟨seed, most, rfl, fs, hm, k⟩ := h
    obtain ⟨f_law_mixed, fd_law_mixed, ps_law_mixed, F_law_mixed, m_law_mixed, k_law_mixed, b_law_mixed⟩ := c_law_mixed.ex
    refine ⟨_, (pss_one (ps_ret (pe_callB (call_min2 rfl) rfl T.f_min (by decide +kernel) (pa_cons (pv 1) (pa_cons (pe_ix ix_list (pe_lst (pa_cons pe_int (pa_cons pe_int (pa_cons pe_int (pa_cons pe_int (pa_cons pe_int (pa_cons pe_int (pa_cons pe_int (pa_cons pe_int (pa_cons pe_int (pa_cons pe_int pa_nil))))))))))) (pe_op op_mod (pe_call F_law_mixed (hr.mono (by decide)) rfl m_law_mixed k_law_mixed b_law_mixed .nil passF (pa_cons (pv 0) (pa_cons pe_int pa_nil))) pe_int) (fun _ _ => rfl)) pa_nil))))), ?_⟩
    refine ⟨_, rfl, (by show 10 ≤ sizeLine; decide), fun l hl => ?_⟩
    refine ⟨_, rfl, seed, 60, rfl, fs, by decide, by decide, fun r r0 r1 => ?_⟩
    refine ⟨_, _, rfl, rfl, (by show (0 : Int) < 10; decide), ?_⟩
    have z := emod_lt (i := r) (m := 10) (by decide)
    obtain ⟨v, hv, hin⟩ := at_lt (xs := [V.int 1, V.int 2, V.int 3, V.int 4, V.int 5, V.int 6, V.int 7, V.int 9, V.int 12, V.int 16]) z.1 z.2
    obtain ⟨j, rfl, j0⟩ : ∃ j : Nat, v = V.int (j : Int) ∧ 1 ≤ j := by
      simp only [List.mem_cons, List.not_mem_nil, or_false] at hin
      rcases hin with h | h | h | h | h | h | h | h | h | h <;> rw [h]
      · exact ⟨1, rfl, by decide⟩
      · exact ⟨2, rfl, by decide⟩
      · exact ⟨3, rfl, by decide⟩
      · exact ⟨4, rfl, by decide⟩
      · exact ⟨5, rfl, by decide⟩
      · exact ⟨6, rfl, by decide⟩
      · exact ⟨7, rfl, by decide⟩
      · exact ⟨9, rfl, by decide⟩
      · exact ⟨12, rfl, by decide⟩
      · exact ⟨16, rfl, by decide⟩
    refine ⟨l, _, _, _, rfl, rfl, SqL.of upd_same, hv, _, _, rfl, ?_⟩
    by_cases lt : (j : Int) < (most : Int)
    · rw [if_pos lt]
      exact k j _ j0 (by omega) (same_new hl)
    · rw [if_neg lt]
      exact k most _ hm (Nat.le_refl _) (same_new hl)
end
end K09

set_option Elab.async false
set_option linter.all false
set_option maxRecDepth 100000
set_option maxHeartbeats 4000000
namespace K09
open PySem PySem.Spec PyProof.Rows L2 Own
section
variable {P : Program} {w : World} {K : PySem.W.Frag} {mg : Str → Option Value} {base : Heap} {f : Addr} {fd : FuncData}
theorem ok_ends (T : TxtL mg) (D : FnP K "_law_ends" "_law_ends" s_law_ends f fd) : FnOk P w K mg base (L2.CX P w) 1 f fd ["_law_many_here", "_law_way", "_law_k", "_law_number"] spEnds := by
  have nd := sc_law_ends.nd
  refine D.ok sc_law_ends (fun vs H Q E h => ?_) (fun cdv A outer s H vs Q E hr h => ?_)
  · obtain ⟨m, way, j, num, rfl, _⟩ := h
    rfl
  · obtain ⟨m, way, j, num, rfl, hm, hm2, j0, n0, k⟩ := h
    refine ⟨_, (pss_cons (ps_set (i := 4) nd rfl (Or.inr rfl) (pe_op op_mod (pv 3) (pv 0)))
      (pss_cons (ps_set (i := 5) nd rfl (Or.inl rfl) (pe_op op_mod (pe_op op_add (pe_op op_add (pv 4) pe_int) (pe_op op_mod (pe_op op_fdiv (pv 3) pe_int) (pe_op op_sub (pv 0) pe_int))) (pv 0)))
      (pss_cons (ps_if (PW.pt (pw_and (pt_cmpR op_eq (pv 1) pe_int (nomark _)) (pw_and1 (pt_cmpR op_lt (pe_op op_add (pv 2) pe_int) (pv 0) (nomark _))))) (pss_one (ps_ret (pe_tup (pa_cons (pe_op op_add (pv 2) pe_int) (pa_cons (pe_op op_mod (pv 3) (pe_op op_add (pv 2) pe_int)) pa_nil))))) pss_nil)
      (pss_cons (ps_if (pt_cmpR op_eq (pv 1) pe_int (nomark _)) (pss_cons (ps_setLc (own := [("_law_place", 7)]) (g := (gName 7)) (i := 6) rfl nd rfl rfl (sw_true rfl rfl rfl (by decide +kernel)) (pi_range1 rfl T.f_range (pa_cons (pv 0) pa_nil)) (blkOk_by (own := [("_law_place", 7)]) (N := N_law_ends) (sc := defScope s_law_ends) (by decide +kernel)) (fun _ _ _ _ _ => (pg_name (i := 7) nd rfl (Or.inl rfl))) (fun _ _ _ _ _ => (pts_one (PW.pt (pw_and (pt_cmpR op_eq (pe_op op_mod (pv 7) pe_int) (pe_op op_mod (pv 4) pe_int) (nomark _)) (pw_and1 (pt_cmpR op_ne (pv 7) (pv 4) (nomark _))))))) (fun _ _ _ _ _ => (pv 7)))
      (pss_one (ps_ret (pe_ifExp (pt_cmpR (op_neD hr.units) (pv 6) (pe_lst pa_nil) (nomark _)) (pe_tup (pa_cons (pv 4) (pa_cons (pe_ix ix_list (pv 6) (pe_op op_mod (pe_op op_fdiv (pv 3) pe_int) (pe_callB call_len_seq rfl T.f_len PySem.boot_len (pa_cons (pv 6) pa_nil))) (fun _ _ => rfl)) pa_nil))) (pe_tup (pa_cons (pv 4) (pa_cons (pv 5) pa_nil))))))) pss_nil)
      (pss_cons (ps_if (pt_cmpR op_eq (pv 1) pe_int (nomark _)) (pss_one (ps_ret (pe_tup (pa_cons (pv 4) (pa_cons (pe_op op_mod (pe_op op_add (pe_op op_add (pv 4) pe_int) (pe_op op_mulG (pe_op op_mod (pe_op op_fdiv (pv 3) pe_int) pe_int) (pe_op op_sub (pv 0) pe_int))) (pv 0)) pa_nil))))) pss_nil)
      (pss_one (ps_ret (pe_tup (pa_cons (pv 4) (pa_cons (pv 5) pa_nil)))))))))), ?_⟩
    obtain ⟨o0, o1⟩ := emod_lt (i := num) (m := (m : Int)) (by omega)
    obtain ⟨s0, s1, s2⟩ := step_ends (m := m) (one := num % (m : Int)) (num := num / 20) hm o0 o1
    have plain : ∀ {p : Addr} {H1 H2 : Hp} {u v : Int}, Same H H1 → H1 p = none → Same H1 H2 → H2 p = some (.tup [.int u, .int v]) → 0 ≤ u → u < m → 0 ≤ v → v < m → u ≠ v → Q (.ref p) H2 := by
      intro p H1 H2 u v sm hp sm2 e u0 u1 v0 v1 ne
      exact k p H2 _ (sm.free hp) (sm.trans sm2) (by rw [pair_nat u0 v0]; exact e) (pair_ok u0 u1 v0 v1 ne)
    refine ⟨_, rfl, _, rfl, _, _, rfl, rfl, (by show (0 : Int) < (m : Int); omega), ?_⟩
    refine ⟨_, rfl, _, _, rfl, rfl, _, rfl, _, _, rfl, rfl, ⟨by decide, by decide⟩, _, rfl, _, _, rfl, rfl, _, _, rfl, rfl, (by show (0 : Int) < (m : Int) - 1; omega), _, _, rfl, rfl, _, rfl, _, _, rfl, rfl, (by show (0 : Int) < (m : Int); omega), ?_⟩
    refine (fun rest => ⟨_, rfl, rfl, _, rfl, if_both (fun e1 => ⟨_, rfl, _, _, rfl, rfl, _, rfl, _, _, rfl, rfl, _, rfl, if_both (fun e2 => ?new) (fun _ => rest)⟩) (fun _ => rest)⟩) ?rest
    case new =>
      -- a new place
      have lt := of_decide_eq_true e2
      obtain ⟨z0, z1⟩ := emod_lt (i := num) (m := j + 1) (by omega)
      exact ⟨_, rfl, _, _, rfl, rfl, _, rfl, _, rfl, _, _, rfl, rfl, _, _, rfl, rfl, (by show (0 : Int) < j + 1; omega), (by show 2 ≤ sizeLine; decide), fun p hp => plain (Same.refl H) hp (same_new hp) upd_same (by omega) lt z0 (by omega) (by omega)⟩
    case rest =>
      refine ⟨_, rfl, rfl, _, rfl, if_both (fun e1 => ?_) (fun _ => ?_)⟩
      · -- every second place
        refine ⟨_, rfl, (m : Int), rfl, by omega, by omega, fun L hL => ?_⟩
        refine lc_it walk_range (fun i H' => ∃ js : List Int, H' L = some (.lst (js.map V.int)) ∧ (∀ z ∈ js, 0 ≤ z ∧ z < m ∧ z ≠ num % (m : Int)) ∧ js.length ≤ i ∧ Same H H') ⟨[], upd_same, fun z hz => (nomatch hz), Nat.le_refl _, same_new hL⟩ (fun _ _ _ _ => trivial) ?_ ?_
        · rintro i x H1 H2 hi ⟨js, e2, e3, e4, sm⟩ ⟨rfl, rfl⟩
          have skip : ∃ js : List Int, H2 L = some (.lst (js.map V.int)) ∧ (∀ z ∈ js, 0 ≤ z ∧ z < m ∧ z ≠ num % (m : Int)) ∧ js.length ≤ i + 1 ∧ Same H H2 := ⟨js, e2, e3, Nat.le_succ_of_le e4, sm⟩
          refine ⟨rfl, _, rfl, _, _, rfl, rfl, (by show (0 : Int) < 2; decide), _, rfl, _, _, rfl, rfl, (by show (0 : Int) < 2; decide), rfl, _, rfl, if_both (fun _ => ⟨_, rfl, _, rfl, rfl, _, rfl, if_both (fun c2 => ?_) (fun _ => skip)⟩) (fun _ => skip)⟩
          refine ⟨_, rfl, _, e2, ?_, js ++ [0 + (i : Int)], by rw [List.map_append]; exact upd_same, fun z hz => ?_, by rw [List.length_append]; show js.length + 1 ≤ i + 1; omega, fun b o e => ?_⟩
          · rw [List.length_map, sizeLine_eq]
            omega
          · rcases List.mem_append.mp hz with h | h
            · exact e3 z h
            · rw [List.mem_singleton] at h
              have ne : ¬ (0 + (i : Int) = num % (m : Int)) := by
                intro y
                have c3 : (!decide (V.int (0 + (i : Int)) = V.int (num % (m : Int)))) = true := c2
                rw [y] at c3
                simp at c3
              have : (i : Int) < (m : Int) := by omega
              rw [h]
              omega
          · rw [upd_ne (ne_of_none e hL)]
            exact sm b o e
        · rintro H1 ⟨js, e2, e3, e4, sm⟩
          refine ⟨_, rfl, (by show 0 ≤ sizeLine; decide), fun L2 hL2 => ?_⟩
          have nLL : L ≠ L2 := ne_of_none e2 hL2
          have at2 : upd H1 L2 (.lst []) L = some (.lst (js.map V.int)) := by
            rw [upd_ne nLL]
            exact e2
          refine ⟨_, _, .lst (SqL.of at2) (dp_ints js), .lst (SqL.of upd_same) .nil, (lay_ints js).shaped (by decide), (lay_ints []).shaped (by decide), _, rfl, ?_⟩
          have sm2 : Same H (upd H1 L2 (.lst [])) := sm.trans (same_new hL2)
          cases js with
          | nil =>
            rw [show PyData.eqv (.list (([] : List Int).map PyData.int)) (.list []) = true from eqv_nil_nil]
            refine ⟨_, rfl, _, rfl, (by show 2 ≤ sizeLine; decide), fun p hp => plain sm2 hp (same_new hp) upd_same o0 o1 s0 s1 (Ne.symm s2)⟩
          | cons j1 js =>
            rw [show PyData.eqv (.list ((j1 :: js).map PyData.int)) (.list []) = false from eqv_cons_nil _ _]
            have pos : (0 : Int) < (((j1 :: js).map V.int).length : Int) := by
              rw [List.length_map, List.length_cons]
              omega
            obtain ⟨v, hv, hin⟩ := at_mod (xs := (j1 :: js).map V.int) (i := num / 20) (by simp)
            obtain ⟨z, hz, rfl⟩ := List.mem_map.mp hin
            obtain ⟨b0, b1, b2⟩ := e3 z hz
            exact ⟨_, rfl, _, rfl, _, rfl, _, _, rfl, rfl, ⟨by decide, by decide⟩, _, rfl, L, _, rfl, .inl (SqL.of at2), _, _, rfl, rfl, pos, L, _, _, _, rfl, rfl, SqL.of at2, hv, (by show 2 ≤ sizeLine; decide), fun p hp => plain sm2 hp (same_new hp) upd_same o0 o1 b0 b1 (Ne.symm b2)⟩
      · refine ⟨_, rfl, rfl, _, rfl, if_both (fun e1 => ?_) (fun _ => ?_)⟩
        · -- neighbours
          obtain ⟨t0, t1, t2⟩ : 0 ≤ (num % (m : Int) + 1 + num / 20 % 2 * ((m : Int) - 2)) % m ∧ (num % (m : Int) + 1 + num / 20 % 2 * ((m : Int) - 2)) % m < m ∧ (num % (m : Int) + 1 + num / 20 % 2 * ((m : Int) - 2)) % m ≠ num % (m : Int) := by
            have half : num / 20 % 2 = 0 ∨ num / 20 % 2 = 1 := by omega
            rcases half with z | z <;> rw [z]
            · rw [Int.zero_mul, Int.add_zero]
              have q := step_ends (m := m) (one := num % (m : Int)) (num := 0) hm o0 o1
              rw [Int.zero_emod, Int.add_zero] at q
              exact q
            · rw [Int.one_mul]
              have q := step_ends (m := m) (one := num % (m : Int)) (num := (m : Int) - 2) hm o0 o1
              have same : ((m : Int) - 2) % ((m : Int) - 1) = (m : Int) - 2 := Int.emod_eq_of_lt (by omega) (by omega)
              rw [same] at q
              exact q
          exact ⟨_, rfl, _, rfl, _, _, rfl, rfl, _, rfl, _, _, rfl, rfl, ⟨by decide, by decide⟩, _, _, rfl, rfl, (by show (0 : Int) < 2; decide), _, rfl, _, _, rfl, rfl, _, _, rfl, rfl, mul_fit (fit_range (by omega) (by omega)) (fit_range (by omega) (by omega)), _, _, rfl, rfl, _, rfl, _, _, rfl, rfl, (by show (0 : Int) < (m : Int); omega), (by show 2 ≤ sizeLine; decide), fun p hp => plain (Same.refl H) hp (same_new hp) upd_same o0 o1 t0 t1 (Ne.symm t2)⟩
        · exact ⟨_, rfl, _, rfl, (by show 2 ≤ sizeLine; decide), fun p hp => plain (Same.refl H) hp (same_new hp) upd_same o0 o1 s0 s1 (Ne.symm s2)⟩
theorem ok_pairs (T : TxtL mg) (D : FnP K "_law_pairs" "_law_pairs" s_law_pairs f fd) (c_law_mixed : CalX P w K mg base 1 "_law_mixed" spMixed) (c_law_ends : CalX P w K mg base 1 "_law_ends" spEnds) : FnOk P w K mg base (L2.CX P w) 2 f fd ["_law_script", "_law_seed_here", "_law_many_here", "_law_most"] (spPairs K) := by
  have nd := sc_law_pairs.nd
  refine D.ok sc_law_pairs (fun vs H Q E h => ?_) (fun cdv A outer s H vs Q E hr h => ?_)
  · obtain ⟨a, ns, seed, m, most, rfl, _⟩ := h
    rfl
  · obtain ⟨a, ns, seed, m, most, rfl, hS, fits, fs, m1, m2, hl, hmost, k⟩ := h
    obtain ⟨f_law_mixed, fd_law_mixed, ps_law_mixed, F_law_mixed, m_law_mixed, k_law_mixed, b_law_mixed⟩ := c_law_mixed.ex
    obtain ⟨f_law_ends, fd_law_ends, ps_law_ends, F_law_ends, m_law_ends, k_law_ends, b_law_ends⟩ := c_law_ends.ex
    refine ⟨_, (pss_cons (ps_if (pt_cmpR op_eq (pv 2) pe_int (nomark _)) (pss_one (ps_ret (pe_lst pa_nil))) pss_nil)
      (pss_cons (ps_set (i := 4) nd rfl (Or.inl rfl) (pe_op op_mod (pe_call F_law_mixed (hr.mono (by decide)) rfl m_law_mixed k_law_mixed b_law_mixed .nil passF (pa_cons (pv 1) (pa_cons pe_int pa_nil))) pe_int))
      (pss_cons (ps_set (i := 5) nd rfl (Or.inl rfl) (pe_ix ix_list (pe_lst (pa_cons (pv 2) (pa_cons (pe_op op_add (pv 2) pe_int) (pa_cons (pv 3) (pa_cons (pe_op op_mulG pe_int (pv 2)) pa_nil))))) (pe_op op_mod (pe_call F_law_mixed (hr.mono (by decide)) rfl m_law_mixed k_law_mixed b_law_mixed .nil passF (pa_cons (pv 1) (pa_cons pe_int pa_nil))) pe_int) (fun _ _ => rfl)))
      (pss_cons (ps_set (i := 6) nd rfl (Or.inl rfl) (pe_lst pa_nil))
      (pss_cons (ps_for (passes_of rfl) rfl (pi_enum rfl T.f_enumerate (pa_cons (pe_slice sl_list (pv 0) po_none (po_some (pe_callB (call_min2 rfl) rfl T.f_min (by decide +kernel) (pa_cons (pv 5) (pa_cons (pv 3) pa_nil))))) pa_nil)) (pg_tup rfl (pgs_cons (pg_name (i := 7) nd rfl (Or.inl rfl)) (pgs_cons (pg_name (i := 8) nd rfl (Or.inl rfl)) pgs_nil))) (pss_one (ps_expr (pe_bm PySem.F.plainAttrs_list PySem.F.slot_list_append PySem.F.type_list_append mt_append (pv 6) (pa_cons (pe_call F_law_ends (hr.mono (by decide)) rfl m_law_ends k_law_ends b_law_ends .nil passF (pa_cons (pv 2) (pa_cons (pv 4) (pa_cons (pv 7) (pa_cons (pe_call F_law_mixed (hr.mono (by decide)) rfl m_law_mixed k_law_mixed b_law_mixed .nil passF (pa_cons (pv 8) (pa_cons (pe_op op_add pe_int (pe_op op_mod (pv 7) pe_int)) pa_nil))) pa_nil))))) pa_nil)))))
      (pss_one (ps_ret (pv 6)))))))), ?_⟩
    refine ⟨_, rfl, rfl, _, rfl, if_both (fun e1 => ?_) (fun e1 => ?_)⟩
    · exact ⟨(by show 0 ≤ sizeLine; decide), fun l hl => k l _ [] hl (same_new hl) ⟨[], upd_same, .nil⟩ (fun q hq => (nomatch hq)) (Nat.zero_le _) (fun _ => rfl)⟩
    · have big : 2 ≤ m := by
        by_cases h : m = 1
        · exfalso
          rw [h] at e1
          simp at e1
        · omega
      refine ⟨_, rfl, seed, 1, rfl, fs, by decide, by decide, fun r r0 r1 => ?_⟩
      refine ⟨_, _, rfl, rfl, (by show (0 : Int) < 5; decide), ?_⟩
      refine ⟨_, rfl, _, rfl, _, _, rfl, rfl, _, rfl, _, rfl, _, _, rfl, rfl, mul_fit (fit_range (by decide) (by decide)) (fit_range (by omega) (by omega)), (by show 4 ≤ sizeLine; decide), fun L hL => ?_⟩
      refine ⟨_, rfl, seed, 2, rfl, fs, by decide, by decide, fun r2 r20 r21 => ?_⟩
      refine ⟨_, _, rfl, rfl, (by show (0 : Int) < 4; decide), ?_⟩
      have z := emod_lt (i := r2) (m := 4) (by decide)
      obtain ⟨v, hv, hin⟩ := at_lt (xs := [V.int (m : Int), V.int ((m : Int) + 3), V.int (most : Int), V.int (2 * (m : Int))]) z.1 z.2
      obtain ⟨far, rfl⟩ : ∃ far : Nat, v = V.int (far : Int) := by
        simp only [List.mem_cons, List.not_mem_nil, or_false] at hin
        rcases hin with h | h | h | h
        · exact ⟨m, h⟩
        · exact ⟨m + 3, by rw [h]; simp⟩
        · exact ⟨most, h⟩
        · exact ⟨2 * m, by rw [h]; simp⟩
      refine ⟨L, _, _, _, rfl, rfl, SqL.of upd_same, hv, ?_⟩
      have smL : Same H (upd H L (.lst [V.int (m : Int), V.int ((m : Int) + 3), V.int (most : Int), V.int (2 * (m : Int))])) := same_new hL
      refine ⟨(by show 0 ≤ sizeLine; decide), fun F hF => ?_⟩
      have smF := smL.trans (same_new (o := .lst []) hF)
      obtain ⟨cut, hcut⟩ : ∃ cut : Nat, (if (most : Int) < (far : Int) then (most : Int) else (far : Int)) = (cut : Int) ∧ cut ≤ most := by
        by_cases h : (most : Int) < (far : Int)
        · exact ⟨most, by rw [if_pos h], Nat.le_refl _⟩
        · exact ⟨far, by rw [if_neg h], by omega⟩
      refine ⟨_, rfl, _, rfl, _, rfl, _, _, rfl, _, rfl, a, _, rfl, smF.seq hS, fun S hS2 => ?_⟩
      rw [hcut.1, cut_take, ← List.map_take]
      have nFS : F ≠ S := ne_of_none upd_same hS2
      have smS := smF.trans (same_new (o := .lst ((ns.take cut).map V.int)) hS2)
      have hF0 : H F = none := smL.free hF
      have len : ((ns.take cut).map V.int).length ≤ 63 := by
        rw [List.length_map, List.length_take]
        omega
      have lenc : ((ns.take cut).map V.int).length ≤ most := by
        rw [List.length_map, List.length_take]
        omega
      refine ⟨S, _, rfl, SqL.of upd_same, for_it walk_enum (fun i σ H' => ∃ (ps : List Pair) (u v : Option V), σ = [some (.ref a), some (.int seed), some (.int (m : Int)), some (.int (most : Int)), some (.int (r % 5)), some (.int (far : Int)), some (.ref F), u, v] ∧ TL H' F (ps.map pairV) ∧ ps.length = i ∧ (∀ q ∈ ps, PairOk m q) ∧ Same H H' ∧ H' S = some (.lst ((ns.take cut).map V.int)))
        ⟨[], none, none, rfl, ⟨[], by rw [upd_ne nFS]; exact upd_same, .nil⟩, rfl, fun q hq => (nomatch hq), smS, upd_same⟩ (fun i σ H' _ ⟨_, _, _, _, _, _, _, _, e⟩ => SqL.of e) ?_ ?_⟩
      · rintro i x σ H1 H2 hi ⟨ps, u, v, rfl, ⟨vs, e1, e2⟩, e3, e4, sm, e5⟩ ⟨t, y, zz, rfl, ht, rfl, hy, hz⟩
        cases hy
        obtain ⟨c, hc, rfl⟩ := int_item hz
        have fc : Fit c := fits c (List.mem_of_mem_take (List.mem_of_getElem? hc))
        have r50 := emod_lt (i := (i : Int)) (m := 50) (by decide)
        have nFt : F ≠ t := ne_of_none e1 ht
        refine ⟨t, _, rfl, SqT.of upd_same, rfl, _, _, rfl, _, _, rfl, rfl, ?_⟩
        refine ⟨_, rfl, .inl ⟨rfl, _, SqL.of (by rw [upd_ne nFt]; exact e1)⟩, _, rfl, _, rfl, _, rfl, _, rfl, _, rfl, _, _, rfl, rfl, (by show (0 : Int) < 50; decide), _, _, rfl, rfl, c, _, rfl, fc, by omega, by omega, fun rr rr0 rr1 => ?_⟩
        refine ⟨m, _, _, _, rfl, big, m2, by omega, rr0, fun p H3 q hp sm3 e6 okq => ?_⟩
        have keep : ∀ b o, H1 b = some o → H3 b = some o := fun b o e => sm3 b o (by rw [upd_ne (ne_of_none e ht)]; exact e)
        have nFp : F ≠ p := ne_of_none (show upd H1 t _ F = some _ by rw [upd_ne nFt]; exact e1) hp
        refine ⟨F, _, _, rfl, rfl, keep _ _ e1, ?_, ps ++ [q], some (.int (i : Int)), some (.int c), rfl, ⟨vs ++ [V.ref p], upd_same, ?_⟩, by rw [List.length_append, e3]; rfl, fun q2 hq2 => ?_, fun b o e => ?_, ?_⟩
        · rw [tups_len e2, List.length_map, e3, sizeLine_eq]
          omega
        · rw [List.map_append]
          refine tups_snoc (by rw [upd_ne nFp.symm]; exact e6) (tups_ext (fun b xs e => ?_) e2)
          rw [upd_ne (fun z => by rw [z, e1] at e; cases e)]
          exact keep b _ e
        · rcases List.mem_append.mp hq2 with h | h
          · exact e4 q2 h
          · rw [List.mem_singleton] at h
            rw [h]
            exact okq
        · rw [upd_ne (ne_of_none e hF0)]
          exact keep b o (sm b o e)
        · rw [upd_ne nFS.symm]
          exact keep _ _ e5
      · rintro σ H1 ⟨ps, u, v, rfl, e1, e3, e4, sm, e5⟩
        refine ⟨_, rfl, k F H1 ps hF0 sm e1 e4 (by omega) (fun h => by omega)⟩
end
end K09

set_option Elab.async false
set_option linter.all false
set_option maxRecDepth 100000
set_option maxHeartbeats 4000000
namespace K09
open PySem PySem.Spec PyProof.Rows L2 Own
def spMade (C : Addr) : Sp := fun vs H Q _ => ∃ (m : Nat) (pl : Addr) (seed : Int) (ps : List Pair), vs = [.int (m : Int), .ref pl, .int seed] ∧ 1 ≤ m ∧ m ≤ 16 ∧ TL H pl (ps.map pairV) ∧ (∀ q ∈ ps, PairOk m q) ∧ ps.length ≤ 60 ∧ Fit seed ∧
  ∀ (q p d l : Addr) (H' : Hp) (rows : List TRow) (n : Nat), H q = none → H p = none → H d = none → H l = none → Same H H' → H' q = some (.tup [.ref p, .ref l]) → TownAt C H' p d m rows n → TL H' l (rows.map rowV) → rows.map (·.2) = ps → n ≤ 2 * ps.length → (∀ i r, rows[i]? = some r → r.1 ≤ 2 * i + 1) → Q (.ref q) H'
abbrev s_law_made : Stmt := top 21
abbrev N_law_made : List Str := ["_law_many_here", "_law_pairs_here", "_law_seed_here", "_law_town", "_law_rows", "_law_k", "_law_one", "_law_other"]
theorem sc_law_made : FnScope N_law_made ["_law_many_here", "_law_pairs_here", "_law_seed_here"] (defScope s_law_made) := ⟨rfl, rfl, rfl, by decide +kernel, rfl, by decide +kernel, by decide +kernel⟩
section
variable {P : Program} {w : World} {K : PySem.W.Frag} {mg : Str → Option Value} {base : Heap} {f : Addr} {fd : FuncData}
theorem ok_made (T : TxtL mg) (D : FnP K "_law_made" "_law_made" s_law_made f fd) (c_law_mixed : CalX P w K mg base 1 "_law_mixed" spMixed) (c_Town : MakX P w K mg base 2 "Town" (gA K "Town") (spInit K (gA K "Town"))) (c_Town_build : MetX P w K mg base 2 (gA K "Town") "build" (spBuild K (gA K "Town"))) (c_Town_dig : MetX P w K mg base 2 (gA K "Town") "dig" (spDig K (gA K "Town"))) :
    FnOk P w K mg base (L2.CX P w) 4 f fd ["_law_many_here", "_law_pairs_here", "_law_seed_here"] (spMade (gA K "Town")) := by
  have nd := sc_law_made.nd
  refine D.ok sc_law_made (fun vs H Q E h => ?_) (fun cdv A outer s H vs Q E hr h => ?_)
  · obtain ⟨m, pl, seed, ps, rfl, _⟩ := h
    rfl
  · obtain ⟨m, pl, seed, ps, rfl, m1, m2, hP, okp, hlen, fs, k⟩ := h
    obtain ⟨f_law_mixed, fd_law_mixed, ps_law_mixed, F_law_mixed, m_law_mixed, k_law_mixed, b_law_mixed⟩ := c_law_mixed.ex
    obtain ⟨f_Town, fd_Town, ps_Town, M_Town, F_Town, m_Town, b_Town⟩ := c_Town.ex
    obtain ⟨f_Town_build, fd_Town_build, ps_Town_build, c_Town_build, M_Town_build, F_Town_build, b_Town_build⟩ := c_Town_build.ex
    obtain ⟨f_Town_dig, fd_Town_dig, ps_Town_dig, c_Town_dig, M_Town_dig, F_Town_dig, b_Town_dig⟩ := c_Town_dig.ex
    refine ⟨_, (pss_cons (ps_set (i := 3) nd rfl (Or.inl rfl) (pe_make M_Town F_Town (hr.mono (by decide)) rfl m_Town b_Town .nil passF (pa_cons (pv 0) pa_nil)))
      (pss_cons (ps_set (i := 4) nd rfl (Or.inl rfl) (pe_lst pa_nil))
      (pss_cons (ps_for (passes_of rfl) rfl (pi_enum rfl T.f_enumerate (pa_cons (pv 1) pa_nil)) (pg_tup rfl (pgs_cons (pg_name (i := 5) nd rfl (Or.inl rfl)) (pgs_cons (pg_tup rfl (pgs_cons (pg_name (i := 6) nd rfl (Or.inl rfl)) (pgs_cons (pg_name (i := 7) nd rfl (Or.inl rfl)) pgs_nil))) pgs_nil))) (pss_cons (ps_if (pt_cmpR op_eq (pe_op op_mod (pe_call F_law_mixed (hr.mono (by decide)) rfl m_law_mixed k_law_mixed b_law_mixed .nil passF (pa_cons (pv 2) (pa_cons (pe_op op_add pe_int (pe_op op_mod (pv 5) pe_int)) pa_nil))) pe_int) pe_int (nomark _)) (pss_one (ps_expr (pe_meth (pv 3) c_Town_dig M_Town_dig F_Town_dig (hr.mono (by decide)) b_Town_dig .nil passF (pa_cons (pe_meth (pv 3) c_Town_build M_Town_build F_Town_build (hr.mono (by decide)) b_Town_build .nil passF (pa_cons (pv 7) (pa_cons (pv 6) pa_nil))) pa_nil)))) pss_nil)
      (pss_one (ps_expr (pe_bm PySem.F.plainAttrs_list PySem.F.slot_list_append PySem.F.type_list_append mt_append (pv 4) (pa_cons (pe_tup (pa_cons (pe_meth (pv 3) c_Town_build M_Town_build F_Town_build (hr.mono (by decide)) b_Town_build .nil passF (pa_cons (pv 6) (pa_cons (pv 7) pa_nil))) (pa_cons (pv 6) (pa_cons (pv 7) pa_nil)))) pa_nil))))))
      (pss_one (ps_ret (pe_tup (pa_cons (pv 3) (pa_cons (pv 4) pa_nil)))))))), ?_⟩
    refine ⟨_, rfl, fun p dx np ndx nep => ?_⟩
    refine ⟨p, dx, _, rfl, upd_same, ⟨"int", rfl⟩, fun z => ?_, fun m' em _ _ d H1 hd W kp => ⟨rfl, ?_⟩⟩
    · rw [isW_true (by omega) (by omega)] at z
      cases z
    have em' : m' = m := (Int.ofNat.inj (V.int.inj em)).symm
    subst em'
    obtain ⟨ndp, hd1⟩ := upd_none hd
    obtain ⟨_, hd0⟩ := upd_none hd1
    have sm1 : Same H H1 := Same.made np ndx kp
    refine ⟨(by show 0 ≤ sizeLine; decide), fun L hL => ?_⟩
    have hL0 : H L = none := sm1.free hL
    obtain ⟨pvs, hpl, tp⟩ := hP
    have tpl := tups_len tp
    rw [List.length_map] at tpl
    have nLp : L ≠ p := by
      obtain ⟨dy, z⟩ := W.ob
      exact (ne_of_none z hL).symm
    have nLd : L ≠ d := by
      obtain ⟨kvs, z, _⟩ := W.dc
      exact (ne_of_none z hL).symm
    refine ⟨_, rfl, pl, pvs, rfl, (sm1.trans (same_new hL)).seq (SqL.of hpl), for_it walk_enum (fun i σ H' => ∃ (rows : List TRow) (n : Nat) (u v x : Option V), σ = [some (.int (m' : Int)), some (.ref pl), some (.int seed), some (.ref p), some (.ref L), u, v, x] ∧ TownAt (gA K "Town") H' p d m' rows n ∧ TL H' L (rows.map rowV) ∧ rows.map (·.2) = ps.take i ∧ n ≤ 2 * i ∧ Same H H' ∧ ∀ j r, rows[j]? = some r → r.1 ≤ 2 * j + 1)
      ⟨[], 0, none, none, none, rfl, W.same (same_new hL), ⟨[], upd_same, .nil⟩, rfl, Nat.le_refl _, sm1.trans (same_new hL), fun j r h => by simp at h⟩ (fun i σ H' _ ⟨_, _, _, _, _, _, _, _, _, _, sm, _⟩ => sm.seq (SqL.of hpl)) ?_ ?_⟩
    · rintro i x σ H2 H3 hi ⟨rows, n, u, v, y, rfl, W2, ⟨vs, e1, e2⟩, e3, nb, sm2, lo⟩ ⟨t, ka, za, rfl, ht, rfl, hk, hz⟩
      cases hk
      obtain ⟨tq, xs, rfl, hxs, htq⟩ := tups_get tp hz
      rw [List.getElem?_map] at hxs
      obtain ⟨q, hq, rfl⟩ : ∃ q, ps[i]? = some q ∧ xs = pairV q := by
        cases e : ps[i]? with
        | none =>
          rw [e] at hxs
          cases hxs
        | some q =>
          rw [e] at hxs
          exact ⟨q, rfl, (Option.some.inj hxs).symm⟩
      obtain ⟨q1, q2, q3⟩ := okp q (List.mem_of_getElem? hq)
      have lenr : rows.length < 60 := by
        have z := congrArg List.length e3
        rw [List.length_map, List.length_take] at z
        omega
      have W3 : TownAt (gA K "Town") (upd H2 t (.tup [.int (i : Int), .ref tq])) p d m' rows n := W2.same (same_new ht)
      have r30 := emod_lt (i := (i : Int)) (m := 30) (by decide)
      have htq2 := sm2 _ _ htq
      refine ⟨t, _, rfl, SqT.of upd_same, rfl, _, _, rfl, _, _, rfl, tq, _, rfl, SqT.of (by rw [upd_ne (ne_of_none htq2 ht)]; exact htq2), rfl, _, _, rfl, _, _, rfl, rfl, rfl, ?_⟩
      refine (fun (rest : ∀ (H4 : Hp) (n4 : Nat), n4 ≤ n + 1 → TownAt (gA K "Town") H4 p d m' rows n4 → Keeps (upd H2 t (.tup [.int (i : Int), .ref tq])) H4 p d → (_ : Hp → Prop) H4) => ⟨_, rfl, _, rfl, _, _, rfl, rfl, (by show (0 : Int) < 30; decide), _, _, rfl, rfl, seed, _, rfl, fs, (by omega), (by omega), fun r r0 r1 => ⟨_, _, rfl, rfl, (by show (0 : Int) < 4; decide), rfl, _, rfl, if_both (fun c1 => ?extra) (fun _ => rest _ n (Nat.le_succ n) W3 (fun c o hc _ _ => hc))⟩⟩) ?rest
      case extra =>
        obtain ⟨d1, hd1⟩ := W3.ob
        refine ⟨_, rfl, p, d1, _, rfl, hd1, tF_no _ _ _ (by decide +kernel) (by decide +kernel) (by decide +kernel), _, rfl, p, d1, _, rfl, hd1, tF_no _ _ _ (by decide +kernel) (by decide +kernel) (by decide +kernel), _, rfl, _, rfl, p, d, m', rows, n, _, _, rfl, W3, ⟨"int", rfl⟩, ⟨"int", rfl⟩, fun z => ?_, fun a b ea eb _ _ _ z => ?_, fun a b ea eb ha hb ne few H5 W5 kp5 => ?_⟩
        · rcases z with z | z | z
          · rw [isW_true (by omega) (by omega)] at z
            cases z
          · rw [isW_true (by omega) (by omega)] at z
            cases z
          · exact q3 (Int.ofNat.inj (V.int.inj z)).symm
        · omega
        · refine ⟨p, d, m', _, n + 1, _, rfl, W5, ⟨"int", rfl⟩, fun z => z ⟨n, rfl, ?_⟩, fun s es hs H6 W6 kp6 => ?_⟩
          · rw [List.map_append]
            exact List.mem_append_right _ (List.mem_singleton.mpr rfl)
          · have es' : s = n := (Int.ofNat.inj (V.int.inj es)).symm
            subst es'
            rw [W3.ok.back] at W6
            exact rest H6 _ (Nat.le_refl _) W6 fun c o hc h1 h2 => kp6 c o (kp5 c o hc h1 h2) h1 h2
      case rest =>
        intro H4 n4 hn4 W4 kp4
        obtain ⟨d1, hd1⟩ := W4.ob
        have nLt : L ≠ t := ne_of_none e1 ht
        have at4 : H4 L = some (.lst vs) := kp4 _ _ (by rw [upd_ne nLt]; exact e1) nLp nLd
        refine ⟨_, rfl, .inl ⟨rfl, _, SqL.of at4⟩, ?_⟩
        refine ⟨_, rfl, p, d1, _, rfl, hd1, tF_no _ _ _ (by decide +kernel) (by decide +kernel) (by decide +kernel), _, rfl, _, rfl, p, d, m', rows, n4, _, _, rfl, W4, ⟨"int", rfl⟩, ⟨"int", rfl⟩, fun z => ?_, fun a b ea eb _ _ _ z => ?_, fun a b ea eb ha hb ne few H5 W5 kp5 => ?_⟩
        · rcases z with z | z | z
          · rw [isW_true (by omega) (by omega)] at z
            cases z
          · rw [isW_true (by omega) (by omega)] at z
            cases z
          · exact q3 (Int.ofNat.inj (V.int.inj z))
        · omega
        · have ea' : a = q.1 := (Int.ofNat.inj (V.int.inj ea)).symm
          have eb' : b = q.2 := (Int.ofNat.inj (V.int.inj eb)).symm
          subst ea' eb'
          refine ⟨_, rfl, _, rfl, (by show 3 ≤ sizeLine; decide), fun g hg => ?_⟩
          have at5 := kp5 _ _ at4 nLp nLd
          have nLg : L ≠ g := ne_of_none at5 hg
          have tups5 : ∀ b xs, H2 b = some (.tup xs) → H5 b = some (.tup xs) := fun b xs e => keeps_tups W4 kp5 _ _ (keeps_tups W3 kp4 _ _ (by rw [upd_ne (ne_of_none e ht)]; exact e))
          refine ⟨L, vs, _, rfl, rfl, by rw [upd_ne nLg]; exact at5, ?_, rows ++ [(n4, q.1, q.2)], n4 + 1, some (.int (i : Int)), some (.int (q.1 : Int)), some (.int (q.2 : Int)), rfl, ?_, ⟨vs ++ [V.ref g], upd_same, ?_⟩, ?_, by omega, fun b o e => ?_, fun j r hj => ?_⟩
          · rw [tups_len e2, List.length_map, sizeLine_eq]
            omega
          · obtain ⟨dz, h1⟩ := W5.ob
            obtain ⟨kvs, h2, h3⟩ := W5.dc
            refine ⟨⟨dz, by rw [upd_ne nLp.symm, upd_ne (ne_of_none h1 hg)]; exact h1⟩, ⟨kvs, by rw [upd_ne nLd.symm, upd_ne (ne_of_none h2 hg)]; exact h2, ents_ext (fun b xs e => ?_) h3⟩, W5.ok, W5.pm⟩
            rw [upd_ne (fun z => by rw [z, at5] at e; cases e), upd_ne (ne_of_none e hg)]
            exact e
          · rw [List.map_append]
            refine tups_snoc (by rw [upd_ne nLg.symm]; exact upd_same) (tups_ext (fun b xs e => ?_) e2)
            rw [upd_ne (fun z => by rw [z, e1] at e; cases e), upd_ne (ne_of_none (tups5 b xs e) hg)]
            exact tups5 b xs e
          · rw [List.map_append, e3, take_snoc hq]
            rfl
          · have nbp : b ≠ p := fun z => by rw [z, np] at e; cases e
            have nbd : b ≠ d := fun z => by rw [z, hd0] at e; cases e
            have nbt := sm2 b o e
            rw [upd_ne (ne_of_none e hL0)]
            have z5 := kp5 b o (kp4 b o (by rw [upd_ne (ne_of_none nbt ht)]; exact nbt) nbp nbd) nbp nbd
            rw [upd_ne (ne_of_none z5 hg)]
            exact z5
          · have li : rows.length = i := by
              have z := congrArg List.length e3
              rw [List.length_map, List.length_take] at z
              omega
            by_cases hlt : j < rows.length
            · rw [List.getElem?_append_left hlt] at hj
              exact lo j r hj
            · rw [List.getElem?_append_right (by omega)] at hj
              by_cases h0 : j - rows.length = 0
              · rw [h0] at hj
                cases hj
                show n4 ≤ 2 * j + 1
                omega
              · have : ∃ x, j - rows.length = x + 1 := ⟨j - rows.length - 1, by omega⟩
                obtain ⟨x, hx⟩ := this
                rw [hx] at hj
                simp at hj
    · rintro σ H2 ⟨rows, n, u, v, y, rfl, W2, tl, e3, nb, sm2, lo⟩
      rw [tpl, List.take_length] at e3
      refine ⟨_, rfl, _, rfl, (by show 2 ≤ sizeLine; decide), fun q hq => ?_⟩
      obtain ⟨vs, e1, e2⟩ := tl
      exact k q p d L _ rows n (sm2.free hq) np hd0 hL0 (sm2.trans (same_new hq)) upd_same (W2.same (same_new hq)) ⟨vs, same_new hq _ _ e1, tups_ext (fun b xs e => same_new hq _ _ e) e2⟩ e3 (by omega) lo
end
end K09

set_option Elab.async false
set_option linter.all false
set_option maxRecDepth 100000
set_option maxHeartbeats 4000000
namespace K09
open PySem PySem.Spec PyProof.Rows L2 Own
/-! ### the law's word for a refusal -/
def errNames : List Str := ["BadCount", "BadPlace", "BadStreet", "TooMany", "Parted", "BadWays", "BadText"]
def plainErrs : List Str := ["BadCount", "BadPlace", "BadStreet", "TooMany", "BadWays", "BadText"]
structure TxtW (K : PySem.W.Frag) (mg : Str → Option Value) : Prop where
  f_isinstance : mg "isinstance" = none
  f_ValueError : mg "ValueError" = none
  m_TownError : mg "TownError" = some (.ref (gA K "TownError"))
  g_BadCount : ∃ u, mg "BadCount" = some u ∧ RelV (.ref (gA K "BadCount")) u
  g_BadPlace : ∃ u, mg "BadPlace" = some u ∧ RelV (.ref (gA K "BadPlace")) u
  g_BadStreet : ∃ u, mg "BadStreet" = some u ∧ RelV (.ref (gA K "BadStreet")) u
  g_TooMany : ∃ u, mg "TooMany" = some u ∧ RelV (.ref (gA K "TooMany")) u
  g_Parted : ∃ u, mg "Parted" = some u ∧ RelV (.ref (gA K "Parted")) u
  g_BadWays : ∃ u, mg "BadWays" = some u ∧ RelV (.ref (gA K "BadWays")) u
  g_BadText : ∃ u, mg "BadText" = some u ∧ RelV (.ref (gA K "BadText")) u
  none_ : ∀ y ∈ errNames, PySem.W.kitOne K (.type "NoneType") (.ref (gA K y)) = some false
  kit : ∀ x ∈ plainErrs, ∀ y ∈ errNames, PySem.W.kitOne K (.ref (gA K x)) (.ref (gA K y)) = some (decide (x = y))
  val : ∀ x ∈ plainErrs, PySem.W.kitOne K (.ref (gA K x)) (.type "ValueError") = some true
  exm : ∀ x ∈ plainErrs, PySem.W.exmOne K (.ref (gA K x)) (.ref (gA K "TownError")) = some true
  exc : ∀ x ∈ plainErrs, ExcC K (gA K x)
/-- isinstance(v, y) for each error class y -/
def Ans (K : PySem.W.Frag) (H : Hp) (v : V) (b : Str → Bool) : Prop := ∀ y ∈ errNames, ∀ H', Same H H' → ∀ Q : VK, Q (.bl (b y)) H' → (rIsi K [v, .ref (gA K y)] H' Q ∨ rIsK K [v, .ref (gA K y)] H' Q)
def flags (b : Str → Bool) : List (Str × Bool) := [("count", b "BadCount"), ("place", b "BadPlace"), ("street", b "BadStreet"), ("many", b "TooMany"), ("parted", b "Parted"), ("ways", b "BadWays"), ("text", b "BadText")]
def wordsOf (b : Str → Bool) : List Str := ((flags b).filter (·.2)).map (·.1)
def wordOf (x : Str) : List Str := wordsOf fun y => decide (x = y)
theorem word_count : wordOf "BadCount" = ([("count" : Str)] : List Str) := by decide +kernel
theorem word_place : wordOf "BadPlace" = ([("place" : Str)] : List Str) := by decide +kernel
theorem word_street : wordOf "BadStreet" = ([("street" : Str)] : List Str) := by decide +kernel
theorem word_many : wordOf "TooMany" = ([("many" : Str)] : List Str) := by decide +kernel
theorem word_ways : wordOf "BadWays" = ([("ways" : Str)] : List Str) := by decide +kernel
theorem word_text : wordOf "BadText" = ([("text" : Str)] : List Str) := by decide +kernel
theorem ans_none {K : PySem.W.Frag} {mg : Str → Option Value} (T : TxtW K mg) (H : Hp) : Ans K H .non fun _ => false :=
  fun y hy H' _ Q q => .inl ⟨.non, .ref (gA K y), .type "NoneType", .ref (gA K y), false, rfl, .own _, .base .non, T.none_ y hy, q⟩
theorem ans_exc {K : PySem.W.Frag} {mg : Str → Option Value} (T : TxtW K mg) {H : Hp} {a : Addr} {x : Str} (hx : x ∈ plainErrs) (e : H a = some (ExK (.ref (gA K x)) none a)) : Ans K H (.ref a) fun y => decide (x = y) :=
  fun y hy H' sm Q q => .inr ⟨a, gA K x, .ref (gA K y), .ref (gA K y), _, rfl, sm _ _ e, T.exc x hx, fun u hu => hu, T.kit x hx y hy, q⟩
/-- what the law makes of a deed tl: the word of what it lets out, none of what comes back -/
def TWord (K : PySem.W.Frag) : (XK → Hp → VK → Prop) → Hp → VK → Prop := fun tl H Q => ∀ (E' : XK) (Q' : VK),
  (∀ H' x, x ∈ plainErrs → (∀ l H'', H' l = none → Same H' H'' → H'' l = some (.lst ((wordOf x).map V.str)) → Q (.ref l) H'') → E' (.ref (gA K x)) none H') →
  (∀ v H', (∀ l H'', H' l = none → Same H' H'' → H'' l = some (.lst []) → Q (.ref l) H'') → Q' v H') → tl E' H Q'
abbrev s_law_word : Stmt := top 22
abbrev N_law_word : List Str := ["_law_deed", "_law_caught", "e", "_law_some", "_law_word_here", "_law_is_so"]
theorem sc_law_word : FnScope N_law_word ["_law_deed"] (defScope s_law_word) := ⟨rfl, rfl, rfl, by decide +kernel, rfl, by decide +kernel, by decide +kernel⟩
theorem tups_two {H : Hp} {t1 t2 : Addr} {xs1 xs2 : List V} (h1 : H t1 = some (.tup xs1)) (h2 : H t2 = some (.tup xs2)) : Tups H [V.ref t1, V.ref t2] [xs1, xs2] := .cons ⟨t1, rfl, h1⟩ (.cons ⟨t2, rfl, h2⟩ .nil)
theorem tups_app {H : Hp} : ∀ {vs ws : List V} {xss yss : List (List V)}, Tups H vs xss → Tups H ws yss → Tups H (vs ++ ws) (xss ++ yss)
  | _, _, _, _, .nil, h => h
  | _, _, _, _, .cons r q, h => .cons r (tups_app q h)
def flagV (q : Str × Bool) : List V := [.str q.1, .bl q.2]
abbrev wordCx (X : Cx) (g : Addr) (cdg : Value) (s : Shared) (H : Hp) : Cx := (cxOf C8.CX0 X.prog X.w X.K X.mg X.base N_law_word "_law_word" (defScope s_law_word) g cdg X.A X.stack s H C8.E0).nox
/-- what follows the try: from the value caught to the words -/
theorem word_rest {X : Cx} {g : Addr} {cdg : Value} {s : Shared} {H : Hp} {Q : VK} (T : TxtW X.K X.mg) :
    ∃ tR, PSs (wordCx X g cdg s H) ((defBody s_law_word).drop 2) tR ∧ ∀ (f : Option V) (H1 : Hp) (v : V) (b : Str → Bool), Ans X.K H1 v b → (v ≠ .non → ∀ H', Same H1 H' → ∀ Q' : VK, Q' (.bl true) H' → (rIsi X.K [v, .ty "ValueError"] H' Q' ∨ rIsK X.K [v, .ty "ValueError"] H' Q')) →
      (∀ l H'', H1 l = none → Same H1 H'' → H'' l = some (.lst ((wordsOf b).map V.str)) → Q (.ref l) H'') → tR { nx := fun _ H' => Q .non H', rt := Q } [f, some v, none, none, none, none] H1 := by
  have nd := sc_law_word.nd
  refine ⟨_, (pss_cons (ps_set (i := 3) nd rfl (Or.inl rfl) (pe_lst (pa_cons (pe_tup (pa_cons pe_str (pa_cons (pe_callB call_isBoth rfl T.f_isinstance (by decide +kernel) (pa_cons (pv 1) (pa_cons (C8.pe_gc rfl T.g_BadCount) pa_nil))) pa_nil))) (pa_cons (pe_tup (pa_cons pe_str (pa_cons (pe_callB call_isBoth rfl T.f_isinstance (by decide +kernel) (pa_cons (pv 1) (pa_cons (C8.pe_gc rfl T.g_BadPlace) pa_nil))) pa_nil))) pa_nil))))
      (pss_cons (ps_set (i := 3) nd rfl (Or.inl rfl) (pe_op op_cat (pv 3) (pe_lst (pa_cons (pe_tup (pa_cons pe_str (pa_cons (pe_callB call_isBoth rfl T.f_isinstance (by decide +kernel) (pa_cons (pv 1) (pa_cons (C8.pe_gc rfl T.g_BadStreet) pa_nil))) pa_nil))) (pa_cons (pe_tup (pa_cons pe_str (pa_cons (pe_callB call_isBoth rfl T.f_isinstance (by decide +kernel) (pa_cons (pv 1) (pa_cons (C8.pe_gc rfl T.g_TooMany) pa_nil))) pa_nil))) pa_nil)))))
      (pss_cons (ps_set (i := 3) nd rfl (Or.inl rfl) (pe_op op_cat (pv 3) (pe_lst (pa_cons (pe_tup (pa_cons pe_str (pa_cons (pe_callB call_isBoth rfl T.f_isinstance (by decide +kernel) (pa_cons (pv 1) (pa_cons (C8.pe_gc rfl T.g_Parted) pa_nil))) pa_nil))) (pa_cons (pe_tup (pa_cons pe_str (pa_cons (pe_callB call_isBoth rfl T.f_isinstance (by decide +kernel) (pa_cons (pv 1) (pa_cons (C8.pe_gc rfl T.g_BadWays) pa_nil))) pa_nil))) pa_nil)))))
      (pss_cons (ps_expr (pe_bm PySem.F.plainAttrs_list PySem.F.slot_list_append PySem.F.type_list_append mt_append (pv 3) (pa_cons (pe_tup (pa_cons pe_str (pa_cons (pe_callB call_isBoth rfl T.f_isinstance (by decide +kernel) (pa_cons (pv 1) (pa_cons (C8.pe_gc rfl T.g_BadText) pa_nil))) pa_nil))) pa_nil)))
      (pss_cons (ps_if (PW.pt (pw_and (pt_cmpR op_notN (pv 1) pe_non (nomark _)) (pw_and1 (pt_not (pt_val (pe_callB call_isBoth rfl T.f_isinstance (by decide +kernel) (pa_cons (pv 1) (pa_cons (pe_bltn (v := .ty "ValueError") (u := .type "ValueError") rfl T.f_ValueError (by decide +kernel) rfl) pa_nil)))))))) (pss_one (ps_expr (pe_bm PySem.F.plainAttrs_list PySem.F.slot_list_append PySem.F.type_list_append mt_append (pv 3) (pa_cons (pe_tup (pa_cons pe_str (pa_cons pe_bl pa_nil))) pa_nil)))) pss_nil)
      (pss_one (ps_ret (pe_lc (own := [("_law_word_here", 4), ("_law_is_so", 5)]) (g := (gTup X.K 2 (gCons (gName 4) (gCons (gName 5) gNil)))) rfl nd (pi_list (pv 3)) (blkOk_by (own := [("_law_word_here", 4), ("_law_is_so", 5)]) (N := N_law_word) (sc := defScope s_law_word) (by decide +kernel)) (fun _ _ _ _ _ => (pg_tup rfl (pgs_cons (pg_name (i := 4) nd rfl (Or.inl rfl)) (pgs_cons (pg_name (i := 5) nd rfl (Or.inl rfl)) pgs_nil)))) (fun _ _ _ _ _ => (pts_one (pt_val (pv 5)))) (fun _ _ _ _ _ => (pv 4)))))))))), ?_⟩
  intro f H1 v b A V1 k
  -- _law_some = [(count ..), (place ..)]
  refine ⟨_, rfl, A "BadCount" (by decide +kernel) _ (Same.refl H1) _ ⟨(by show 2 ≤ sizeLine; decide), fun t1 h1 => ?_⟩⟩
  have s1 : Same H1 _ := same_new (o := .tup (flagV ("count", b "BadCount"))) h1
  refine ⟨_, rfl, A "BadPlace" (by decide +kernel) _ s1 _ ⟨(by show 2 ≤ sizeLine; decide), fun t2 h2 => ?_⟩⟩
  have c2 := same_new (o := .tup (flagV ("place", b "BadPlace"))) h2
  have s2 := s1.trans c2
  have u2 := tups_two (c2 _ _ (upd_same (o := .tup (flagV ("count", b "BadCount"))))) (upd_same (H := upd H1 t1 (.tup (flagV ("count", b "BadCount")))) (a := t2) (o := .tup (flagV ("place", b "BadPlace"))))
  refine ⟨(by show 2 ≤ sizeLine; decide), fun l1 hl1 => ?_⟩
  have c3 := same_new (o := .lst [V.ref t1, V.ref t2]) hl1
  have s3 := s2.trans c3
  have u3 := tups_ext (fun t xs e => c3 t _ e) u2
  -- + [(street ..), (many ..)]
  refine ⟨_, rfl, ?_⟩
  refine ⟨_, rfl, A "BadStreet" (by decide +kernel) _ s3 _ ⟨(by show 2 ≤ sizeLine; decide), fun t3 h3 => ?_⟩⟩
  have c4 := same_new (o := .tup (flagV ("street", b "BadStreet"))) h3
  have s4 := s3.trans c4
  refine ⟨_, rfl, A "TooMany" (by decide +kernel) _ s4 _ ⟨(by show 2 ≤ sizeLine; decide), fun t4 h4 => ?_⟩⟩
  have c5 := same_new (o := .tup (flagV ("many", b "TooMany"))) h4
  have s5 := s4.trans c5
  have u5 := tups_app (tups_ext (fun t xs e => c5 t _ (c4 t _ e)) u3) (tups_two (c5 _ _ (upd_same (o := .tup (flagV ("street", b "BadStreet"))))) (upd_same (a := t4) (o := .tup (flagV ("many", b "TooMany")))))
  have a5 := c5 _ _ (c4 _ _ (upd_same (a := l1) (o := .lst [V.ref t1, V.ref t2])))
  refine ⟨(by show 2 ≤ sizeLine; decide), fun l2 hl2 => ?_⟩
  have c6 := same_new (o := .lst [V.ref t3, V.ref t4]) hl2
  refine ⟨l1, l2, _, _, rfl, rfl, c6 _ _ a5, upd_same, (by show 4 ≤ sizeLine; decide), fun l3 hl3 => ?_⟩
  have c7 := same_new (o := .lst [V.ref t1, V.ref t2, V.ref t3, V.ref t4]) hl3
  have s7 := (s5.trans c6).trans c7
  have u7 := tups_ext (fun t xs e => c7 t _ (c6 t _ e)) u5
  -- + [(parted ..), (ways ..)]
  refine ⟨_, rfl, ?_⟩
  refine ⟨_, rfl, A "Parted" (by decide +kernel) _ s7 _ ⟨(by show 2 ≤ sizeLine; decide), fun t5 h5 => ?_⟩⟩
  have c8 := same_new (o := .tup (flagV ("parted", b "Parted"))) h5
  have s8 := s7.trans c8
  refine ⟨_, rfl, A "BadWays" (by decide +kernel) _ s8 _ ⟨(by show 2 ≤ sizeLine; decide), fun t6 h6 => ?_⟩⟩
  have c9 := same_new (o := .tup (flagV ("ways", b "BadWays"))) h6
  have s9 := s8.trans c9
  have u9 := tups_app (tups_ext (fun t xs e => c9 t _ (c8 t _ e)) u7) (tups_two (c9 _ _ (upd_same (o := .tup (flagV ("parted", b "Parted"))))) (upd_same (a := t6) (o := .tup (flagV ("ways", b "BadWays")))))
  have a9 := c9 _ _ (c8 _ _ (upd_same (a := l3) (o := .lst [V.ref t1, V.ref t2, V.ref t3, V.ref t4])))
  refine ⟨(by show 2 ≤ sizeLine; decide), fun l4 hl4 => ?_⟩
  have c10 := same_new (o := .lst [V.ref t5, V.ref t6]) hl4
  refine ⟨l3, l4, _, _, rfl, rfl, c10 _ _ a9, upd_same, (by show 6 ≤ sizeLine; decide), fun l5 hl5 => ?_⟩
  have c11 := same_new (o := .lst [V.ref t1, V.ref t2, V.ref t3, V.ref t4, V.ref t5, V.ref t6]) hl5
  have s11 := (s9.trans c10).trans c11
  have u11 := tups_ext (fun t xs e => c11 t _ (c10 t _ e)) u9
  -- .append((text ..))
  refine ⟨_, rfl, .inl ⟨rfl, _, SqL.of upd_same⟩, _, rfl, A "BadText" (by decide +kernel) _ s11 _ ⟨(by show 2 ≤ sizeLine; decide), fun t7 h7 => ?_⟩⟩
  have c12 := same_new (o := .tup (flagV ("text", b "BadText"))) h7
  have s12 := s11.trans c12
  have u12 := tups_snoc (upd_same (a := t7) (o := .tup (flagV ("text", b "BadText")))) (tups_ext (fun t xs e => c12 t _ e) u11)
  have a12 := c12 _ _ (upd_same (a := l5) (o := .lst [V.ref t1, V.ref t2, V.ref t3, V.ref t4, V.ref t5, V.ref t6]))
  refine ⟨l5, _, _, rfl, rfl, a12, (by show 6 < sizeLine; decide), ?_⟩
  have n5 : H1 l5 = none := (s9.trans c10).free hl5
  have sL := same_over (o := .lst ([V.ref t1, V.ref t2, V.ref t3, V.ref t4, V.ref t5, V.ref t6] ++ [V.ref t7])) n5 s12
  have uL : Tups _ ([V.ref t1, V.ref t2, V.ref t3, V.ref t4, V.ref t5, V.ref t6] ++ [V.ref t7]) ((flags b).map flagV) := tups_over (o := .lst ([V.ref t1, V.ref t2, V.ref t3, V.ref t4, V.ref t5, V.ref t6] ++ [V.ref t7])) a12 u12
  have aL := fun (G : Hp) => upd_same (H := G) (a := l5) (o := .lst ([V.ref t1, V.ref t2, V.ref t3, V.ref t4, V.ref t5, V.ref t6] ++ [V.ref t7]))
  refine (fun rest => ⟨_, rfl, rfl, _, rfl, if_both (fun e => ⟨_, rfl, V1 (fun z => by rw [z] at e; cases e) _ sL _ ⟨_, rfl, rest⟩⟩) (fun _ => rest)⟩) ?_
  -- the words whose flags are set
  refine ⟨_, rfl, l5, rfl, ⟨_, SqL.of (aL _)⟩, fun D hD => ?_⟩
  have cD := same_new (o := .lst []) hD
  refine lc_it (walk_list (K := X.K) (xs := [V.ref t1, V.ref t2, V.ref t3, V.ref t4, V.ref t5, V.ref t6] ++ [V.ref t7])) (fun i H' => H' D = some (.lst ((((flags b).take i).filter (·.2)).map fun q => V.str q.1)) ∧ (((flags b).take i).filter (·.2)).length ≤ i ∧ Same _ H') ⟨upd_same, Nat.le_refl _, cD⟩ (fun i H' _ z => z.2.2.seq (SqL.of (aL _))) ?_ ?_
  · rintro i x H2 H3 hi ⟨e1, e2, sm⟩ ⟨rfl, hx⟩
    obtain ⟨t, xs, rfl, hxs, ht⟩ := tups_get uL hx
    rw [List.getElem?_map] at hxs
    obtain ⟨q, hq, rfl⟩ : ∃ q, (flags b)[i]? = some q ∧ flagV q = xs := by
      cases e : (flags b)[i]? with
      | none =>
        rw [e] at hxs
        cases hxs
      | some q =>
        rw [e] at hxs
        exact ⟨q, rfl, Option.some.inj hxs⟩
    refine ⟨t, _, rfl, SqT.of (sm _ _ ht), rfl, _, _, rfl, _, _, rfl, rfl, rfl, _, rfl, _, rfl, if_both (fun e => ?_) (fun e => ?_)⟩
    · have grow : ((flags b).take (i + 1)).filter (·.2) = ((flags b).take i).filter (·.2) ++ [q] := by
        rw [take_snoc hq, List.filter_append]
        simp [e]
      refine ⟨_, rfl, _, e1, ?_, ?_, ?_, ?_⟩
      · rw [List.length_map, sizeLine_eq]
        have : i < 7 := hi
        omega
      · rw [grow, List.map_append]
        exact upd_same
      · rw [grow, List.length_append]
        show _ + 1 ≤ i + 1
        omega
      · exact fun c o ec => by
          rw [upd_ne (ne_of_none ec hD)]
          exact sm c o ec
    · have same : ((flags b).take (i + 1)).filter (·.2) = ((flags b).take i).filter (·.2) := by
        rw [take_snoc hq, List.filter_append]
        simp [e]
      rw [same]
      exact ⟨e1, Nat.le_succ_of_le e2, sm⟩
  · rintro H2 ⟨e1, _, sm⟩
    refine k D H2 (sL.free hD) (sL.trans sm) ?_
    have full : (flags b).take ([V.ref t1, V.ref t2, V.ref t3, V.ref t4, V.ref t5, V.ref t6] ++ [V.ref t7]).length = flags b := List.take_of_length_le (Nat.le_refl 7)
    rw [full] at e1
    rw [e1]
    unfold wordsOf
    rw [List.map_map]
    rfl
theorem word_gives {X : Cx} {g : Addr} {cdg : Value} {q : Str} (T : TxtW X.K X.mg) : LamX.GivesTo X N_law_word "_law_word" (defScope s_law_word) g cdg (defBody s_law_word) "_law_deed" q (TWord X.K) := by
  intro f c' s H Q tl act hc h
  have nd := sc_law_word.nd
  let X0 : Cx := wordCx X g cdg s H
  let TB : WX → TS := fun W D σ H => ∃ ech : XK, (∀ cls d σ' H', ech cls d H' → W cls d σ' H') ∧ σ[0]? = some (some (V.ref f)) ∧ H c' = some (LamX.CodeO c' q) ∧ tl ech H (fun _ H' => D.nx σ H')
  have body : ∀ (W : WX) (pn : List (Addr × Obj)) (xe : Value → Shared → Prop), Takes (X0.tr pn xe) W → PassesOwn (model X0.prog X0.w) X0.A X0.env xe → ∀ (p1 p2 p3 : Pos), PSs (X0.tr pn xe) [.Expr (.Call (.Name "_law_deed" p1) [] [] p2) p3] (TB W) := by
    intro W pn xe tk _ p1 p2 p3
    refine ⟨fun pins s' σ H' D I h' => ?_⟩
    obtain ⟨ech, hW, h1, h2, h3⟩ := h'
    have hq := pss_one (ps_expr (pos := p3) (act W pn xe ech p1 p2 tk hW))
    exact hq.run pins s' σ H' D I ⟨h1, h2, h3⟩
  obtain ⟨tR, hR, use⟩ := word_rest (X := X) (g := g) (cdg := cdg) (s := s) (H := H) (Q := Q) T
  refine ⟨_, pss_cons (ps_set (i := 1) nd rfl (Or.inl rfl) pe_non) (pss_cons (ps_try_kept (X := X0) (i := 2) (j := 1) (c := .ref (gA X.K "TownError")) (tb := TB) (out := fun _ _ _ _ => False) rfl rfl nd rfl rfl rfl rfl ⟨rfl, by decide, .inl T.m_TownError⟩ rfl (oneOf_less (by decide)) takes0 (fun W pn xe tk h => body W pn xe tk h _ _ _)) hR), ?_⟩
  refine ⟨(fun cls d H' => d = none ∧ ∃ x ∈ plainErrs, cls = .ref (gA X.K x) ∧ ∀ l H'', H' l = none → Same H' H'' → H'' l = some (.lst ((wordOf x).map V.str)) → Q (.ref l) H''), fun cls d σ' H' hh => ?_, rfl, hc, ?_⟩
  · obtain ⟨rfl, x, hx, rfl, hk⟩ := hh
    refine ⟨true, T.exm x hx, fun _ a ha => ?_, fun z => Bool.noConfusion z⟩
    exact use none (upd H' a (ExK (.ref (gA X.K x)) none a)) (.ref a) _ (ans_exc T hx upd_same) (fun _ H2 sm Q' q => .inr ⟨a, gA X.K x, .ty "ValueError", .type "ValueError", true, rfl, sm _ _ upd_same, T.exc x hx, fun u hu => hu, T.val x hx, q⟩) fun l H'' hl sm e => hk l H'' (upd_none hl).2 ((same_new ha).trans sm) e
  · refine h _ _ (fun H' x hx hk => ⟨rfl, x, hx, rfl, hk⟩) fun v H' hk => ?_
    exact use (some (.ref f)) H' .non _ (ans_none T H') (fun z => absurd rfl z) fun l H'' hl sm e => hk l H'' hl sm e
end K09

set_option Elab.async false
set_option linter.all false
set_option maxRecDepth 100000
set_option maxHeartbeats 4000000
namespace K09
open PySem PySem.Spec PyProof.Rows L2 Own
/-! ### refusals of a town -/
section
variable {X : Cx} {T : List (Addr × Str)} {t : XK → TE} {params : Arguments} {body : Expr} {scope : Scope} {lpos p pos : Pos} {c P : Addr} {k : Nat} {fdw : FuncData} {gw : Addr}
/-- _law_word(lambda: body) -/
theorem pe_word (W : TxtW X.K X.mg) (D : FnP X.K "_law_word" "_law_word" s_law_word gw fdw) (hm : X.mg "_law_word" = some (.ref gw)) (hg : Gl X "_law_word") (TB : LamX.TabB X.base X.mg c P) (hcode : X.env.code = .ref c) (hmT : (P, X.env.qual ++ "<lambda>") ∈ T)
    (hu : ∀ q ∈ T, q.1 = P → q.2 = X.env.qual ++ "<lambda>") (hr : Room (k + 2) X.A) (L : LamX.LamS X.env.scope scope) (hdef : defaultsOf params X.env = ([], []))
    (hbind : LamBinds params body scope)
    (hbody : ∀ (A : Around) (outer : List Env) (s : Shared) (H : Hp) (E : XK) (f c' : Addr), Room k (A.deeper (LamX.lamEnv X scope s.heap.objs.size f c')) → PE (LamX.lamCx X A outer s H E scope f c') body (t E)) :
    PE X (.Call (.Name "_law_word" p) [.Lambda params body scope lpos] [] pos) (LamX.tLam T (TWord X.K) t) := by
  have b := FunD.bindsN D (ps := ["_law_deed"]) fun _ _ _ _ _ _ us hl => match us, hl with | [_], _ => rfl
  obtain ⟨oc, od, dV, kV, doc, pm, an, cdv, ct, osl, rfl, lk, hcd, _, _⟩ := D.ex
  exact LamX.pe_lamcall hg hm D.kp lk hcd b sc_law_word rfl (.inl (by decide +kernel)) (word_gives W) TB hcode hmT hu hr L hdef hbind hbody
end
def spNoPlace : Sp := fun vs H Q _ => ∃ (m : Nat) (num : Int), vs = [.int (m : Int), .int num] ∧ 1 ≤ m ∧ m ≤ 16 ∧ 0 ≤ num ∧ ∀ (v : V) (H' : Hp), Same H H' → (∃ n, tyName v H' = some n) → isW v 0 ((m : Int) - 1) = false → Q v H'
def spNoStreet : Sp := fun vs H Q _ => ∃ (g : Addr) (gone : List Nat) (num : Int), vs = [.ref g, .int num] ∧ H g = some (.lst (gone.map fun (s : Nat) => V.int (s : Int))) ∧ gone.length ≤ 1 ∧ 0 ≤ num ∧
  ∀ (v : V) (H' : Hp), Same H H' → (∃ n, tyName v H' = some n) → (∀ s : Nat, v = .int (s : Int) → s ∈ gone ∨ 1000 ≤ s) → Q v H'
abbrev s_law_no_place : Stmt := top 23
abbrev N_law_no_place : List Str := ["_law_many_here", "_law_number"]
theorem sc_law_no_place : FnScope N_law_no_place ["_law_many_here", "_law_number"] (defScope s_law_no_place) := ⟨rfl, rfl, rfl, by decide +kernel, rfl, by decide +kernel, by decide +kernel⟩
abbrev s_law_no_street : Stmt := top 24
abbrev N_law_no_street : List Str := ["_law_gone", "_law_number", "_law_some"]
theorem sc_law_no_street : FnScope N_law_no_street ["_law_gone", "_law_number"] (defScope s_law_no_street) := ⟨rfl, rfl, rfl, by decide +kernel, rfl, by decide +kernel, by decide +kernel⟩
section
variable {P : Program} {w : World} {K : PySem.W.Frag} {mg : Str → Option Value} {base : Heap} {f : Addr} {fd : FuncData}
theorem ok_no_place (D : FnP K "_law_no_place" "_law_no_place" s_law_no_place f fd) : FnOk P w K mg base (L2.CX P w) 1 f fd ["_law_many_here", "_law_number"] spNoPlace := by
  have nd := sc_law_no_place.nd
  refine D.ok sc_law_no_place (fun vs H Q E h => ?_) (fun cdv A outer s H vs Q E hr h => ?_)
  · obtain ⟨m, num, rfl, _⟩ := h
    rfl
  · obtain ⟨m, num, rfl, m1, m2, n0, k⟩ := h
    refine ⟨_, (pss_one (ps_ret (pe_ix ix_list (pe_lst (pa_cons (pv 0) (pa_cons (pe_un un_neg pe_int) (pa_cons pe_non (pa_cons pe_bl (pa_cons pe_str (pa_cons (pe_lst (pa_cons pe_int pa_nil)) (pa_cons (pe_tup (pa_cons pe_int pa_nil)) (pa_cons pe_dnewK (pa_cons (pe_op op_pow pe_int pe_int) (pa_cons pe_bl (pa_cons (pe_op op_add (pv 0) (pv 1)) pa_nil)))))))))))) (pe_op op_mod (pv 1) pe_int) (fun _ _ => rfl)))), ?_⟩
    refine ⟨_, rfl, _, rfl, (by show 1 ≤ sizeLine; decide), fun p1 h1 => ?_⟩
    have c1 := same_new (o := .lst [V.int 0]) h1
    refine ⟨(by show 1 ≤ sizeLine; decide), fun p2 h2 => ?_⟩
    have c2 := same_new (o := .tup [V.int 0]) h2
    intro p3 h3
    have c3 := same_new (o := .dK []) h3
    refine ⟨_, _, rfl, rfl, ⟨by decide, by decide, by decide⟩, ?_⟩
    refine ⟨_, rfl, _, rfl, _, _, rfl, rfl, (by show 11 ≤ sizeLine; decide), fun L hL => ?_⟩
    have cL := same_new (o := .lst [V.int (m : Int), V.int (-1), V.non, V.bl true, V.str "0", V.ref p1, V.ref p2, V.ref p3, V.int (10 ^ Int.toNat 20), V.bl false, V.int ((m : Int) + num)]) hL
    have z := emod_lt (i := num) (m := 11) (by decide)
    obtain ⟨v, hv, hin⟩ := at_lt (xs := [V.int (m : Int), V.int (-1), V.non, V.bl true, V.str "0", V.ref p1, V.ref p2, V.ref p3, V.int (10 ^ Int.toNat 20), V.bl false, V.int ((m : Int) + num)]) z.1 z.2
    refine ⟨_, rfl, _, _, rfl, rfl, (by show (0 : Int) < 11; decide), L, _, _, v, rfl, rfl, SqL.of upd_same, hv, ?_⟩
    have a1 := cL _ _ (c3 _ _ (c2 _ _ (upd_same (H := H) (a := p1) (o := .lst [V.int 0]))))
    have a2 := cL _ _ (c3 _ _ (upd_same (a := p2) (o := .tup [V.int 0])))
    have a3 := cL _ _ (upd_same (a := p3) (o := .dK []))
    refine k v _ (((c1.trans c2).trans c3).trans cL) ?_ ?_
    · simp only [List.mem_cons, List.not_mem_nil, or_false] at hin
      rcases hin with h | h | h | h | h | h | h | h | h | h | h <;> rw [h]
      · exact ⟨_, rfl⟩
      · exact ⟨_, rfl⟩
      · exact ⟨_, rfl⟩
      · exact ⟨_, rfl⟩
      · exact ⟨_, rfl⟩
      · exact ⟨"list", by simp only [tyName, a1]⟩
      · exact ⟨"tuple", by simp only [tyName, a2]⟩
      · exact ⟨"dict", by simp only [tyName, a3]⟩
      · exact ⟨_, rfl⟩
      · exact ⟨_, rfl⟩
      · exact ⟨_, rfl⟩
    · have far : ∀ i : Int, (m : Int) ≤ i → isW (.int i) 0 ((m : Int) - 1) = false := fun i hi => by
        show (decide (0 ≤ i) && decide (i ≤ (m : Int) - 1)) = false
        rw [decide_eq_false (show ¬ i ≤ (m : Int) - 1 by omega), Bool.and_false]
      simp only [List.mem_cons, List.not_mem_nil, or_false] at hin
      rcases hin with h | h | h | h | h | h | h | h | h | h | h <;> rw [h]
      · exact far _ (Int.le_refl _)
      · rfl
      · rfl
      · rfl
      · rfl
      · rfl
      · rfl
      · rfl
      · refine far _ ?_
        have e : (10 : Int) ^ Int.toNat 20 = 100000000000000000000 := by decide +kernel
        rw [e]
        omega
      · rfl
      · exact far _ (by omega)
theorem ok_no_street (T : TxtL mg) (D : FnP K "_law_no_street" "_law_no_street" s_law_no_street f fd) : FnOk P w K mg base (L2.CX P w) 1 f fd ["_law_gone", "_law_number"] spNoStreet := by
  have nd := sc_law_no_street.nd
  refine D.ok sc_law_no_street (fun vs H Q E h => ?_) (fun cdv A outer s H vs Q E hr h => ?_)
  · obtain ⟨g, gone, num, rfl, _⟩ := h
    rfl
  · obtain ⟨g, gone, num, rfl, hg, hl, n0, k⟩ := h
    refine ⟨_, (pss_cons (ps_set (i := 2) nd rfl (Or.inl rfl) (pe_lst (pa_cons (pe_un un_neg pe_int) (pa_cons pe_non (pa_cons pe_bl (pa_cons pe_str (pa_cons (pe_lst (pa_cons pe_int pa_nil)) (pa_cons (pe_tup (pa_cons pe_int pa_nil)) (pa_cons pe_dnewK (pa_cons (pe_op op_pow pe_int pe_int) (pa_cons pe_bl (pa_cons (pe_op op_add pe_int (pv 1)) pa_nil))))))))))))
      (pss_one (ps_ret (pe_ix ix_list (pe_op op_cat (pv 2) (pv 0)) (pe_op op_mod (pv 1) (pe_op op_add pe_int (pe_callB call_len_seq rfl T.f_len PySem.boot_len (pa_cons (pv 0) pa_nil)))) (fun _ _ => rfl))))), ?_⟩
    refine ⟨_, rfl, (by show 1 ≤ sizeLine; decide), fun p1 h1 => ?_⟩
    have c1 := same_new (o := .lst [V.int 0]) h1
    refine ⟨(by show 1 ≤ sizeLine; decide), fun p2 h2 => ?_⟩
    have c2 := same_new (o := .tup [V.int 0]) h2
    intro p3 h3
    have c3 := same_new (o := .dK []) h3
    refine ⟨_, _, rfl, rfl, ⟨by decide, by decide, by decide⟩, ?_⟩
    refine ⟨_, rfl, _, _, rfl, rfl, (by show 10 ≤ sizeLine; decide), fun L hL => ?_⟩
    have cL := same_new (o := .lst [V.int (-1), V.non, V.bl true, V.str "0", V.ref p1, V.ref p2, V.ref p3, V.int (10 ^ Int.toNat 20), V.bl false, V.int (1000 + num)]) hL
    have ag := cL _ _ (c3 _ _ (c2 _ _ (c1 _ _ hg)))
    refine ⟨_, rfl, _, rfl, L, g, _, _, rfl, rfl, upd_same, ag, ?_, fun L2 hL2 => ?_⟩
    · rw [List.length_map, sizeLine_eq]
      show 10 + gone.length ≤ _
      omega
    have cM := same_new (o := .lst ([V.int (-1), V.non, V.bl true, V.str "0", V.ref p1, V.ref p2, V.ref p3, V.int (10 ^ Int.toNat 20), V.bl false, V.int (1000 + num)] ++ gone.map fun (s : Nat) => V.int (s : Int))) hL2
    have el : ((10 : Int) + ((gone.map fun (s : Nat) => V.int (s : Int)).length : Int)) = (([V.int (-1), V.non, V.bl true, V.str "0", V.ref p1, V.ref p2, V.ref p3, V.int (10 ^ Int.toNat 20), V.bl false, V.int (1000 + num)] ++ gone.map fun (s : Nat) => V.int (s : Int)).length : Int) := by
      rw [List.length_append]
      rfl
    refine ⟨_, rfl, _, rfl, g, _, rfl, .inl (SqL.of (cM _ _ ag)), _, _, rfl, rfl, ?_⟩
    have pos : (0 : Int) < (10 : Int) + ((gone.map fun (s : Nat) => V.int (s : Int)).length : Int) := by omega
    have pos2 : (0 : Int) < (([V.int (-1), V.non, V.bl true, V.str "0", V.ref p1, V.ref p2, V.ref p3, V.int (10 ^ Int.toNat 20), V.bl false, V.int (1000 + num)] ++ gone.map fun (s : Nat) => V.int (s : Int)).length : Int) := by
      rw [List.length_append]
      show (0 : Int) < ((10 + _ : Nat) : Int)
      omega
    obtain ⟨v, hv, hin⟩ := at_mod (xs := [V.int (-1), V.non, V.bl true, V.str "0", V.ref p1, V.ref p2, V.ref p3, V.int (10 ^ Int.toNat 20), V.bl false, V.int (1000 + num)] ++ gone.map fun (s : Nat) => V.int (s : Int)) (i := num) (by simp)
    rw [← el] at hv
    refine ⟨_, _, rfl, rfl, pos, L2, _, _, v, rfl, rfl, SqL.of upd_same, hv, ?_⟩
    have a1 := cM _ _ (cL _ _ (c3 _ _ (c2 _ _ (upd_same (H := H) (a := p1) (o := .lst [V.int 0])))))
    have a2 := cM _ _ (cL _ _ (c3 _ _ (upd_same (a := p2) (o := .tup [V.int 0]))))
    have a3 := cM _ _ (cL _ _ (upd_same (a := p3) (o := .dK [])))
    refine k v _ ((((c1.trans c2).trans c3).trans cL).trans cM) ?_ ?_
    · simp only [List.mem_append, List.mem_cons, List.not_mem_nil, or_false, List.mem_map] at hin
      rcases hin with (h | h | h | h | h | h | h | h | h | h) | ⟨s, _, h⟩ <;> first | rw [h] | rw [← h]
      · exact ⟨_, rfl⟩
      · exact ⟨_, rfl⟩
      · exact ⟨_, rfl⟩
      · exact ⟨_, rfl⟩
      · exact ⟨"list", by simp only [tyName, a1]⟩
      · exact ⟨"tuple", by simp only [tyName, a2]⟩
      · exact ⟨"dict", by simp only [tyName, a3]⟩
      · exact ⟨_, rfl⟩
      · exact ⟨_, rfl⟩
      · exact ⟨_, rfl⟩
      · exact ⟨_, rfl⟩
    · intro s es
      simp only [List.mem_append, List.mem_cons, List.not_mem_nil, or_false, List.mem_map] at hin
      rcases hin with (h | h | h | h | h | h | h | h | h | h) | ⟨s2, h2, h⟩
      · rw [h] at es
        have := V.int.inj es
        omega
      · rw [h] at es; cases es
      · rw [h] at es; cases es
      · rw [h] at es; cases es
      · rw [h] at es; cases es
      · rw [h] at es; cases es
      · rw [h] at es; cases es
      · rw [h] at es
        have e : (10 : Int) ^ Int.toNat 20 = 100000000000000000000 := by decide +kernel
        have := V.int.inj es
        rw [e] at this
        exact .inr (by omega)
      · rw [h] at es; cases es
      · rw [h] at es
        have := V.int.inj es
        exact .inr (by omega)
      · rw [← h] at es
        have := V.int.inj es
        exact .inl (by
          have e3 : s2 = s := by omega
          rw [← e3]
          exact h2)
end
end K09

set_option Elab.async false
set_option linter.all false
set_option maxRecDepth 100000
set_option maxHeartbeats 4000000
namespace K09
open PySem PySem.Spec PyProof.Rows L2 Own
/-- every town that is told of in a def with lambdas: the tables known -/
def spRefused (C : Addr) (T : List (Addr × Str)) : Sp := fun vs H Q _ => ∃ (p d g : Addr) (m : Nat) (rows : List TRow) (n : Nat) (gone : List Nat) (num : Int), vs = [.ref p, .int (m : Int), .ref g, .int num] ∧ TownAt C H p d m rows n ∧
  H g = some (.lst (gone.map fun (s : Nat) => V.int (s : Int))) ∧ gone.length ≤ 1 ∧ (∀ s ∈ gone, s ∉ rows.map (·.1)) ∧ n ≤ 1000 ∧ 0 ≤ num ∧ LamX.Tabs T H ∧ ∀ H', ExtT T H H' → Q (.bl true) H'
abbrev s_law_refused : Stmt := top 25
abbrev N_law_refused : List Str := ["_law_town", "_law_many_here", "_law_gone", "_law_number", "_law_odd", "_law_place", "_law_street"]
theorem sc_law_refused : FnScope N_law_refused ["_law_town", "_law_many_here", "_law_gone", "_law_number"] (defScope s_law_refused) := ⟨rfl, rfl, rfl, by decide +kernel, rfl, by decide +kernel, by decide +kernel⟩
theorem dp_strs {K : PySem.W.Frag} {H : Hp} : ∀ ws : List Str, DpAll K H (ws.map V.str) (ws.map PyData.str)
  | [] => .nil
  | n :: ns => .cons (.str n) (dp_strs ns)
theorem lay_words : ∀ x ∈ plainErrs, SeqAt.shaped (.list ((wordOf x).map PyData.str)) = true ∧ PyData.eqv (.list ((wordOf x).map PyData.str)) (.list ((wordOf x).map PyData.str)) = true := by decide +kernel
/-- the word compared with the one that is due -/
theorem eq_word {K : PySem.W.Frag} {l : Addr} {H3 : Hp} {σ : L2.St} {x wd : Str} {Q : VK} (hx : x ∈ plainErrs) (hw : wordOf x = [wd]) (el : H3 l = some (.lst ((wordOf x).map V.str))) (fin : ∀ H4, Same H3 H4 → Q (.bl true) H4) :
    tLst (tCons (tC (.str wd)) tNil) σ H3 fun z H5 => rEqD K (.ref l) z H5 Q := by
  obtain ⟨s1, s2⟩ := lay_words x hx
  refine ⟨(by show 1 ≤ sizeLine; decide), fun l2 hl2 => ?_⟩
  rw [hw] at el s1 s2
  refine ⟨_, _, .lst (SqL.of (same_new hl2 _ _ el)) (dp_strs [wd]), .lst (SqL.of upd_same) (dp_strs [wd]), s1, s1, ?_⟩
  rw [s2]
  exact fin _ (same_new hl2)
theorem neq_word {K : PySem.W.Frag} {l : Addr} {H3 : Hp} {σ : L2.St} {x wd : Str} {Q : VK} (hx : x ∈ plainErrs) (hw : wordOf x = [wd]) (el : H3 l = some (.lst ((wordOf x).map V.str))) (fin : ∀ H4, Same H3 H4 → Q (.bl false) H4) :
    tLst (tCons (tC (.str wd)) tNil) σ H3 fun z H5 => rNeD K (.ref l) z H5 Q := by
  obtain ⟨s1, s2⟩ := lay_words x hx
  refine ⟨(by show 1 ≤ sizeLine; decide), fun l2 hl2 => ?_⟩
  rw [hw] at el s1 s2
  refine ⟨_, _, .lst (SqL.of (same_new hl2 _ _ el)) (dp_strs [wd]), .lst (SqL.of upd_same) (dp_strs [wd]), s1, s1, ?_⟩
  rw [s2]
  exact fin _ (same_new hl2)
section
variable {P : Program} {w : World} {K : PySem.W.Frag} {mg : Str → Option Value} {base : Heap} {f : Addr} {fd : FuncData}
theorem ok_refused {T : List (Addr × Str)} {fdw : FuncData} (TW : TxtW K mg) (D : FnP K "_law_refused" "_law_refused" s_law_refused (He.fAd K ("_law_refused", none)) fd) (Dw : FnP K "_law_word" "_law_word" s_law_word (gA K "_law_word") fdw) (mw : mg "_law_word" = some (.ref (gA K "_law_word")))
    (TB : LamX.TabB base mg (He.cT K ("_law_refused", none)).1 (He.cT K ("_law_refused", none)).2) (hmT : ((He.cT K ("_law_refused", none)).2, ("_law_refused.<locals>." : Str) ++ "<lambda>") ∈ T) (hu : ∀ q ∈ T, q.1 = (He.cT K ("_law_refused", none)).2 → q.2 = ("_law_refused.<locals>." : Str) ++ "<lambda>")
    (c_law_no_place : CalX P w K mg base 1 "_law_no_place" spNoPlace) (c_law_no_street : CalX P w K mg base 1 "_law_no_street" spNoStreet)
    (c_Town_build : MetX P w K mg base 2 (gA K "Town") "build" (spBuild K (gA K "Town"))) (c_Town_dig : MetX P w K mg base 2 (gA K "Town") "dig" (spDig K (gA K "Town"))) :
    FnOk P w K mg base (L2.CX P w) 11 (He.fAd K ("_law_refused", none)) fd ["_law_town", "_law_many_here", "_law_gone", "_law_number"] (spRefused (gA K "Town") T) := by
  have nd := sc_law_refused.nd
  refine fn_lam D sc_law_refused (fun vs H Q E h => ?_) (fun A outer s H vs Q E hr h => ?_)
  · obtain ⟨p, d, g, m, rows, n, gone, num, rfl, _⟩ := h
    rfl
  · obtain ⟨p, d, g, m, rows, n, gone, num, rfl, W, hg, hl, ng, n1000, n0, tabs, k⟩ := h
    obtain ⟨f_law_no_place, fd_law_no_place, ps_law_no_place, F_law_no_place, m_law_no_place, k_law_no_place, b_law_no_place⟩ := c_law_no_place.ex
    obtain ⟨f_law_no_street, fd_law_no_street, ps_law_no_street, F_law_no_street, m_law_no_street, k_law_no_street, b_law_no_street⟩ := c_law_no_street.ex
    obtain ⟨f_Town_build, fd_Town_build, ps_Town_build, c_Town_build, M_Town_build, F_Town_build, b_Town_build⟩ := c_Town_build.ex
    obtain ⟨f_Town_dig, fd_Town_dig, ps_Town_dig, c_Town_dig, M_Town_dig, F_Town_dig, b_Town_dig⟩ := c_Town_dig.ex
    refine ⟨_, (pss_cons (ps_set (i := 4) nd rfl (Or.inr rfl) (pe_call F_law_no_place (hr.mono (by decide)) rfl m_law_no_place k_law_no_place b_law_no_place .nil passF (pa_cons (pv 1) (pa_cons (pe_op op_fdiv (pv 3) pe_int) pa_nil))))
      (pss_cons (ps_set (i := 5) nd rfl (Or.inr rfl) (pe_op op_mod (pe_op op_fdiv (pv 3) pe_int) (pv 1)))
      (pss_cons (ps_if (pt_cmpR op_eq (pe_op op_mod (pv 3) pe_int) pe_int (nomark _)) (pss_one (ps_ret (pe_cmpR (op_eqD hr.units) (pe_word (k := 8) (t := fun E0 => tMeth (gA K "Town") "build" (spBuild K (gA K "Town")) [] E0 (tVar 0) (tCons (tVar 4) (tCons (tVar 5) tNil))) TW Dw mw rfl TB rfl hmT hu (hr.mono (by decide)) (LamX.lamS_by (by show LamX.lamSB (defScope s_law_refused) _ = true; decide +kernel)) (by rfl) (fun _ _ _ _ _ => by rfl) (fun A1 outer1 s1 H1 E1 f1 c1 hr1 => pe_meth (pv 0) c_Town_build M_Town_build F_Town_build (hr1.mono (by decide)) b_Town_build .nil (passes_call (takes_of rfl rfl rfl rfl) (fun _ _ _ _ h => h)) (pa_cons (pv 4) (pa_cons (pv 5) pa_nil)))) (pe_lst (pa_cons pe_str pa_nil)) (nomark _)))) pss_nil)
      (pss_cons (ps_if (pt_cmpR op_eq (pe_op op_mod (pv 3) pe_int) pe_int (nomark _)) (pss_one (ps_ret (pe_cmpR (op_eqD hr.units) (pe_word (k := 8) (t := fun E0 => tMeth (gA K "Town") "build" (spBuild K (gA K "Town")) [] E0 (tVar 0) (tCons (tVar 5) (tCons (tVar 4) tNil))) TW Dw mw rfl TB rfl hmT hu (hr.mono (by decide)) (LamX.lamS_by (by show LamX.lamSB (defScope s_law_refused) _ = true; decide +kernel)) (by rfl) (fun _ _ _ _ _ => by rfl) (fun A1 outer1 s1 H1 E1 f1 c1 hr1 => pe_meth (pv 0) c_Town_build M_Town_build F_Town_build (hr1.mono (by decide)) b_Town_build .nil (passes_call (takes_of rfl rfl rfl rfl) (fun _ _ _ _ h => h)) (pa_cons (pv 5) (pa_cons (pv 4) pa_nil)))) (pe_lst (pa_cons pe_str pa_nil)) (nomark _)))) pss_nil)
      (pss_cons (ps_if (pt_cmpR op_eq (pe_op op_mod (pv 3) pe_int) pe_int (nomark _)) (pss_one (ps_ret (pe_cmpR (op_eqD hr.units) (pe_word (k := 8) (t := fun E0 => tMeth (gA K "Town") "build" (spBuild K (gA K "Town")) [] E0 (tVar 0) (tCons (tVar 5) (tCons (tVar 5) tNil))) TW Dw mw rfl TB rfl hmT hu (hr.mono (by decide)) (LamX.lamS_by (by show LamX.lamSB (defScope s_law_refused) _ = true; decide +kernel)) (by rfl) (fun _ _ _ _ _ => by rfl) (fun A1 outer1 s1 H1 E1 f1 c1 hr1 => pe_meth (pv 0) c_Town_build M_Town_build F_Town_build (hr1.mono (by decide)) b_Town_build .nil (passes_call (takes_of rfl rfl rfl rfl) (fun _ _ _ _ h => h)) (pa_cons (pv 5) (pa_cons (pv 5) pa_nil)))) (pe_lst (pa_cons pe_str pa_nil)) (nomark _)))) pss_nil)
      (pss_cons (ps_set (i := 6) nd rfl (Or.inr rfl) (pe_call F_law_no_street (hr.mono (by decide)) rfl m_law_no_street k_law_no_street b_law_no_street .nil passF (pa_cons (pv 2) (pa_cons (pe_op op_fdiv (pv 3) pe_int) pa_nil))))
      (pss_one (ps_ret (pe_cmpR (op_eqD hr.units) (pe_word (k := 8) (t := fun E0 => tMeth (gA K "Town") "dig" (spDig K (gA K "Town")) [] E0 (tVar 0) (tCons (tVar 6) tNil)) TW Dw mw rfl TB rfl hmT hu (hr.mono (by decide)) (LamX.lamS_by (by show LamX.lamSB (defScope s_law_refused) _ = true; decide +kernel)) (by rfl) (fun _ _ _ _ _ => by rfl) (fun A1 outer1 s1 H1 E1 f1 c1 hr1 => pe_meth (pv 0) c_Town_dig M_Town_dig F_Town_dig (hr1.mono (by decide)) b_Town_dig .nil (passes_call (takes_of rfl rfl rfl rfl) (fun _ _ _ _ h => h)) (pa_cons (pv 6) pa_nil))) (pe_lst (pa_cons pe_str pa_nil)) (nomark _)))))))))), ?_⟩
    refine ⟨_, rfl, _, rfl, _, _, rfl, rfl, ⟨by decide, by decide⟩, m, _, rfl, W.pm.1, W.pm.2, by omega, fun v H1 sm ty nw => ?_⟩
    have W1 := W.same sm
    have t1 := tabs.ext sm
    obtain ⟨pl0, pl1⟩ := emod_lt (i := num / 50) (m := (m : Int)) (by have := W.pm.1; omega)
    refine ⟨_, rfl, _, _, rfl, rfl, ⟨by decide, by decide⟩, _, rfl, _, _, rfl, rfl, (by show (0 : Int) < (m : Int); have := W.pm.1; omega), ?_⟩
    have town : ∀ {H2 : Hp}, TownAt (gA K "Town") H2 p d m rows n → ∃ dx, H2 p = some (.ins (gA K "Town") dx (tF m d n)) := fun z => z.ob
    refine ⟨_, rfl, _, _, rfl, rfl, (by show (0 : Int) < 4; decide), rfl, _, rfl, if_both (fun _ => ⟨t1, fun H2 ext t2 E' Q' hE hQ => ?a1⟩) (fun _ => ?n1)⟩
    case a1 =>
      have W2 := W1.ext ext
      obtain ⟨dx, hp⟩ := W2.ob
      refine ⟨_, rfl, p, dx, _, rfl, hp, tF_no _ _ _ (by decide +kernel) (by decide +kernel) (by decide +kernel), _, rfl, _, rfl, p, d, m, rows, n, _, _, rfl, W2, ty_ext ext ty, ⟨"int", rfl⟩, fun _ => ?_, fun a b ea _ ha _ _ _ => ?_, fun a b ea _ ha _ _ _ => ?_⟩
      · exact hE H2 "BadPlace" (by decide +kernel) fun l H3 hl sm3 el => eq_word (by decide +kernel) word_place el fun H4 sm4 => k H4 (ext_trans (LamX.ExtN.of sm) (ext_trans ext (ext_same t2 (sm3.trans sm4))))
      · rw [ea, isW_true (by omega) (by omega)] at nw
        cases nw
      · rw [ea, isW_true (by omega) (by omega)] at nw
        cases nw
    refine ⟨_, rfl, _, _, rfl, rfl, (by show (0 : Int) < 4; decide), rfl, _, rfl, if_both (fun _ => ⟨t1, fun H2 ext t2 E' Q' hE hQ => ?a2⟩) (fun _ => ?n2)⟩
    case a2 =>
      have W2 := W1.ext ext
      obtain ⟨dx, hp⟩ := W2.ob
      refine ⟨_, rfl, p, dx, _, rfl, hp, tF_no _ _ _ (by decide +kernel) (by decide +kernel) (by decide +kernel), _, rfl, _, rfl, p, d, m, rows, n, _, _, rfl, W2, ⟨"int", rfl⟩, ty_ext ext ty, fun _ => ?_, fun a b _ eb _ hb _ _ => ?_, fun a b _ eb _ hb _ _ => ?_⟩
      · exact hE H2 "BadPlace" (by decide +kernel) fun l H3 hl sm3 el => eq_word (by decide +kernel) word_place el fun H4 sm4 => k H4 (ext_trans (LamX.ExtN.of sm) (ext_trans ext (ext_same t2 (sm3.trans sm4))))
      · rw [eb, isW_true (by omega) (by omega)] at nw
        cases nw
      · rw [eb, isW_true (by omega) (by omega)] at nw
        cases nw
    refine ⟨_, rfl, _, _, rfl, rfl, (by show (0 : Int) < 4; decide), rfl, _, rfl, if_both (fun _ => ⟨t1, fun H2 ext t2 E' Q' hE hQ => ?a3⟩) (fun _ => ?n3)⟩
    case a3 =>
      have W2 := W1.ext ext
      obtain ⟨dx, hp⟩ := W2.ob
      refine ⟨_, rfl, p, dx, _, rfl, hp, tF_no _ _ _ (by decide +kernel) (by decide +kernel) (by decide +kernel), _, rfl, _, rfl, p, d, m, rows, n, _, _, rfl, W2, ⟨"int", rfl⟩, ⟨"int", rfl⟩, fun _ => ?_, fun a b ea eb _ _ ne _ => ?_, fun a b ea eb _ _ ne _ => ?_⟩
      · exact hE H2 "BadPlace" (by decide +kernel) fun l H3 hl sm3 el => eq_word (by decide +kernel) word_place el fun H4 sm4 => k H4 (ext_trans (LamX.ExtN.of sm) (ext_trans ext (ext_same t2 (sm3.trans sm4))))
      · exact (ne (Int.ofNat.inj ((V.int.inj ea).symm.trans (V.int.inj eb)))).elim
      · exact (ne (Int.ofNat.inj ((V.int.inj ea).symm.trans (V.int.inj eb)))).elim
    refine ⟨_, rfl, _, rfl, _, _, rfl, rfl, ⟨by decide, by decide⟩, g, gone, _, rfl, sm _ _ hg, hl, by omega, fun v2 H1b smb ty2 no2 => ?_⟩
    refine ⟨t1.ext smb, fun H2 ext t2 E' Q' hE hQ => ?_⟩
    have W2 := (W1.same smb).ext ext
    obtain ⟨dx, hp⟩ := W2.ob
    refine ⟨_, rfl, p, dx, _, rfl, hp, tF_no _ _ _ (by decide +kernel) (by decide +kernel) (by decide +kernel), _, rfl, p, d, m, rows, n, _, rfl, W2, ty_ext ext ty2, fun _ => ?_, fun s es hs => ?_⟩
    · exact hE H2 "BadStreet" (by decide +kernel) fun l H3 hl sm3 el => eq_word (by decide +kernel) word_street el fun H4 sm4 => k H4 (ext_trans (LamX.ExtN.of (sm.trans smb)) (ext_trans ext (ext_same t2 (sm3.trans sm4))))
    · rcases no2 s es with z | z
      · exact (ng s z hs).elim
      · obtain ⟨r, hr1, hr2⟩ := List.mem_map.mp hs
        have := W.ok.below r hr1
        omega
end
end K09

set_option Elab.async false
set_option linter.all false
set_option maxRecDepth 100000
set_option maxHeartbeats 4000000
namespace K09
open PySem PySem.Spec PyProof.Rows L2 Own
def spFull (C : Addr) (T : List (Addr × Str)) : Sp := fun vs H Q _ => ∃ (p d : Addr) (m : Nat) (rows : List TRow) (n : Nat), vs = [.ref p, .int (m : Int)] ∧ TownAt C H p d m rows n ∧ 2 ≤ m ∧ rows.length < 60 ∧ LamX.Tabs T H ∧ ∀ H', Q (.bl true) H'
abbrev s_law_full_refused : Stmt := top 26
abbrev N_law_full_refused : List Str := ["_law_town", "_law_many_here", "_law_kept", "_law_last"]
theorem sc_law_full_refused : FnScope N_law_full_refused ["_law_town", "_law_many_here"] (defScope s_law_full_refused) := ⟨rfl, rfl, rfl, by decide +kernel, rfl, by decide +kernel, by decide +kernel⟩
section
variable {P : Program} {w : World} {K : PySem.W.Frag} {mg : Str → Option Value} {base : Heap} {f : Addr} {fd : FuncData}
theorem ok_full {T_ : List (Addr × Str)} {fdw : FuncData} (T : TxtL mg) (TW : TxtW K mg) (D : FnP K "_law_full_refused" "_law_full_refused" s_law_full_refused (He.fAd K ("_law_full_refused", none)) fd) (Dw : FnP K "_law_word" "_law_word" s_law_word (gA K "_law_word") fdw) (mw : mg "_law_word" = some (.ref (gA K "_law_word")))
    (TB : LamX.TabB base mg (He.cT K ("_law_full_refused", none)).1 (He.cT K ("_law_full_refused", none)).2) (hmT : ((He.cT K ("_law_full_refused", none)).2, ("_law_full_refused.<locals>." : Str) ++ "<lambda>") ∈ T_) (hu : ∀ q ∈ T_, q.1 = (He.cT K ("_law_full_refused", none)).2 → q.2 = ("_law_full_refused.<locals>." : Str) ++ "<lambda>")
    (c_Town_build : MetX P w K mg base 2 (gA K "Town") "build" (spBuild K (gA K "Town"))) (c_Town_dig : MetX P w K mg base 2 (gA K "Town") "dig" (spDig K (gA K "Town"))) (c_Town_streets : MetX P w K mg base 1 (gA K "Town") "streets" (spStreets (gA K "Town"))) :
    FnOk P w K mg base (L2.CX P w) 11 (He.fAd K ("_law_full_refused", none)) fd ["_law_town", "_law_many_here"] (spFull (gA K "Town") T_) := by
  have nd := sc_law_full_refused.nd
  refine fn_lam D sc_law_full_refused (fun vs H Q E h => ?_) (fun A outer s H vs Q E hr h => ?_)
  · obtain ⟨p, d, m, rows, n, rfl, _⟩ := h
    rfl
  · obtain ⟨p, d, m, rows, n, rfl, W, m2, few, tabs, k⟩ := h
    obtain ⟨f_Town_build, fd_Town_build, ps_Town_build, c_Town_build, M_Town_build, F_Town_build, b_Town_build⟩ := c_Town_build.ex
    obtain ⟨f_Town_dig, fd_Town_dig, ps_Town_dig, c_Town_dig, M_Town_dig, F_Town_dig, b_Town_dig⟩ := c_Town_dig.ex
    obtain ⟨f_Town_streets, fd_Town_streets, ps_Town_streets, c_Town_streets, M_Town_streets, F_Town_streets, b_Town_streets⟩ := c_Town_streets.ex
    refine ⟨_, (pss_cons (ps_while (passes_of rfl) (pt_cmpR op_lt (pe_callB call_len_seq rfl T.f_len PySem.boot_len (pa_cons (pe_meth0 (pv 0) c_Town_streets M_Town_streets F_Town_streets (hr.mono (by decide)) b_Town_streets .nil passF) pa_nil)) pe_int (nomark _)) (pss_one (ps_expr (pe_meth (pv 0) c_Town_build M_Town_build F_Town_build (hr.mono (by decide)) b_Town_build .nil passF (pa_cons pe_int (pa_cons (pe_op op_sub (pv 1) pe_int) pa_nil))))))
      (pss_cons (ps_set (i := 2) nd rfl (Or.inl rfl) (pe_meth0 (pv 0) c_Town_streets M_Town_streets F_Town_streets (hr.mono (by decide)) b_Town_streets .nil passF))
      (pss_cons (ps_if (pt_cmpR (op_neD hr.units) (pe_word (k := 8) (t := fun E0 => tMeth (gA K "Town") "build" (spBuild K (gA K "Town")) [] E0 (tVar 0) (tCons (tC (.int 0)) (tCons (tOp (rI0 fun i j => .int (i - j)) (tVar 1) (tC (.int 1))) tNil))) TW Dw mw rfl TB rfl hmT hu (hr.mono (by decide)) (LamX.lamS_by (by show LamX.lamSB (defScope s_law_full_refused) _ = true; decide +kernel)) (by rfl) (fun _ _ _ _ _ => by rfl) (fun A1 outer1 s1 H1 E1 f1 c1 hr1 => pe_meth (pv 0) c_Town_build M_Town_build F_Town_build (hr1.mono (by decide)) b_Town_build .nil (passes_call (takes_of rfl rfl rfl rfl) (fun _ _ _ _ h => h)) (pa_cons pe_int (pa_cons (pe_op op_sub (pv 1) pe_int) pa_nil)))) (pe_lst (pa_cons pe_str pa_nil)) (nomark _)) (pss_one (ps_ret pe_bl)) pss_nil)
      (pss_cons (ps_if (PW.pt (pw_or (pt_cmpR (op_neD hr.units) (pe_word (k := 8) (t := fun E0 => tMeth (gA K "Town") "build" (spBuild K (gA K "Town")) [] E0 (tVar 0) (tCons (tC (.int 0)) (tCons (tC (.int 0)) tNil))) TW Dw mw rfl TB rfl hmT hu (hr.mono (by decide)) (LamX.lamS_by (by show LamX.lamSB (defScope s_law_full_refused) _ = true; decide +kernel)) (by rfl) (fun _ _ _ _ _ => by rfl) (fun A1 outer1 s1 H1 E1 f1 c1 hr1 => pe_meth (pv 0) c_Town_build M_Town_build F_Town_build (hr1.mono (by decide)) b_Town_build .nil (passes_call (takes_of rfl rfl rfl rfl) (fun _ _ _ _ h => h)) (pa_cons pe_int (pa_cons pe_int pa_nil)))) (pe_lst (pa_cons pe_str pa_nil)) (nomark _)) (pw_or1 (pt_cmpR (op_neD hr.units) (pe_meth0 (pv 0) c_Town_streets M_Town_streets F_Town_streets (hr.mono (by decide)) b_Town_streets .nil passF) (pv 2) (nomark _))))) (pss_one (ps_ret pe_bl)) pss_nil)
      (pss_cons (ps_set (i := 3) nd rfl (Or.inl rfl) (pe_ix ix_tup (pe_ix ix_list (pv 2) (pe_un un_neg pe_int) (fun _ _ => rfl)) pe_int (fun _ _ => rfl)))
      (pss_cons (ps_expr (pe_meth (pv 0) c_Town_dig M_Town_dig F_Town_dig (hr.mono (by decide)) b_Town_dig .nil passF (pa_cons (pv 3) pa_nil)))
      (pss_one (ps_ret (pe_cmpR op_eq (pe_meth (pv 0) c_Town_build M_Town_build F_Town_build (hr.mono (by decide)) b_Town_build .nil passF (pa_cons pe_int (pa_cons (pe_op op_sub (pv 1) pe_int) pa_nil))) (pe_op op_add (pv 3) pe_int) (nomark _)))))))))), ?_⟩
    have mth : ∀ {H2 : Hp} {rows2 : List TRow} {n2 : Nat}, TownAt (gA K "Town") H2 p d m rows2 n2 → ∃ dx, H2 p = some (.ins (gA K "Town") dx (tF m d n2)) := fun z => z.ob
    refine ⟨fun mu σ H' => ∃ (rows : List TRow) (n : Nat), σ = [some (.ref p), some (.int (m : Int)), none, none] ∧ TownAt (gA K "Town") H' p d m rows n ∧ LamX.Tabs T_ H' ∧ (rows.length = 60 → ∃ init, rows = init ++ [(n - 1, 0, m - 1)] ∧ 1 ≤ n) ∧ mu = 60 - rows.length, ⟨_, rows, n, rfl, W, tabs, fun z => by omega, rfl⟩, ?_⟩
    rintro mu σ H1 ⟨rows1, n1, rfl, W1, tabs1, lastOk, rfl⟩
    obtain ⟨dx1, hp1⟩ := W1.ob
    have no : ∀ {n2 : Nat}, (tF m d n2).lookup ("build" : Str) = none ∧ (tF m d n2).lookup ("dig" : Str) = none ∧ (tF m d n2).lookup ("streets" : Str) = none := fun {n2} => ⟨tF_no _ _ _ (by decide +kernel) (by decide +kernel) (by decide +kernel), tF_no _ _ _ (by decide +kernel) (by decide +kernel) (by decide +kernel), tF_no _ _ _ (by decide +kernel) (by decide +kernel) (by decide +kernel)⟩
    -- len(streets()) < 60
    refine ⟨_, rfl, p, dx1, _, rfl, hp1, no.2.2, p, d, m, rows1, n1, rfl, W1, fun l H2 hl sm tl => ?_⟩
    have W2 := W1.same sm
    obtain ⟨vs, el, tv⟩ := tl
    have lvs : vs.length = rows1.length := by
      rw [tups_len tv, List.length_map]
    refine ⟨l, vs, rfl, .inl (SqL.of el), _, _, rfl, rfl, _, rfl, if_both (fun c => ?_) (fun c => ?_)⟩
    · -- a street more
      have lt := of_decide_eq_true c
      obtain ⟨dx2, hp2⟩ := W2.ob
      refine ⟨fun σ' H' => ∃ rows n, σ' = [some (.ref p), some (.int (m : Int)), none, none] ∧ TownAt (gA K "Town") H' p d m rows n ∧ LamX.Tabs T_ H' ∧ (rows.length = 60 → ∃ init, rows = init ++ [(n - 1, 0, m - 1)] ∧ 1 ≤ n) ∧ rows.length = rows1.length + 1, fun σ' H' ⟨rows, n, e1, e2, e3, e4, e5⟩ => ⟨60 - rows.length, by omega, rows, n, e1, e2, e3, e4, rfl⟩, ?_⟩
      refine ⟨_, rfl, p, dx2, _, rfl, hp2, no.1, _, rfl, _, _, rfl, rfl, p, d, m, rows1, n1, _, _, rfl, W2, ⟨"int", rfl⟩, ⟨"int", rfl⟩, fun z => ?_, fun a b _ _ _ _ _ z => ?_, fun a b ea eb ha hb ne _ H3 W3 kp => ?_⟩
      · rcases z with z | z | z
        · rw [isW_true (by omega) (by omega)] at z
          cases z
        · rw [isW_true (by omega) (by omega)] at z
          cases z
        · have := V.int.inj z
          omega
      · omega
      · have ea' : a = 0 := by have := V.int.inj ea; omega
        have eb' : b = m - 1 := by have := V.int.inj eb; omega
        subst ea' eb'
        exact ⟨_, _, rfl, W3, tabs_keeps W2 kp (tabs1.ext sm), fun _ => ⟨rows1, rfl, by omega⟩, by rw [List.length_append]; rfl⟩
    · -- full
      have full : rows1.length = 60 := by
        have z := of_decide_eq_false c
        have := W1.ok.few
        omega
      obtain ⟨init, erows, n1pos⟩ := lastOk full
      obtain ⟨dx2, hp2⟩ := W2.ob
      refine ⟨_, rfl, p, dx2, _, rfl, hp2, no.2.2, p, d, m, rows1, n1, rfl, W2, fun kl H3 hkl sm3 tl3 => ?_⟩
      have W3 := W2.same sm3
      have tabs3 := (tabs1.ext sm).ext sm3
      -- the sixty-first
      refine ⟨tabs3, fun H4 ext4 tabs4 E' Q' hE hQ => ?_⟩
      have W4 := W3.ext ext4
      obtain ⟨dx4, hp4⟩ := W4.ob
      refine ⟨_, rfl, p, dx4, _, rfl, hp4, no.1, _, rfl, _, _, rfl, rfl, p, d, m, rows1, n1, _, _, rfl, W4, ⟨"int", rfl⟩, ⟨"int", rfl⟩, fun z => ?_, fun a b _ _ _ _ _ _ => ?_, fun a b _ _ _ _ _ z => ?_⟩
      · rcases z with z | z | z
        · rw [isW_true (by omega) (by omega)] at z
          cases z
        · rw [isW_true (by omega) (by omega)] at z
          cases z
        · have := V.int.inj z
          omega
      · refine hE H4 "TooMany" (by decide +kernel) fun wl H5 hwl sm5 ewl => neq_word (by decide +kernel) word_many ewl fun H6 sm6 => ⟨_, rfl, ?_⟩
        have W6 := W4.same (sm5.trans sm6)
        have tabs6 := tabs4.ext (sm5.trans sm6)
        have tl6 := tl_same (tl_ext tl3 ext4) (sm5.trans sm6)
        -- a place twice, and the streets as they were
        refine ⟨tabs6, fun H7 ext7 tabs7 E' Q' hE hQ => ?_⟩
        have W7 := W6.ext ext7
        have tl7 := tl_ext tl6 ext7
        obtain ⟨dx7, hp7⟩ := W7.ob
        refine ⟨_, rfl, p, dx7, _, rfl, hp7, no.1, p, d, m, rows1, n1, _, _, rfl, W7, ⟨"int", rfl⟩, ⟨"int", rfl⟩, fun _ => ?_, fun a b ea eb _ _ ne _ => ?_, fun a b ea eb _ _ ne _ => ?_⟩
        · refine hE H7 "BadPlace" (by decide +kernel) fun wl2 H8 hwl2 sm8 ewl2 => neq_word (by decide +kernel) word_place ewl2 fun H9 sm9 => ⟨_, rfl, ?_⟩
          have W9 := W7.same (sm8.trans sm9)
          have tl9 := tl_same tl7 (sm8.trans sm9)
          obtain ⟨dx9, hp9⟩ := W9.ob
          refine ⟨_, rfl, p, dx9, _, rfl, hp9, no.2.2, p, d, m, rows1, n1, rfl, W9, fun sl H10 hsl sm10 tl10 => ?_⟩
          have tlk := tl_same tl9 sm10
          have W10 := W9.same sm10
          refine ⟨_, rfl, _, _, dp_town tl10, dp_town tlk, (lay_rows rows1).shaped (by decide), (lay_rows rows1).shaped (by decide), ?_⟩
          rw [(lay_rows rows1).eqv]
          refine ⟨_, rfl, ?_⟩
          -- the last one goes, the next number comes
          obtain ⟨vk, ek, tk⟩ := tlk
          have rowsL : rows1[rows1.length - 1]? = some (n1 - 1, 0, m - 1) := by
            rw [erows, List.length_append]
            simp
          have lvk : vk.length = rows1.length := by rw [tups_len tk, List.length_map]
          obtain ⟨vlast, evl⟩ : ∃ v, vk[rows1.length - 1]? = some v := ⟨_, List.getElem?_eq_getElem (by omega)⟩
          obtain ⟨t, xs, rfl, hxs, ht⟩ := tups_get tk evl
          rw [List.getElem?_map, rowsL] at hxs
          cases hxs
          have atL : atI vk (-1) = some (V.ref t) := by
            refine at_end ?_
            rw [lvk]
            exact evl
          refine ⟨_, rfl, _, rfl, kl, vk, _, _, rfl, rfl, SqL.of ek, atL, t, _, _, _, rfl, rfl, SqT.of ht, atI_nat (j := 0) rfl, ?_⟩
          obtain ⟨dx10, hp10⟩ := W10.ob
          refine ⟨_, rfl, p, dx10, _, rfl, hp10, no.2.1, _, rfl, p, d, m, rows1, n1, _, rfl, W10, ⟨"int", rfl⟩, fun z => (z ⟨n1 - 1, rfl, ?_⟩).elim, fun s es hs H11 W11 kp11 => ?_⟩
          · rw [erows, List.map_append]
            exact List.mem_append_right _ (List.mem_singleton.mpr rfl)
          · obtain ⟨dx11, hp11⟩ := W11.ob
            have fewer : (rows1.filter fun r => decide (r.1 ≠ s)).length < 60 := by
              have es' : s = n1 - 1 := (Int.ofNat.inj (V.int.inj es)).symm
              rw [erows, List.filter_append, es']
              have z : init.length + 1 = 60 := by
                have z := full
                rw [erows, List.length_append] at z
                exact z
              have z2 := List.length_filter_le (fun r : TRow => decide (r.1 ≠ n1 - 1)) init
              have z3 : ([(n1 - 1, 0, m - 1)].filter (fun r : TRow => decide (r.1 ≠ n1 - 1))).length = 0 := by simp
              rw [List.length_append, z3]
              omega
            refine ⟨_, rfl, p, dx11, _, rfl, hp11, no.1, _, rfl, _, _, rfl, rfl, p, d, m, _, n1, _, _, rfl, W11, ⟨"int", rfl⟩, ⟨"int", rfl⟩, fun z => ?_, fun a b _ _ _ _ _ z => ?_, fun a b _ _ _ _ _ _ H12 _ _ => ?_⟩
            · rcases z with z | z | z
              · rw [isW_true (by omega) (by omega)] at z
                cases z
              · rw [isW_true (by omega) (by omega)] at z
                cases z
              · have := V.int.inj z
                omega
            · omega
            · refine ⟨_, rfl, _, _, rfl, rfl, rfl, ?_⟩
              have e : (V.int (n1 : Int)) = V.int (((n1 - 1 : Nat) : Int) + 1) := congrArg V.int (by omega)
              rw [show decide (V.int (n1 : Int) = V.int (((n1 - 1 : Nat) : Int) + 1)) = true from decide_eq_true e]
              exact k H12
        · have := V.int.inj ea
          have := V.int.inj eb
          omega
        · have := V.int.inj ea
          have := V.int.inj eb
          omega
      · omega
end
end K09

set_option Elab.async false
set_option linter.all false
set_option maxRecDepth 100000
set_option maxHeartbeats 4000000
namespace K09
open PySem PySem.Spec PyProof.Rows L2 Own
/-! ### Parted -/
abbrev s_Parted_init : Stmt := inClass (top 6) 0
theorem sup_Parted : SupS (defScope s_Parted_init) := ⟨rfl, rfl, rfl, ⟨rfl, rfl, rfl⟩, rfl, rfl, by decide +kernel, by decide +kernel, fun z => by rcases z with z | z | z <;> exact absurd z (by decide)⟩
/-- Parted(between, apart), made: its lists are told anew -/
def spParted (C : Addr) : Sp := fun vs H Q _ => ∃ (a p q : Addr) (xs rs : List V) (yss : List (List V)), vs = [.ref a, .ref p, .ref q] ∧ H a = some (exo a C none) ∧ H p = some (.lst xs) ∧ H q = some (.lst rs) ∧ Lsts H rs yss ∧ rs.length ≤ sizeLine ∧
  ∀ (b c d : Addr) (zs : List V) (H' : Hp), H b = none → H c = none → H d = none → H' a = some (exo a C (some d)) → H' d = some (exd d [("apart", .ref c), ("between", .ref b)]) → H' b = some (.lst xs) → H' c = some (.lst zs) → NewL H H' c zs yss → b ≠ c →
    (∀ x o, x ≠ a → H x = some o → H' x = some o) → Q .non H'
theorem exo_lst {e C : Addr} {d : Option Addr} {xs : List V} : exo e C d ≠ .lst xs := fun z => by
  have z' : HO.ext _ = HO.lst xs := z
  cases z'
section
variable {P : Program} {w : World} {K : PySem.W.Frag} {mg : Str → Option Value} {base : Heap} {C fI cda cc : Addr} {fd : FuncData}
theorem ok_Parted (D : SupC K mg P C fI cda cc (defArgs s_Parted_init) (defBody s_Parted_init) (defScope s_Parted_init) fd) (fl : mg "list" = none) (nb : PySem.W.findIn K (.ref C) "between" = some none) (na : PySem.W.findIn K (.ref C) "apart" = some none) :
    FnOk P w K mg base (L2.CX P w) 1 fI fd ["self", "between", "apart"] (spParted C) := by
  refine ⟨fun vs H Q E h => ?_, fun A outer s H args us vs Q E hr e0 hb r h => ?_⟩
  · obtain ⟨a, p, q, xs, rs, yss, rfl, _⟩ := h
    rfl
  · obtain ⟨a, p, q, xs, rs, yss, rfl, ea, ep, eq, L, few, k⟩ := h
    obtain ⟨u0, us1, rfl, ra, r1⟩ : ∃ u0 ur, us = u0 :: ur ∧ RelV (.ref a) u0 ∧ Vals [.ref p, .ref q] ur := by
      cases r with
      | cons q0 q1 => exact ⟨_, _, rfl, q0, q1⟩
    obtain ⟨u1, us2, rfl, rp, r2⟩ : ∃ u0 ur, us1 = u0 :: ur ∧ RelV (.ref p) u0 ∧ Vals [.ref q] ur := by
      cases r1 with
      | cons q0 q1 => exact ⟨_, _, rfl, q0, q1⟩
    obtain ⟨u2, rfl, rq⟩ : ∃ u0, us2 = [u0] ∧ RelV (.ref q) u0 := by
      cases r2 with
      | cons q0 q1 =>
        cases q1
        exact ⟨_, rfl, q0⟩
    cases ra
    have nd : supN.Nodup := by decide
    refine sup_run (k := 0) sup_Parted D rfl (fun _ => rfl) hr e0 hb rp rq ea ?_
    refine ⟨_, (pss_cons (ps_ost (pv 0) (pe_callTy call_list_of rfl fl (by decide +kernel) (pa_cons (pv 1) pa_nil)))
      (pss_one (ps_ost (pv 0) (pe_lc (own := [("part", 3)]) (g := (gName 3)) (te := tCB (fun xs H Q => ∃ (p : Addr) (ys : List V), xs = [V.ref p] ∧ (SqL K H p ys ∨ SqT K H p ys) ∧ ∀ l, H l = none → Q (.ref l) (upd H l (.lst ys))) (tCons (tVar 3) tNil)) rfl nd (pi_list (pv 2)) (blkOk_by (own := [("part", 3)]) (N := supN) (sc := defScope s_Parted_init) (by decide +kernel)) (fun _ _ _ _ _ => (pg_name (i := 3) nd rfl (Or.inl rfl))) (fun _ _ _ _ _ => pts_nil) (fun _ _ _ _ _ => (pe_callTy call_list_of rfl fl (by decide +kernel) (pa_cons (pv 3) pa_nil))))))), ?_⟩
    refine ⟨_, rfl, p, xs, rfl, .inl (SqL.of ep), fun b hb0 => ⟨_, rfl, a, C, rfl, D.oex, nb, .inl ⟨by rw [upd_ne (ne_of_none ea hb0)]; exact ea, fun d hd nda => ?_⟩⟩⟩
    obtain ⟨ndb, hd0⟩ := upd_none hd
    have nba : b ≠ a := fun z => by
      rw [z, ea] at hb0
      cases hb0
    have nqa : q ≠ a := at_ne ea eq exo_lst
    have e1a : upd (upd (upd H b (.lst xs)) d (exd d [(("between" : Str), V.ref b)])) a (exo a C (some d)) a = some (exo a C (some d)) := upd_same
    have e1d : upd (upd (upd H b (.lst xs)) d (exd d [(("between" : Str), V.ref b)])) a (exo a C (some d)) d = some (exd d [("between", V.ref b)]) := by rw [upd_ne nda, upd_same]
    have e1b : upd (upd (upd H b (.lst xs)) d (exd d [(("between" : Str), V.ref b)])) a (exo a C (some d)) b = some (.lst xs) := by rw [upd_ne nba, upd_ne ndb.symm, upd_same]
    have old : ∀ x o, x ≠ a → H x = some o → upd (upd (upd H b (.lst xs)) d (exd d [(("between" : Str), V.ref b)])) a (exo a C (some d)) x = some o := fun x o nx e => by
      rw [upd_ne nx, upd_ne (ne_of_none e hd0), upd_ne (ne_of_none e hb0)]
      exact e
    generalize upd (upd (upd H b (.lst xs)) d (exd d [(("between" : Str), V.ref b)])) a (exo a C (some d)) = H1 at *
    have L1 : Lsts H1 rs yss := lsts_ext (fun t ys e => old t _ (at_ne ea e exo_lst) e) L
    refine ⟨_, rfl, q, rfl, ⟨rs, SqL.of (old _ _ nqa eq)⟩, fun D0 hD => ?_⟩
    refine lc_it walk_list (fun i H' => ∃ zs, H' D0 = some (.lst zs) ∧ NewL H H' D0 zs (yss.take i) ∧ zs.length = i ∧ Same H1 H') ⟨[], upd_same, .nil, rfl, same_new hD⟩ (fun i H' _ ⟨_, _, _, _, sm⟩ => SqL.of (sm _ _ (old _ _ nqa eq))) ?_ ?_
    · rintro i x H2 H3 hi ⟨zs, g1, g2, g3, sm⟩ ⟨rfl, hx⟩
      obtain ⟨t, ys, hx1, hy, ht⟩ := lsts_get L1 hi
      rw [hx] at hx1
      cases hx1
      refine ⟨rfl, _, rfl, t, ys, rfl, .inl (SqL.of (sm _ _ ht)), fun l hl => ?_⟩
      have nlD : D0 ≠ l := ne_of_none g1 hl
      refine ⟨zs, by rw [upd_ne nlD]; exact g1, by omega, zs ++ [V.ref l], upd_same, ?_, by rw [List.length_append]; show zs.length + 1 = i + 1; omega, fun b o e => ?_⟩
      · rw [take_snoc hy]
        refine newL_snoc nlD.symm ?_ (by rw [upd_ne nlD.symm]; exact upd_same) (newL_ext (fun b ws nb _ e => ?_) g2)
        · cases z : H l with
          | none => rfl
          | some o =>
            have y := sm l
            by_cases la : l = a
            · rw [la] at hl
              rw [sm _ _ e1a] at hl
              cases hl
            · rw [sm _ _ (old _ _ la z)] at hl
              cases hl
        rw [upd_ne nb, upd_ne (ne_of_none e hl)]
        exact e
      · have nb : b ≠ D0 := ne_of_none e hD
        rw [upd_ne nb, upd_ne (ne_of_none (sm _ _ e) hl)]
        exact sm _ _ e
    · rintro H2 ⟨zs, g1, g2, g3, sm⟩
      rw [Paired.length L, List.take_length] at g2
      refine ⟨_, rfl, a, C, rfl, D.oex, na, .inr ⟨d, _, sm _ _ e1a, sm _ _ e1d, (by show 1 ≤ 900; decide), ?_⟩⟩
      have g1a := sm _ _ e1a
      have g1d := sm _ _ e1d
      have g1b := sm _ _ e1b
      have hD0 : H D0 = none := by
        cases z : H D0 with
        | none => rfl
        | some o =>
          rw [old _ _ (fun y => by rw [y, e1a] at hD; cases hD) z] at hD
          cases hD
      refine k b D0 d zs _ hb0 hD0 hd0 (by rw [upd_ne nda.symm]; exact g1a) upd_same (by rw [upd_ne ndb.symm]; exact g1b) (by rw [upd_ne (fun y => by rw [y, g1d] at g1; cases g1)]; exact g1)
        (newL_ext (fun t ys _ _ e => by rw [upd_ne (fun y => by rw [y, g1d] at e; cases e)]; exact e) g2) (fun y => by rw [← y, e1b] at hD; cases hD) (fun x o nx e => by
          rw [upd_ne (ne_of_none e hd0)]
          exact sm _ _ (old x o nx e))
end
end K09

set_option Elab.async false
set_option linter.all false
set_option maxRecDepth 100000
set_option maxHeartbeats 4000000
namespace K09
open PySem PySem.Spec PyProof.Rows L2 Own
/-! ### the law -/
def spLaw (K : PySem.W.Frag) (T : List (Addr × Str)) : Sp := fun vs H Q _ => ∃ (a : Addr) (ns : List Int), vs = [.ref a] ∧ SqL K H a (ns.map V.int) ∧ (∀ z ∈ ns, Fit z) ∧ ns.length ≤ 63 ∧ LamX.Tabs T H ∧ ∀ H', Q (.bl true) H'
abbrev s_law : Stmt := top 27
abbrev N_law : List Str := ["_law_script", "_law_seed_here", "_law_many_here", "_law_odd", "_law_pairs_here", "_law_town", "_law_rows", "_law_gone", "_law_k", "_law_cell", "_law_caught"]
theorem sc_law : FnScope N_law ["_law_script"] (defScope s_law) := ⟨rfl, rfl, rfl, by decide +kernel, rfl, by decide +kernel, by decide +kernel⟩
/-- an error of one's own that is made as a value -/
structure MakE (P : Program) (w : World) (K : PySem.W.Frag) (mg : Str → Option Value) (base : Heap) (k : Nat) (x : Str) (C : Addr) (sp : Sp) : Prop where
  ex : ∃ (f : Addr) (fd : FuncData) (ps : List Str), OexC K C ∧ PySem.W.findIn K (.ref C) "__init__" = some (some (.ref f)) ∧ PySem.W.typeIn K (.ref f) = some (.type "function") ∧ FnOk P w K mg base (L2.CX P w) k f fd ps sp ∧ mg x = some (.ref C) ∧ Binds K fd ps []
theorem lay_rowsN (rows : List TRow) : PyData.eqv (.list (rows.map rowD)) (.list []) = rows.isEmpty := by
  cases rows <;> rfl
theorem drop_row : ∀ {rows : List TRow} {k : Nat} {r : TRow}, rows.Pairwise (fun a b => a.1 < b.1) → rows[k]? = some r → (rows.filter fun q => decide (q.1 ≠ r.1)) = rows.eraseIdx k
  | [], k, r, _, h => by simp at h
  | a :: rows, 0, r, hp, h => by
    simp at h
    subst h
    rw [List.pairwise_cons] at hp
    simp only [List.filter_cons, ne_eq, not_true_eq_false, decide_false, List.eraseIdx_zero, List.tail_cons]
    rw [if_neg Bool.false_ne_true]
    refine List.filter_eq_self.mpr fun q hq => ?_
    have := hp.1 q hq
    exact decide_eq_true (by omega)
  | a :: rows, k + 1, r, hp, h => by
    rw [List.pairwise_cons] at hp
    have hr : r ∈ rows := List.mem_of_getElem? (by simpa using h)
    have lt := hp.1 r hr
    have ih := drop_row (k := k) hp.2 (by simpa using h)
    rw [List.filter_cons, if_pos (decide_eq_true (by omega)), ih, List.eraseIdx_cons_succ]
theorem tups_erase {H : Hp} : ∀ {vs : List V} {xss : List (List V)} (k : Nat), Tups H vs xss → Tups H (vs.eraseIdx k) (xss.eraseIdx k)
  | _, _, _, .nil => .nil
  | _, _, 0, .cons _ r => r
  | _, _, k + 1, .cons q r => .cons q (tups_erase k r)
theorem town_over {C : Addr} {H : Hp} {p d l : Addr} {m : Nat} {rows : List TRow} {n : Nat} {xs : List V} {o : HO} (T : TownAt C H p d m rows n) (h : H l = some (.lst xs)) : TownAt C (upd H l o) p d m rows n := by
  obtain ⟨dx, h1⟩ := T.ob
  obtain ⟨kvs, h2, h3⟩ := T.dc
  refine ⟨⟨dx, by rw [upd_ne (ne_of h1 h (by intro z; cases z))]; exact h1⟩, ⟨kvs, by rw [upd_ne (ne_of h2 h (by intro z; cases z))]; exact h2, ents_ext (fun t ys e => ?_) h3⟩, T.ok, T.pm⟩
  rw [upd_ne (ne_of e h (by intro z; cases z))]
  exact e
theorem erase_map {α β : Type} (f : α → β) : ∀ (xs : List α) (k : Nat), (xs.map f).eraseIdx k = (xs.eraseIdx k).map f
  | [], _ => rfl
  | _ :: _, 0 => rfl
  | x :: xs, k + 1 => congrArg (f x :: ·) (erase_map f xs k)
theorem idx_nat {j n : Nat} (h : j < n) : seqIndex? (j : Int) n = some j := by
  have h1 : ¬ ((j : Int) < 0) := by omega
  have h2 : (0 ≤ (j : Int) && (j : Int) < (n : Int)) = true := by
    rw [decide_eq_true (by omega : 0 ≤ (j : Int)), decide_eq_true (by omega : (j : Int) < n)]
    rfl
  unfold seqIndex?
  simp only [if_neg h1]
  rw [if_pos h2]
  rfl
section
variable {P : Program} {w : World} {K : PySem.W.Frag} {mg : Str → Option Value} {base : Heap} {f : Addr} {fd : FuncData}
theorem ok_law {T_ : List (Addr × Str)} {fdw : FuncData} (T : TxtL mg) (TW : TxtW K mg) (D : FnP K "law" "law" s_law (He.fAd K ("law", none)) fd) (Dw : FnP K "_law_word" "_law_word" s_law_word (gA K "_law_word") fdw) (mw : mg "_law_word" = some (.ref (gA K "_law_word")))
    (TB : LamX.TabB base mg (He.cT K ("law", none)).1 (He.cT K ("law", none)).2) (hmT : ((He.cT K ("law", none)).2, ("law.<locals>." : Str) ++ "<lambda>") ∈ T_) (hu : ∀ q ∈ T_, q.1 = (He.cT K ("law", none)).2 → q.2 = ("law.<locals>." : Str) ++ "<lambda>")
    (c_law_mixed : CalX P w K mg base 1 "_law_mixed" spMixed) (c_law_seed : CalX P w K mg base 2 "_law_seed" (spSeed K)) (c_law_many : CalX P w K mg base 2 "_law_many" spMany) (c_law_pairs : CalX P w K mg base 4 "_law_pairs" (spPairs K)) (c_law_made : CalX P w K mg base 4 "_law_made" (spMade (gA K "Town")))
    (c_law_refused : CalX P w K mg base 11 "_law_refused" (spRefused (gA K "Town") T_)) (c_law_full_refused : CalX P w K mg base 11 "_law_full_refused" (spFull (gA K "Town") T_))
    (c_Town : MakX P w K mg base 2 "Town" (gA K "Town") (spInit K (gA K "Town"))) (c_Town_dig : MetX P w K mg base 2 (gA K "Town") "dig" (spDig K (gA K "Town"))) (c_Town_streets : MetX P w K mg base 1 (gA K "Town") "streets" (spStreets (gA K "Town"))) (c_Town_places : MetX P w K mg base 1 (gA K "Town") "places" (spPlaces (gA K "Town")))
    (c_Parted : MakE P w K mg base 1 "Parted" (gA K "Parted") (spParted (gA K "Parted"))) (xf : XfC K (gA K "Parted")) (nb : PySem.W.findIn K (.ref (gA K "Parted")) "between" = some none) (na : PySem.W.findIn K (.ref (gA K "Parted")) "apart" = some none) :
    FnOk P w K mg base (L2.CX P w) 12 (He.fAd K ("law", none)) fd ["_law_script"] (spLaw K T_) := by
  have nd := sc_law.nd
  refine fn_lam D sc_law (fun vs H Q E h => ?_) (fun A outer s H vs Q E hr h => ?_)
  · obtain ⟨a, ns, rfl, _⟩ := h
    rfl
  · obtain ⟨a, ns, rfl, hS, fits, few, tabs, kend⟩ := h
    obtain ⟨f_law_mixed, fd_law_mixed, ps_law_mixed, F_law_mixed, m_law_mixed, k_law_mixed, b_law_mixed⟩ := c_law_mixed.ex
    obtain ⟨f_law_seed, fd_law_seed, ps_law_seed, F_law_seed, m_law_seed, k_law_seed, b_law_seed⟩ := c_law_seed.ex
    obtain ⟨f_law_many, fd_law_many, ps_law_many, F_law_many, m_law_many, k_law_many, b_law_many⟩ := c_law_many.ex
    obtain ⟨f_law_pairs, fd_law_pairs, ps_law_pairs, F_law_pairs, m_law_pairs, k_law_pairs, b_law_pairs⟩ := c_law_pairs.ex
    obtain ⟨f_law_made, fd_law_made, ps_law_made, F_law_made, m_law_made, k_law_made, b_law_made⟩ := c_law_made.ex
    obtain ⟨f_law_refused, fd_law_refused, ps_law_refused, F_law_refused, m_law_refused, k_law_refused, b_law_refused⟩ := c_law_refused.ex
    obtain ⟨f_law_full_refused, fd_law_full_refused, ps_law_full_refused, F_law_full_refused, m_law_full_refused, k_law_full_refused, b_law_full_refused⟩ := c_law_full_refused.ex
    obtain ⟨f_Town, fd_Town, ps_Town, M_Town, F_Town, m_Town, b_Town⟩ := c_Town.ex
    obtain ⟨f_Town_dig, fd_Town_dig, ps_Town_dig, c_Town_dig, M_Town_dig, F_Town_dig, b_Town_dig⟩ := c_Town_dig.ex
    obtain ⟨f_Town_streets, fd_Town_streets, ps_Town_streets, c_Town_streets, M_Town_streets, F_Town_streets, b_Town_streets⟩ := c_Town_streets.ex
    obtain ⟨f_Town_places, fd_Town_places, ps_Town_places, c_Town_places, M_Town_places, F_Town_places, b_Town_places⟩ := c_Town_places.ex
    obtain ⟨f_Parted, fd_Parted, ps_Parted, O_Parted, i_Parted, t_Parted, F_Parted, m_Parted, b_Parted⟩ := c_Parted.ex
    refine ⟨_, (pss_cons (ps_set (i := 1) nd rfl (Or.inl rfl) (pe_call F_law_seed (hr.mono (by decide)) rfl m_law_seed k_law_seed b_law_seed .nil passF (pa_cons (pv 0) pa_nil)))
      (pss_cons (ps_set (i := 2) nd rfl (Or.inl rfl) (pe_call F_law_many (hr.mono (by decide)) rfl m_law_many k_law_many b_law_many .nil passF (pa_cons (pv 1) (pa_cons pe_int pa_nil))))
      (pss_cons (ps_set (i := 3) nd rfl (Or.inr rfl) (pe_ix ix_list (pe_lst (pa_cons pe_int (pa_cons pe_int (pa_cons (pe_un un_neg pe_int) (pa_cons pe_non (pa_cons pe_bl (pa_cons pe_str (pa_cons (pe_lst (pa_cons pe_int pa_nil)) (pa_cons (pe_op op_pow pe_int pe_int) (pa_cons pe_bl (pa_cons (pe_op op_add pe_int (pe_call F_law_mixed (hr.mono (by decide)) rfl m_law_mixed k_law_mixed b_law_mixed .nil passF (pa_cons (pv 1) (pa_cons pe_int pa_nil)))) pa_nil))))))))))) (pe_op op_mod (pe_call F_law_mixed (hr.mono (by decide)) rfl m_law_mixed k_law_mixed b_law_mixed .nil passF (pa_cons (pv 1) (pa_cons pe_int pa_nil))) pe_int) (fun _ _ => rfl)))
      (pss_cons (ps_if (pt_cmpR (op_neD hr.units) (pe_word (k := 8) (t := fun E0 => tMake (gA K "Town") (spInit K (gA K "Town")) [] E0 (tCons (tVar 3) tNil)) TW Dw mw rfl TB rfl hmT hu (hr.mono (by decide)) (LamX.lamS_by (by show LamX.lamSB (defScope s_law) _ = true; decide +kernel)) (by rfl) (fun _ _ _ _ _ => by rfl) (fun A1 outer1 s1 H1 E1 f1 c1 hr1 => pe_make M_Town F_Town (hr1.mono (by decide)) rfl m_Town b_Town .nil (passes_call (takes_of rfl rfl rfl rfl) (fun _ _ _ _ h => h)) (pa_cons (pv 3) pa_nil))) (pe_lst (pa_cons pe_str pa_nil)) (nomark _)) (pss_one (ps_ret pe_bl)) pss_nil)
      (pss_cons (ps_set (i := 4) nd rfl (Or.inl rfl) (pe_call F_law_pairs (hr.mono (by decide)) rfl m_law_pairs k_law_pairs b_law_pairs .nil passF (pa_cons (pv 0) (pa_cons (pv 1) (pa_cons (pv 2) (pa_cons pe_int pa_nil))))))
      (pss_cons (ps_asg (pe_call F_law_made (hr.mono (by decide)) rfl m_law_made k_law_made b_law_made .nil passF (pa_cons (pv 2) (pa_cons (pv 4) (pa_cons (pv 1) pa_nil)))) (pg_tup rfl (pgs_cons (pg_name (i := 5) nd rfl (Or.inl rfl)) (pgs_cons (pg_name (i := 6) nd rfl (Or.inl rfl)) pgs_nil))))
      (pss_cons (ps_set (i := 7) nd rfl (Or.inl rfl) (pe_lst pa_nil))
      (pss_cons (ps_if (pt_cmpR (op_neD hr.units) (pv 6) (pe_lst pa_nil) (nomark _)) (pss_cons (ps_expr (pe_bm PySem.F.plainAttrs_list PySem.F.slot_list_append PySem.F.type_list_append mt_append (pv 7) (pa_cons (pe_ix ix_tup (pe_bm PySem.F.plainAttrs_list PySem.F.slot_list_pop PySem.F.type_list_pop mt_popAt (pv 6) (pa_cons (pe_op op_mod (pe_call F_law_mixed (hr.mono (by decide)) rfl m_law_mixed k_law_mixed b_law_mixed .nil passF (pa_cons (pv 1) (pa_cons pe_int pa_nil))) (pe_callB call_len_seq rfl T.f_len PySem.boot_len (pa_cons (pv 6) pa_nil))) pa_nil)) pe_int (fun _ _ => rfl)) pa_nil)))
      (pss_one (ps_expr (pe_meth (pv 5) c_Town_dig M_Town_dig F_Town_dig (hr.mono (by decide)) b_Town_dig .nil passF (pa_cons (pe_ix ix_list (pv 7) pe_int (fun _ _ => rfl)) pa_nil))))) pss_nil)
      (pss_cons (ps_for (passes_of rfl) rfl (pi_enum rfl T.f_enumerate (pa_cons (pe_op op_catS (pe_lst (pa_cons pe_int pa_nil)) (pv 0)) pa_nil)) (pg_tup rfl (pgs_cons (pg_name (i := 8) nd rfl (Or.inl rfl)) (pgs_cons (pg_name (i := 9) nd rfl (Or.inl rfl)) pgs_nil))) (pss_one (ps_if (pt_not (pt_val (pe_call F_law_refused (hr.mono (by decide)) rfl m_law_refused k_law_refused b_law_refused .nil passF (pa_cons (pv 5) (pa_cons (pv 2) (pa_cons (pv 7) (pa_cons (pe_call F_law_mixed (hr.mono (by decide)) rfl m_law_mixed k_law_mixed b_law_mixed .nil passF (pa_cons (pv 9) (pa_cons (pe_op op_add pe_int (pe_op op_mod (pv 8) pe_int)) pa_nil))) pa_nil))))))) (pss_one (ps_ret pe_bl)) pss_nil)))
      (pss_cons (ps_set (i := 10) nd rfl (Or.inl rfl) (pe_mkO O_Parted i_Parted t_Parted F_Parted (hr.mono (by decide)) b_Parted passF rfl m_Parted (pa_cons (pe_lst (pa_cons pe_int (pa_cons pe_int pa_nil))) (pa_cons (pe_lst (pa_cons (pe_lst (pa_cons pe_int pa_nil)) (pa_cons (pe_lst (pa_cons pe_int pa_nil)) pa_nil))) pa_nil))))
      (pss_cons (ps_if (PW.pt (pw_or (pt_cmpR (op_neD hr.units) (pe_tup (pa_cons (pe_exf (pv 10)) (pa_cons (pe_exf (pv 10)) pa_nil))) (pe_tup (pa_cons (pe_lst (pa_cons pe_int (pa_cons pe_int pa_nil))) (pa_cons (pe_lst (pa_cons (pe_lst (pa_cons pe_int pa_nil)) (pa_cons (pe_lst (pa_cons pe_int pa_nil)) pa_nil))) pa_nil))) (nomark _)) (pw_or (pt_cmpR (op_neD hr.units) (pe_meth0 (pv 5) c_Town_streets M_Town_streets F_Town_streets (hr.mono (by decide)) b_Town_streets .nil passF) (pv 6) (nomark _)) (pw_or1 (pt_cmpR op_ne (pe_meth0 (pv 5) c_Town_places M_Town_places F_Town_places (hr.mono (by decide)) b_Town_places .nil passF) (pv 2) (nomark _)))))) (pss_one (ps_ret pe_bl)) pss_nil)
      (pss_one (ps_ret (pe_or (pe_cmpR op_eq (pv 2) pe_int (nomark _)) (pe_one (pe_call F_law_full_refused (hr.mono (by decide)) rfl m_law_full_refused k_law_full_refused b_law_full_refused .nil passF (pa_cons (pv 5) (pa_cons (pv 2) pa_nil)))))))))))))))))), ?_⟩
    -- seed, many
    refine ⟨_, rfl, a, ns, rfl, hS, fits, fun seed H1 s0 s1 sm1 => ?_⟩
    have fseed : Fit seed := fit_range s0 (by omega)
    refine ⟨_, rfl, seed, 16, rfl, fseed, by decide, fun m H2 m1 m16 sm2 => ?_⟩
    have smA := sm1.trans sm2
    -- odd
    refine ⟨_, rfl, (by show 1 ≤ sizeLine; decide), fun p1 h1 => ?_⟩
    have c1 := same_new (o := .lst [V.int 5]) h1
    refine ⟨_, _, rfl, rfl, ⟨by decide, by decide, by decide⟩, ?_⟩
    refine ⟨_, rfl, seed, 4, rfl, fseed, by decide, by decide, fun r4 r40 r41 => ?_⟩
    refine ⟨_, _, rfl, rfl, (by show 10 ≤ sizeLine; decide), fun L hL => ?_⟩
    have cL := same_new (o := .lst [V.int 0, V.int 17, V.int (-1), V.non, V.bl true, V.str "5", V.ref p1, V.int (10 ^ Int.toNat 20), V.bl false, V.int (17 + r4)]) hL
    refine ⟨_, rfl, seed, 3, rfl, fseed, by decide, by decide, fun r3 r30 r31 => ?_⟩
    have z3 := emod_lt (i := r3) (m := 10) (by decide)
    obtain ⟨v, hv, hin⟩ := at_lt (xs := [V.int 0, V.int 17, V.int (-1), V.non, V.bl true, V.str "5", V.ref p1, V.int (10 ^ Int.toNat 20), V.bl false, V.int (17 + r4)]) z3.1 z3.2
    refine ⟨_, _, rfl, rfl, (by show (0 : Int) < 10; decide), L, _, _, v, rfl, rfl, SqL.of upd_same, hv, ?_⟩
    have a1 := cL _ _ (upd_same (H := H2) (a := p1) (o := .lst [V.int 5]))
    have smB := (smA.trans c1).trans cL
    have ty : ∃ n, tyName v (upd (upd H2 p1 (.lst [V.int 5])) L (.lst [V.int 0, V.int 17, V.int (-1), V.non, V.bl true, V.str "5", V.ref p1, V.int (10 ^ Int.toNat 20), V.bl false, V.int (17 + r4)])) = some n := by
      simp only [List.mem_cons, List.not_mem_nil, or_false] at hin
      rcases hin with h | h | h | h | h | h | h | h | h | h <;> rw [h]
      · exact ⟨_, rfl⟩
      · exact ⟨_, rfl⟩
      · exact ⟨_, rfl⟩
      · exact ⟨_, rfl⟩
      · exact ⟨_, rfl⟩
      · exact ⟨_, rfl⟩
      · exact ⟨"list", by simp only [tyName, a1]⟩
      · exact ⟨_, rfl⟩
      · exact ⟨_, rfl⟩
      · exact ⟨_, rfl⟩
    have nw : isW v 1 16 = false := by
      have far : ∀ i : Int, 16 < i → isW (.int i) 1 16 = false := fun i hi => by
        show (decide (1 ≤ i) && decide (i ≤ 16)) = false
        rw [decide_eq_false (show ¬ i ≤ 16 by omega), Bool.and_false]
      simp only [List.mem_cons, List.not_mem_nil, or_false] at hin
      rcases hin with h | h | h | h | h | h | h | h | h | h <;> rw [h]
      · rfl
      · rfl
      · rfl
      · rfl
      · rfl
      · rfl
      · rfl
      · have e : (10 : Int) ^ Int.toNat 20 = 100000000000000000000 := by decide +kernel
        rw [e]
        exact far _ (by omega)
      · rfl
      · exact far _ (by omega)
    clear hin hv a1
    generalize upd (upd H2 p1 (.lst [V.int 5])) L (.lst [V.int 0, V.int 17, V.int (-1), V.non, V.bl true, V.str "5", V.ref p1, V.int (10 ^ Int.toNat 20), V.bl false, V.int (17 + r4)]) = H3 at *
    have tabs3 := tabs.ext smB
    have hS3 := smB.seq hS
    -- Town(odd) is refused
    refine ⟨tabs3, fun H4 ext4 tabs4 E' Q' hE hQ => ?_⟩
    refine ⟨_, rfl, fun tp tdx htp htd ne => ⟨tp, tdx, v, rfl, upd_same, ?_, fun _ => ?_, fun mm em _ _ => ?_⟩⟩
    · exact ty_ext (LamX.ExtN.of fun b o e => by
        rw [upd_ne (ne_of_none e htp), upd_ne (ne_of_none e htd)]
        exact e) (ty_ext ext4 ty)
    · have sm4 : Same H4 (upd (upd H4 tdx (.own tp)) tp (.ins (gA K "Town") tdx [])) := fun b o e => by
        rw [upd_ne (ne_of_none e htp), upd_ne (ne_of_none e htd)]
        exact e
      refine hE _ "BadCount" (by decide +kernel) fun wl H5 hwl sm5 ewl => neq_word (by decide +kernel) word_count ewl fun H6 sm6 => ⟨_, rfl, ?_⟩
      have extC : LamX.ExtN H H6 := (LamX.ExtN.of smB).trans (ext4.trans (LamX.ExtN.of ((sm4.trans sm5).trans sm6)))
      have tabs6 := tabs4.ext ((sm4.trans sm5).trans sm6)
      have hS6 := sql_ext hS extC
      clear hE hQ hwl ewl sm4 sm5 sm6 hS3 tabs3 tabs4 ext4 ty nw htp htd ne c1 cL h1 hL sm1 sm2 smA smB
      -- pairs
      refine ⟨_, rfl, _, rfl, _, rfl, a, ns, seed, m, 50, rfl, hS6, fits, fseed, m1, m16, few, by decide, fun pl H7 ps hpl sm7 tlp okp lenp _ => ?_⟩
      -- town, rows
      refine ⟨_, rfl, _, rfl, _, rfl, m, pl, seed, ps, rfl, m1, m16, tlp, okp, by omega, fseed, fun q p d l H8 rows n hq hp hd hl sm8 eq W tl er en _ => ?_⟩
      refine ⟨q, _, rfl, SqT.of eq, rfl, _, _, rfl, _, _, rfl, rfl, ?_⟩
      have lrows : rows.length ≤ 50 := by
        have z := congrArg List.length er
        rw [List.length_map] at z
        omega
      have n100 : n ≤ 100 := by omega
      have hS7 := sm7.seq hS6
      have tabs7 := tabs6.ext sm7
      clear hq eq er en tlp okp lenp hpl sm7 hS6 tabs6 extC
      -- gone
      refine ⟨(by show 0 ≤ sizeLine; decide), fun g hg => ?_⟩
      have hg7 : H7 g = none := sm8.free hg
      have c9 := same_new (o := .lst []) hg
      have gl : upd H8 g (.lst []) g = some (.lst []) := upd_same
      generalize upd H8 g (.lst []) = H9 at *
      have W9 := W.same c9
      have tl9 := tl_same tl c9
      have sm9 := sm8.trans c9
      have ngl : l ≠ g := fun z => by
        obtain ⟨vs, e, _⟩ := tl
        rw [z, hg] at e
        cases e
      clear W tl c9 hg sm8
      -- rows != []
      refine ⟨_, rfl, (by show 0 ≤ sizeLine; decide), fun e1 he1 => ?_⟩
      have c10 := same_new (o := .lst []) he1
      have el : upd H9 e1 (.lst []) e1 = some (.lst []) := upd_same
      generalize upd H9 e1 (.lst []) = H10 at *
      refine ⟨_, _, dp_town (tl_same tl9 c10), .lst (SqL.of el) .nil, (lay_rows rows).shaped (by decide), by decide, ?_⟩
      rw [lay_rowsN]
      have g10 := c10 _ _ gl
      have W10 := W9.same c10
      have tl10 := tl_same tl9 c10
      have sm10 := sm9.trans c10
      clear W9 tl9 sm9 c10 he1 gl el
      refine (fun (rest : ∀ (H11 : Hp) (rows : List TRow) (gone : List Nat), TownAt (gA K "Town") H11 p d m rows n → TL H11 l (rows.map rowV) → H11 g = some (.lst (gone.map fun (s : Nat) => V.int (s : Int))) → gone.length ≤ 1 → (∀ s ∈ gone, s ∉ rows.map (·.1)) → rows.length ≤ 50 → Same H7 H11 → (_ : Hp → Prop) H11) => ⟨_, rfl, if_both (fun c => ?pop) (fun _ => rest H10 rows [] W10 tl10 g10 (Nat.zero_le _) (fun _ z => nomatch z) lrows sm10)⟩) ?rest
      case pop =>
        have rne : rows ≠ [] := by
          intro z
          rw [z] at c
          cases c
        obtain ⟨vs, elv, tv⟩ := tl10
        have lvs : vs.length = rows.length := by rw [tups_len tv, List.length_map]
        have rpos : 0 < rows.length := List.length_pos_iff.mpr rne
        refine ⟨_, rfl, .inl ⟨rfl, _, SqL.of g10⟩, ?_⟩
        refine ⟨_, rfl, .inl ⟨rfl, _, SqL.of elv⟩, ?_⟩
        refine ⟨_, rfl, seed, 5, rfl, fseed, by decide, by decide, fun r5 r50 r51 => ?_⟩
        have z5 := emod_lt (i := r5) (m := (vs.length : Int)) (by omega)
        obtain ⟨j, hj⟩ : ∃ j : Nat, r5 % (vs.length : Int) = (j : Int) := ⟨_, (Int.toNat_of_nonneg z5.1).symm⟩
        have jlt : j < rows.length := by omega
        obtain ⟨r, hr⟩ : ∃ r, rows[j]? = some r := ⟨_, List.getElem?_eq_getElem jlt⟩
        obtain ⟨y, hy⟩ : ∃ y, vs[j]? = some y := ⟨_, List.getElem?_eq_getElem (by omega)⟩
        obtain ⟨t, xs, rfl, hxs, ht⟩ := tups_get tv hy
        rw [List.getElem?_map, hr] at hxs
        cases hxs
        refine ⟨_, rfl, l, vs, rfl, .inl (SqL.of elv), _, _, rfl, rfl, (by omega), ?_⟩
        refine ⟨l, vs, _, j, _, rfl, rfl, elv, by omega, by omega, by rw [hj]; exact idx_nat (by omega), hy, ?_⟩
        have ntl : t ≠ l := ne_of ht elv (by intro z; cases z)
        refine ⟨t, _, _, _, rfl, rfl, SqT.of (by rw [upd_ne ntl]; exact ht), atI_nat (j := 0) rfl, ?_⟩
        refine ⟨g, _, _, rfl, rfl, (by rw [upd_ne ngl.symm]; exact g10), (by show 0 < sizeLine; decide), ?_⟩
        have W11 : TownAt (gA K "Town") (upd (upd H10 l (.lst (vs.eraseIdx j))) g (.lst ([] ++ [V.int (r.1 : Int)]))) p d m rows n := town_over (town_over W10 elv) (l := g) (xs := []) (by rw [upd_ne ngl.symm]; exact g10)
        obtain ⟨dx, hpo⟩ := W11.ob
        refine ⟨_, rfl, p, dx, _, rfl, hpo, tF_no _ _ _ (by decide +kernel) (by decide +kernel) (by decide +kernel), _, rfl, g, _, _, _, rfl, rfl, SqL.of upd_same, atI_nat (j := 0) rfl, ?_⟩
        have l11 : upd (upd H10 l (.lst (vs.eraseIdx j))) g (.lst ([] ++ [V.int (r.1 : Int)])) l = some (.lst (vs.eraseIdx j)) := by rw [upd_ne ngl, upd_same]
        have g11 : upd (upd H10 l (.lst (vs.eraseIdx j))) g (.lst ([] ++ [V.int (r.1 : Int)])) g = some (.lst ([] ++ [V.int (r.1 : Int)])) := upd_same
        have keep : ∀ b o, b ≠ l → b ≠ g → H10 b = some o → upd (upd H10 l (.lst (vs.eraseIdx j))) g (.lst ([] ++ [V.int (r.1 : Int)])) b = some o := fun b o n1 n2 e => by
          rw [upd_ne n2, upd_ne n1]
          exact e
        generalize upd (upd H10 l (.lst (vs.eraseIdx j))) g (.lst ([] ++ [V.int (r.1 : Int)])) = H11 at *
        refine ⟨p, d, m, rows, n, _, rfl, W11, ⟨"int", rfl⟩, fun z => (z ⟨r.1, rfl, List.mem_map.mpr ⟨r, List.mem_of_getElem? hr, rfl⟩⟩).elim, fun s es hs H12 W12 kp => ?_⟩
        have es' : s = r.1 := (Int.ofNat.inj (V.int.inj es)).symm
        subst es'
        have edrop := drop_row W10.ok.rise hr
        have gn : ∀ s ∈ [r.1], s ∉ (rows.eraseIdx j).map (·.1) := fun s hs z => by
          rw [List.mem_singleton] at hs
          rw [← edrop, hs] at z
          obtain ⟨q, hq, e⟩ := List.mem_map.mp z
          have := (List.mem_filter.mp hq).2
          exact of_decide_eq_true this e
        rw [edrop] at W12
        obtain ⟨kvs, hdo, _⟩ := W11.dc
        refine rest H12 (rows.eraseIdx j) [r.1] W12 ⟨vs.eraseIdx j, kp l _ l11 (ne_of l11 hpo (by intro z; cases z)) (ne_of l11 hdo (by intro z; cases z)), ?_⟩ (kp g _ g11 (ne_of g11 hpo (by intro z; cases z)) (ne_of g11 hdo (by intro z; cases z))) (Nat.le_refl _) gn ?_ ?_
        · rw [← erase_map]
          refine tups_ext (fun b ys e => ?_) (tups_erase j tv)
          have e2 := keep b _ (ne_of e elv (by intro z; cases z)) (ne_of e g10 (by intro z; cases z)) e
          exact kp b _ e2 (ne_of e2 hpo (by intro z; cases z)) (ne_of e2 hdo (by intro z; cases z))
        · have := List.length_eraseIdx_le rows j
          omega
        · intro b o e
          exact kp b o (keep b o (ne_of_none e hl) (ne_of_none e hg7) (sm10 b o e)) (ne_of_none e hp) (ne_of_none e hd)
      case rest =>
        intro H11 rows gone W tl gl g1 gn lr sm
        have tabs11 := tabs7.ext sm
        have hS11 := sm.seq hS7
        refine ⟨(by show 1 ≤ sizeLine; decide), fun f5 hf5 => ?_⟩
        have c5 := same_new (o := .lst [V.int 5]) hf5
        refine ⟨_, rfl, f5, a, _, _, rfl, rfl, SqL.of upd_same, c5.seq hS11, ?_, fun L2 hL2 => ?_⟩
        · rw [List.length_map, sizeLine_eq]
          show 1 + ns.length ≤ _
          omega
        have cL2 := same_new (o := .lst ([V.int 5] ++ ns.map V.int)) hL2
        have eL : upd (upd H11 f5 (.lst [V.int 5])) L2 (.lst ([V.int 5] ++ ns.map V.int)) L2 = some (.lst ([V.int 5] ++ ns.map V.int)) := upd_same
        have W12 := (W.same c5).same cL2
        have tl12 := tl_same (tl_same tl c5) cL2
        have gl12 := cL2 _ _ (c5 _ _ gl)
        have tabs12 := (tabs11.ext c5).ext cL2
        generalize upd (upd H11 f5 (.lst [V.int 5])) L2 (.lst ([V.int 5] ++ ns.map V.int)) = H12 at *
        refine ⟨L2, _, rfl, SqL.of eL, for_it walk_enum (fun i σ H' => ∃ (u1 u2 : Option V), σ = [some (.ref a), some (.int seed), some (.int (m : Int)), some v, some (.ref pl), some (.ref p), some (.ref l), some (.ref g), u1, u2, none] ∧ ExtT T_ H12 H') ⟨none, none, rfl, LamX.ExtN.refl _, tabs12⟩ (fun i σ H' _ ⟨_, _, _, x⟩ => SqL.of (lst_ext eL x.1)) ?_ ?_⟩
        · rintro i x σ H1 H2 hi ⟨u1, u2, rfl, ext⟩ ⟨t, y, z, rfl, ht, rfl, hy, hz⟩
          cases hy
          obtain ⟨c, hc, rfl⟩ := int_item (ns := 5 :: ns) hz
          have fc : Fit c := by
            rcases List.mem_cons.mp (List.mem_of_getElem? hc) with h | h
            · rw [h]
              exact fit_range (by decide) (by decide)
            · exact fits c h
          have ct := same_new (o := .tup [V.int (i : Int), V.int c]) ht
          have r50 := emod_lt (i := (i : Int)) (m := 50) (by decide)
          refine ⟨t, _, rfl, SqT.of upd_same, rfl, _, _, rfl, _, _, rfl, rfl, ?_⟩
          have W13 := (W12.ext ext.1).same ct
          refine ⟨_, rfl, _, rfl, _, rfl, _, rfl, _, rfl, _, _, rfl, rfl, (by show (0 : Int) < 50; decide), _, _, rfl, rfl, c, _, rfl, fc, by omega, by omega, fun rr rr0 rr1 => ?_⟩
          refine ⟨p, d, g, m, rows, n, gone, rr, rfl, W13, ct _ _ (lst_ext gl12 ext.1), g1, gn, by omega, rr0, ext.2.ext ct, fun H3 ext3 => ?_⟩
          refine ⟨_, rfl, ?_⟩
          exact ⟨some (.int (i : Int)), some (.int c), rfl, (ext.1.trans (LamX.ExtN.of ct)).trans ext3.1, ext3.2⟩
        · rintro σ H13 ⟨u1, u2, rfl, ext⟩
          have W14 := W12.ext ext.1
          have tl14 := tl_ext tl12 ext.1
          have tabs14 := ext.2
          clear ext tabs12 tl12 W12 gl12 eL cL2 hL2 c5 hf5 tabs11 hS11
          -- Parted([1, 2], [[0], [1]])
          refine ⟨(by show 2 ≤ sizeLine; decide), fun b1 hb1 => ?_⟩
          have k1 := same_new (o := .lst [V.int 1, V.int 2]) hb1
          refine ⟨(by show 1 ≤ sizeLine; decide), fun x1 hx1 => ?_⟩
          have k2 := same_new (o := .lst [V.int 0]) hx1
          refine ⟨(by show 1 ≤ sizeLine; decide), fun x2 hx2 => ?_⟩
          have k3 := same_new (o := .lst [V.int 1]) hx2
          refine ⟨(by show 2 ≤ sizeLine; decide), fun x3 hx3 => ?_⟩
          have k4 := same_new (o := .lst [V.ref x1, V.ref x2]) hx3
          refine ⟨(by show 2 ≤ 1000; decide), fun pe hpe => ?_⟩
          have k5 := same_new (o := exo pe (gA K "Parted") none) hpe
          have smP := (((k1.trans k2).trans k3).trans k4).trans k5
          have f1 := k5 _ _ (k4 _ _ (k3 _ _ (k2 _ _ (upd_same (H := H13) (a := b1) (o := .lst [V.int 1, V.int 2])))))
          have f2 := k5 _ _ (k4 _ _ (k3 _ _ (upd_same (a := x1) (o := .lst [V.int 0]))))
          have f3 := k5 _ _ (k4 _ _ (upd_same (a := x2) (o := .lst [V.int 1])))
          have f4 := k5 _ _ (upd_same (a := x3) (o := .lst [V.ref x1, V.ref x2]))
          have f5 := upd_same (H := upd (upd (upd (upd H13 b1 (.lst [V.int 1, V.int 2])) x1 (.lst [V.int 0])) x2 (.lst [V.int 1])) x3 (.lst [V.ref x1, V.ref x2])) (a := pe) (o := exo pe (gA K "Parted") none)
          have npe : H13 pe = none := (((k1.trans k2).trans k3).trans k4).free hpe
          generalize upd (upd (upd (upd (upd H13 b1 (.lst [V.int 1, V.int 2])) x1 (.lst [V.int 0])) x2 (.lst [V.int 1])) x3 (.lst [V.ref x1, V.ref x2])) pe (exo pe (gA K "Parted") none) = H15 at *
          refine ⟨pe, b1, x3, [V.int 1, V.int 2], [V.ref x1, V.ref x2], [[V.int 0], [V.int 1]], rfl, f5, f1, f4, .cons ⟨x1, rfl, f2⟩ (.cons ⟨x2, rfl, f3⟩ .nil), (by show 2 ≤ sizeLine; decide), fun bb cc dd zs H16 hbb hcc hdd ea ed eb ec Lz0 _ kp => ⟨rfl, ?_⟩⟩
          have Lz := newL_lsts Lz0
          have sm16 : Same H13 H16 := fun b o e => kp b o (ne_of_none e npe) (smP b o e)
          have W16 := W14.same sm16
          have tl16 := tl_same tl14 sm16
          have tabs16 := tabs14.ext sm16
          clear k1 k2 k3 k4 k5 smP f1 f2 f3 f4 f5 hb1 hx1 hx2 hx3 hpe kp W14 tl14 tabs14
          -- (caught.between, caught.apart) != ([1, 2], [[0], [1]])
          refine ⟨_, rfl, pe, _, dd, _, _, rfl, xf, nb, ea, ed, (at_past (by decide +kernel)).trans at_here, ?_⟩
          refine ⟨_, rfl, pe, _, dd, _, _, rfl, xf, na, ea, ed, at_here, ?_⟩
          refine ⟨(by show 2 ≤ sizeLine; decide), fun t1 ht1 => ?_⟩
          have q1 := same_new (o := .tup [V.ref bb, V.ref cc]) ht1
          refine ⟨(by show 2 ≤ sizeLine; decide), fun y1 hy1 => ?_⟩
          have q2 := same_new (o := .lst [V.int 1, V.int 2]) hy1
          refine ⟨(by show 1 ≤ sizeLine; decide), fun y2 hy2 => ?_⟩
          have q3 := same_new (o := .lst [V.int 0]) hy2
          refine ⟨(by show 1 ≤ sizeLine; decide), fun y3 hy3 => ?_⟩
          have q4 := same_new (o := .lst [V.int 1]) hy3
          refine ⟨(by show 2 ≤ sizeLine; decide), fun y4 hy4 => ?_⟩
          have q5 := same_new (o := .lst [V.ref y2, V.ref y3]) hy4
          refine ⟨(by show 2 ≤ sizeLine; decide), fun t2 ht2 => ?_⟩
          have q6 := same_new (o := .tup [V.ref y1, V.ref y4]) ht2
          have g1' := q6 _ _ (q5 _ _ (q4 _ _ (q3 _ _ (q2 _ _ (upd_same (H := H16) (a := t1) (o := .tup [V.ref bb, V.ref cc]))))))
          have g2' := q6 _ _ (q5 _ _ (q4 _ _ (q3 _ _ (upd_same (a := y1) (o := .lst [V.int 1, V.int 2])))))
          have g3' := q6 _ _ (q5 _ _ (q4 _ _ (upd_same (a := y2) (o := .lst [V.int 0]))))
          have g4' := q6 _ _ (q5 _ _ (upd_same (a := y3) (o := .lst [V.int 1])))
          have g5' := q6 _ _ (upd_same (a := y4) (o := .lst [V.ref y2, V.ref y3]))
          have g6' := upd_same (H := upd (upd (upd (upd (upd H16 t1 (.tup [V.ref bb, V.ref cc])) y1 (.lst [V.int 1, V.int 2])) y2 (.lst [V.int 0])) y3 (.lst [V.int 1])) y4 (.lst [V.ref y2, V.ref y3])) (a := t2) (o := .tup [V.ref y1, V.ref y4])
          have smQ := ((((q1.trans q2).trans q3).trans q4).trans q5).trans q6
          generalize upd (upd (upd (upd (upd (upd H16 t1 (.tup [V.ref bb, V.ref cc])) y1 (.lst [V.int 1, V.int 2])) y2 (.lst [V.int 0])) y3 (.lst [V.int 1])) y4 (.lst [V.ref y2, V.ref y3])) t2 (.tup [V.ref y1, V.ref y4]) = H17 at *
          have eb' := smQ _ _ eb
          have ec' := smQ _ _ ec
          have Lz' : Lsts H17 zs [[V.int 0], [V.int 1]] := lsts_ext (fun t ys e => smQ _ _ e) Lz
          have W17 := W16.same smQ
          have tl17 := tl_same tl16 smQ
          have tabs17 := tabs16.ext smQ
          obtain ⟨z1, zr, rfl, Lz1, Lzr⟩ : ∃ z zr, zs = V.ref z :: zr ∧ H17 z = some (.lst [V.int 0]) ∧ Lsts H17 zr [[V.int 1]] := by
            cases Lz' with
            | cons q1 q2 =>
              obtain ⟨t, rfl, ht⟩ := q1
              exact ⟨t, _, rfl, ht, q2⟩
          obtain ⟨z2, rfl, Lz2⟩ : ∃ z, zr = [V.ref z] ∧ H17 z = some (.lst [V.int 1]) := by
            cases Lzr with
            | cons q1 q2 =>
              obtain ⟨t, rfl, ht⟩ := q1
              cases q2
              exact ⟨t, rfl, ht⟩
          clear q1 q2 q3 q4 q5 q6 smQ ht1 hy1 hy2 hy3 hy4 ht2 W16 tl16 tabs16 Lz Lz' eb ec ea ed hbb hcc hdd sm16 npe
          have eqD : PyData.eqv (.tuple [.list [.int 1, .int 2], .list [.list [.int 0], .list [.int 1]]]) (.tuple [.list [.int 1, .int 2], .list [.list [.int 0], .list [.int 1]]]) = true := by decide +kernel
          have two : DpAll K H17 [V.int 1, V.int 2] [.int 1, .int 2] := .cons (.int _) (.cons (.int _) .nil)
          refine ⟨_, _, .tup (SqT.of g1') (.cons (.lst (SqL.of eb') two) (.cons (.lst (SqL.of ec') (.cons (.lst (SqL.of Lz1) (.cons (.int _) .nil)) (.cons (.lst (SqL.of Lz2) (.cons (.int _) .nil)) .nil))) .nil)),
            .tup (SqT.of g6') (.cons (.lst (SqL.of g2') two) (.cons (.lst (SqL.of g5') (.cons (.lst (SqL.of g3') (.cons (.int _) .nil)) (.cons (.lst (SqL.of g4') (.cons (.int _) .nil)) .nil))) .nil)), by decide, by decide, ?_⟩
          rw [eqD]
          refine ⟨_, rfl, ?_⟩
          -- streets, places
          obtain ⟨dx17, hp17⟩ := W17.ob
          refine ⟨_, rfl, p, dx17, _, rfl, hp17, tF_no _ _ _ (by decide +kernel) (by decide +kernel) (by decide +kernel), p, d, m, rows, n, rfl, W17, fun sl H18 hsl sm18 tl18 => ?_⟩
          have W18 := W17.same sm18
          have tabs18 := tabs17.ext sm18
          refine ⟨_, rfl, _, _, dp_town tl18, dp_town (tl_same tl17 sm18), (lay_rows rows).shaped (by decide), (lay_rows rows).shaped (by decide), ?_⟩
          rw [(lay_rows rows).eqv]
          refine ⟨_, rfl, ?_⟩
          obtain ⟨dx18, hp18⟩ := W18.ob
          refine ⟨_, rfl, p, dx18, _, rfl, hp18, tF_no _ _ _ (by decide +kernel) (by decide +kernel) (by decide +kernel), p, d, m, rows, n, rfl, W18, ?_⟩
          refine ⟨_, rfl, rfl, ?_⟩
          rw [show decide (V.int (m : Int) = V.int (m : Int)) = true from decide_eq_true rfl]
          refine ⟨_, rfl, ?_⟩
          refine ⟨_, rfl, rfl, _, rfl, if_both (fun e => ?_) (fun e => ?_)⟩
          · exact kend _
          · have m2 : 2 ≤ m := by
              have z := of_decide_eq_false e
              have z2 : ¬ (m : Int) = 1 := fun y => z (congrArg V.int y)
              omega
            exact ⟨_, rfl, _, rfl, p, d, m, rows, n, rfl, W18, m2, by omega, tabs18, fun H' => kend H'⟩
    · rw [em, isW_true (by omega) (by omega)] at nw
      cases nw
end
end K09

set_option Elab.async false
set_option linter.all false
set_option maxRecDepth 100000
set_option maxHeartbeats 4000000
namespace K09
open PySem PySem.Spec PyProof.Rows L2 Own
/-! ### the head -/
def gd (i : Nat) (n : Str) : He.DefD := ⟨(n, none), n, n, defArgs (top i), defBody (top i), defScope (top i), [], []⟩
def md (i j : Nat) (c n q : Str) : He.DefD := ⟨(c, some n), n, q, defArgs (inClass (top i) j), defBody (inClass (top i) j), defScope (inClass (top i) j), [], []⟩
def fn : List He.DefD := [gd 10 "is_whole", md 14 0 "Town" "__init__" "Town.__init__", md 14 1 "Town" "places" "Town.places", md 14 2 "Town" "build" "Town.build", md 14 3 "Town" "dig" "Town.dig", md 14 4 "Town" "streets" "Town.streets",
  gd 16 "_law_mixed", gd 17 "_law_seed", gd 18 "_law_ends", gd 19 "_law_pairs", gd 20 "_law_many", gd 21 "_law_made", gd 22 "_law_word", gd 23 "_law_no_place", gd 24 "_law_no_street", gd 25 "_law_refused", gd 26 "_law_full_refused", gd 27 "law"]
def gloNames : List Str := ["TownError", "BadCount", "BadPlace", "BadStreet", "TooMany", "Parted", "BadWays", "BadText", "is_whole", "Town", "_law_mixed", "_law_seed", "_law_ends", "_law_pairs", "_law_many", "_law_made", "_law_word", "_law_no_place", "_law_no_street", "_law_refused", "_law_full_refused", "law"]
def freeNames : List Str := ["type", "int", "len", "list", "enumerate", "min", "range", "isinstance", "ValueError", "super"]
def fa : List He.Fa := gloNames.map .glo ++ (freeNames.map .free ++ ([.int "MOST_PLACES" 16, .int "MOST_STREETS" 60, .cls "Town", .noat "Town" "_many", .noat "Town" "_ends", .noat "Town" "_built", .meth "Town" "build", .meth "Town" "dig", .meth "Town" "streets", .meth "Town" "places", .mkr "Town",
  .exc "BadCount", .exc "BadPlace", .exc "BadStreet", .exc "TooMany"] ++ plainErrs.map fun x => .exm x "TownError" true))
def tf : List He.Defn := [("_law_refused", none), ("_law_full_refused", none), ("law", none)]
abbrev P9 : Program := PySem.Challenge.rw_onewaytown_k09_towns_refused.prog
def pI (K : PySem.W.Frag) : Addr := He.ma K (gA K "Parted") "__init__"
def exKit (K : PySem.W.Frag) : Bool := (errNames.all fun y => decide (PySem.W.kitOne K (.type "NoneType") (.ref (gA K y)) = some false)) && ((plainErrs.all fun x => errNames.all fun y => decide (PySem.W.kitOne K (.ref (gA K x)) (.ref (gA K y)) = some (decide (x = y)))) &&
  ((plainErrs.all fun x => decide (PySem.W.kitOne K (.ref (gA K x)) (.type "ValueError") = some true)) && plainErrs.all fun x => excCB K (gA K x)))
def exPar (K : PySem.W.Frag) : Bool := oexB K (gA K "Parted") && (xfB K (gA K "Parted") && (He.eqO (PySem.W.findIn K (.ref (gA K "Parted")) "between") (some none) && (He.eqO (PySem.W.findIn K (.ref (gA K "Parted")) "apart") (some none) &&
  (He.eqO (PySem.W.findIn K (.ref (gA K "Parted")) "__init__") (some (some (.ref (pI K)))) && (decide (PySem.W.typeIn K (.ref (pI K)) = some (.type "function")) && (supB K (pI K) (gA K "Parted") P9.main.file &&
  (He.eqO (PySem.W.nsIn K cStatics "thirdparty.any") (some none) && (He.eqO (PySem.W.ks_superIn K (gA K "Parted") (gA K "Parted") "__init__") (some (some (.builtin "ValueError.__init__"))) &&
  (decide (PySem.W.subIn K (.ref (gA K "Parted")) (.type "ValueError") = some true) && decide (PySem.W.mroIn K (gA K "Parted") (.ref (gA K "Parted")) = some true))))))))))
def ex (K : PySem.W.Frag) : Bool := exKit K && (exPar K && decide ((tf.map fun p => (He.cT K p).2).Nodup))
def ss : List ((PySem.W.Frag → Addr) × Stmt) := [(pI, s_Parted_init)]
abbrev R9 : PySem.W.OpenRow := PySem.W.OpenLaw.row PySem.Challenge.rw_onewaytown_k09_towns_refused
abbrev hk : PySem.W.Hook := hookY 7 fa fn tf ex ss
def ob (s : PySem.W.SharedT) : AlY := obsY 7 fa fn tf ex ss (HandSHeadRun.getT s)
theorem ob_eq (s : PySem.W.SharedT) : ob s = hk.obs s.abs := obsY_eq (HandSHeadRun.getT_eq s)
def looseNames : List PySem.Str := ["TownError", "BadCount", "BadPlace", "BadStreet", "TooMany", "Parted", "BadWays", "BadText", "is_whole", "MOST_PLACES", "MOST_STREETS", "Town", "_law_mixed", "_law_seed", "_law_ends", "_law_pairs", "_law_many", "_law_made", "_law_word", "_law_no_place", "_law_no_street", "_law_refused", "_law_full_refused"]
theorem run (w : World) : HandSHeadRun.RunEq R9 (PySem.W.view R9.prog [27]) hk ob 6000 looseNames w := by
  intro os
  kernel_rfl
end K09

set_option Elab.async false
set_option linter.all false
set_option maxRecDepth 100000
set_option maxHeartbeats 4000000
namespace K09
open PySem PySem.Spec PyProof.Rows L2 Own
/-! ### the facts, the end -/
def T9 (K : PySem.W.Frag) : List (Addr × Str) := [((He.cT K ("_law_refused", none)).2, ("_law_refused.<locals>." : Str) ++ "<lambda>"), ((He.cT K ("_law_full_refused", none)).2, ("_law_full_refused.<locals>." : Str) ++ "<lambda>"), ((He.cT K ("law", none)).2, ("law.<locals>." : Str) ++ "<lambda>")]
section
variable {w : World} {K : PySem.W.Frag} {h base : Heap} {mg : Str → Option Value}
theorem glo_of (X : K.In h) (G : h.Ns mainGlobals mg) (d : He.SaysD fa fn K) {x : Str} (hx : x ∈ gloNames) : mg x = some (.ref (gA K x)) := He.glo_ok X G (d.facts (List.mem_append_left _ (List.mem_map_of_mem hx)))
theorem free_of (X : K.In h) (G : h.Ns mainGlobals mg) (d : He.SaysD fa fn K) {x : Str} (hx : x ∈ freeNames) : mg x = none := He.free_ok X G (d.facts (List.mem_append_right _ (List.mem_append_left _ (List.mem_map_of_mem hx))))
theorem txt_of (X : K.In h) (G : h.Ns mainGlobals mg) (d : He.SaysD fa fn K) : Txt K mg := by
  have err : ∀ {x : Str}, x ∈ gloNames → (He.Fa.exc x).ok K = true → ErrT K mg x := fun hx e => by
    obtain ⟨e1, e2, e3, e4⟩ := He.exc_ok e
    exact ⟨glo_of X G d hx, e1, e2, e3, e4⟩
  refine ⟨free_of X G d (by decide +kernel), free_of X G d (by decide +kernel), free_of X G d (by decide +kernel), ?_, ?_, He.cls_ok (d.fact 34 (f := .cls "Town") rfl), He.noat_ok (d.fact 35 (f := .noat "Town" "_many") rfl), He.noat_ok (d.fact 36 (f := .noat "Town" "_ends") rfl), He.noat_ok (d.fact 37 (f := .noat "Town" "_built") rfl),
    err (by decide +kernel) (d.fact 43 (f := .exc "BadCount") rfl), err (by decide +kernel) (d.fact 44 (f := .exc "BadPlace") rfl), err (by decide +kernel) (d.fact 45 (f := .exc "BadStreet") rfl), err (by decide +kernel) (d.fact 46 (f := .exc "TooMany") rfl)⟩
  · obtain ⟨t, e⟩ := He.int_ok X G (d.fact 32 (f := .int "MOST_PLACES" 16) rfl)
    exact ⟨_, e, t, rfl⟩
  · obtain ⟨t, e⟩ := He.int_ok X G (d.fact 33 (f := .int "MOST_STREETS" 60) rfl)
    exact ⟨_, e, t, rfl⟩
theorem txtL_of (X : K.In h) (G : h.Ns mainGlobals mg) (d : He.SaysD fa fn K) : TxtL mg := ⟨free_of X G d (by decide +kernel), free_of X G d (by decide +kernel), free_of X G d (by decide +kernel), free_of X G d (by decide +kernel)⟩
theorem txtW_of (X : K.In h) (G : h.Ns mainGlobals mg) (d : He.SaysD fa fn K) (e : exKit K = true) : TxtW K mg := by
  obtain ⟨e1, e⟩ := He.ba e
  obtain ⟨e2, e⟩ := He.ba e
  obtain ⟨e3, e4⟩ := He.ba e
  have g : ∀ {x : Str}, x ∈ gloNames → ∃ u, mg x = some u ∧ RelV (.ref (gA K x)) u := fun hx => ⟨_, glo_of X G d hx, rfl⟩
  exact ⟨free_of X G d (by decide +kernel), free_of X G d (by decide +kernel), glo_of X G d (by decide +kernel), g (by decide +kernel), g (by decide +kernel), g (by decide +kernel), g (by decide +kernel), g (by decide +kernel), g (by decide +kernel), g (by decide +kernel),
    fun y hy => of_decide_eq_true (List.all_eq_true.mp e1 y hy), fun x hx y hy => of_decide_eq_true (List.all_eq_true.mp (List.all_eq_true.mp e2 x hx) y hy), fun x hx => of_decide_eq_true (List.all_eq_true.mp e3 x hx),
    fun x hx => He.exm_ok (d.facts (List.mem_append_right _ (List.mem_append_right _ (List.mem_append_right _ (List.mem_map_of_mem hx))))), fun x hx => excCB_ok (List.all_eq_true.mp e4 x hx)⟩
end
end K09

set_option Elab.async false
set_option linter.all false
set_option maxRecDepth 100000
set_option maxHeartbeats 4000000
namespace K09
open PySem PySem.Spec PyProof.Rows L2 Own
section
variable {w : World} {K : PySem.W.Frag} {h base : Heap} {mg : Str → Option Value}
theorem par_of (X : K.In h) (G : h.Ns mainGlobals mg) (c : SaysY fa fn tf ex ss w h K) (e : exPar K = true) (base : Heap) : MakE P9 w K mg base 1 "Parted" (gA K "Parted") (spParted (gA K "Parted")) ∧ XfC K (gA K "Parted") ∧
    PySem.W.findIn K (.ref (gA K "Parted")) "between" = some none ∧ PySem.W.findIn K (.ref (gA K "Parted")) "apart" = some none := by
  obtain ⟨e1, e⟩ := He.ba e
  obtain ⟨e2, e⟩ := He.ba e
  obtain ⟨e3, e⟩ := He.ba e
  obtain ⟨e4, e⟩ := He.ba e
  obtain ⟨e5, e⟩ := He.ba e
  obtain ⟨e6, e⟩ := He.ba e
  obtain ⟨e7, e⟩ := He.ba e
  obtain ⟨e8, e⟩ := He.ba e
  obtain ⟨e9, e⟩ := He.ba e
  obtain ⟨e10, e11⟩ := He.ba e
  have d := c.x.t.d
  have oex := oexB_ok e1
  have eo : supObs K (pI K) = supVal s_Parted_init := by
    have z := c.s
    exact (List.cons.inj z).1
  obtain ⟨cda, cc, kV, doc, pm, ct, an, S⟩ := sup_of (P := P9) eo e7 oex ⟨_, rfl, rfl⟩ (free_of X G d (by decide +kernel)) (He.eqO_ok e8) (He.eqO_ok e9) (of_decide_eq_true e10) (of_decide_eq_true e11) (by decide +kernel)
  have nb := He.eqO_ok e3
  have na := He.eqO_ok e4
  exact ⟨⟨pI K, _, ["self", "between", "apart"], oex, He.eqO_ok e5, of_decide_eq_true e6, ok_Parted S (free_of X G d (by decide +kernel)) nb na, glo_of X G d (by decide +kernel), sup_binds (ps := ["self", "between", "apart"]) fun us hl => match us, hl with | [_, _, _], _ => rfl⟩, xfB_ok e2, nb, na⟩
theorem law_at {f : Addr} (X : K.In h) (G : h.Ns mainGlobals mg) (hfa : mg ("law" : Str) = some (.ref f)) (c : SaysY fa fn tf ex ss w h K) : LamX.LawAtS PySem.Challenge.rw_onewaytown_k09_towns_refused w K (L2.CX P9 w) 12 63 "_law_script" mg f h := by
  have d := c.x.t.d
  obtain ⟨exk, ex2⟩ := He.ba c.x.more
  obtain ⟨exp, exn⟩ := He.ba ex2
  have nodup : ([(He.cT K ("_law_refused", none)).2, (He.cT K ("_law_full_refused", none)).2, (He.cT K ("law", none)).2] : List Addr).Nodup := of_decide_eq_true exn
  have T := txt_of X G d
  have TL := txtL_of X G d
  have TW := txtW_of X G d exk
  have g : ∀ {x : Str}, x ∈ gloNames → mg x = some (.ref (gA K x)) := fun hx => glo_of X G d hx
  have ef : f = gA K "law" := by
    have z := hfa.symm.trans (g (x := "law") (by decide +kernel))
    cases z
    rfl
  subst ef
  obtain ⟨_, D_is_whole⟩ := d.def_ 0 (d := gd 10 "is_whole") rfl
  obtain ⟨_, D_init⟩ := d.def_ 1 (d := md 14 0 "Town" "__init__" "Town.__init__") rfl
  obtain ⟨_, D_places⟩ := d.def_ 2 (d := md 14 1 "Town" "places" "Town.places") rfl
  obtain ⟨_, D_build⟩ := d.def_ 3 (d := md 14 2 "Town" "build" "Town.build") rfl
  obtain ⟨_, D_dig⟩ := d.def_ 4 (d := md 14 3 "Town" "dig" "Town.dig") rfl
  obtain ⟨_, D_streets⟩ := d.def_ 5 (d := md 14 4 "Town" "streets" "Town.streets") rfl
  obtain ⟨_, D_mixed⟩ := d.def_ 6 (d := gd 16 "_law_mixed") rfl
  obtain ⟨_, D_seed⟩ := d.def_ 7 (d := gd 17 "_law_seed") rfl
  obtain ⟨_, D_ends⟩ := d.def_ 8 (d := gd 18 "_law_ends") rfl
  obtain ⟨_, D_pairs⟩ := d.def_ 9 (d := gd 19 "_law_pairs") rfl
  obtain ⟨_, D_many⟩ := d.def_ 10 (d := gd 20 "_law_many") rfl
  obtain ⟨_, D_made⟩ := d.def_ 11 (d := gd 21 "_law_made") rfl
  obtain ⟨_, D_word⟩ := d.def_ 12 (d := gd 22 "_law_word") rfl
  obtain ⟨_, D_no_place⟩ := d.def_ 13 (d := gd 23 "_law_no_place") rfl
  obtain ⟨_, D_no_street⟩ := d.def_ 14 (d := gd 24 "_law_no_street") rfl
  obtain ⟨_, D_refused⟩ := d.def_ 15 (d := gd 25 "_law_refused") rfl
  obtain ⟨_, D_full⟩ := d.def_ 16 (d := gd 26 "_law_full_refused") rfl
  obtain ⟨fd, D_law⟩ := d.def_ 17 (d := gd 27 "law") rfl
  have inT : ∀ p ∈ tf, He.cT K p ∈ tf.map (He.cT K) := fun p hp => List.mem_map_of_mem hp
  refine ⟨fd, tf.map (He.cT K), spLaw K (T9 K), fun p hp => ?_, fun p hp => ?_, fun p hp => ?_, fun s u => ?_, fun H a ns hl hbits hT hS => ⟨a, ns, rfl, hS, fun z hz => fit_bits (hbits z hz), hl, ?_, fun _ => rfl⟩, fun base KB GB TB => ?_⟩
  · obtain ⟨q, hq, rfl⟩ := List.mem_map.mp hp
    exact c.x.empty q hq
  · obtain ⟨q, hq, rfl⟩ := List.mem_map.mp hp
    exact c.x.out q hq
  · obtain ⟨q, hq, rfl⟩ := List.mem_map.mp hp
    exact PySem.W.codeHd_of_K X (c.x.hd q hq)
  · exact D_law.bindsA (ps := ["_law_script"]) (fun _ _ _ _ _ _ us hl => match us, hl with | [_], _ => rfl) s [u] rfl
  · intro q hq
    refine LamX.TabS.nil ?_
    have key : ∀ p ∈ tf, H (He.cT K p).2 = some (.tbl #[]) := fun p hp => hT _ (inT p hp)
    simp only [T9, List.mem_cons, List.not_mem_nil, or_false] at hq
    rcases hq with rfl | rfl | rfl
    · exact key _ (by decide +kernel)
    · exact key _ (by decide +kernel)
    · exact key _ (by decide +kernel)
  · obtain ⟨M_Par, xf, nb, na⟩ := par_of X G c exp base
    have tb : ∀ p ∈ tf, LamX.TabB base mg (He.cT K p).1 (He.cT K p).2 := fun p hp => TB _ (inT p hp)
    have c_is_whole : CalX P9 w K mg base 1 "is_whole" spWhole := ⟨_, _, _, ok_is_whole T D_is_whole, g (by decide +kernel), D_is_whole.kp, D_is_whole.bindsN fun _ _ _ _ _ _ us hl => match us, hl with | [_, _, _], _ => rfl⟩
    have c_Town : MakX P9 w K mg base 2 "Town" (gA K "Town") (spInit K (gA K "Town")) := ⟨_, _, _, He.mkr_ok (d.fact 42 (f := .mkr "Town") rfl), ok_init T D_init c_is_whole, g (by decide +kernel), D_init.bindsN fun _ _ _ _ _ _ us hl => match us, hl with | [_, _], _ => rfl⟩
    have c_build : MetX P9 w K mg base 2 (gA K "Town") "build" (spBuild K (gA K "Town")) := ⟨_, _, _, T.cl, He.meth_ok (d.fact 38 (f := .meth "Town" "build") rfl), ok_build T D_build c_is_whole, D_build.bindsN fun _ _ _ _ _ _ us hl => match us, hl with | [_, _, _], _ => rfl⟩
    have c_dig : MetX P9 w K mg base 2 (gA K "Town") "dig" (spDig K (gA K "Town")) := ⟨_, _, _, T.cl, He.meth_ok (d.fact 39 (f := .meth "Town" "dig") rfl), ok_dig T D_dig c_is_whole, D_dig.bindsN fun _ _ _ _ _ _ us hl => match us, hl with | [_, _], _ => rfl⟩
    have c_streets : MetX P9 w K mg base 1 (gA K "Town") "streets" (spStreets (gA K "Town")) := ⟨_, _, _, T.cl, He.meth_ok (d.fact 40 (f := .meth "Town" "streets") rfl), ok_streets T D_streets, D_streets.bindsN fun _ _ _ _ _ _ us hl => match us, hl with | [_], _ => rfl⟩
    have c_places : MetX P9 w K mg base 1 (gA K "Town") "places" (spPlaces (gA K "Town")) := ⟨_, _, _, T.cl, He.meth_ok (d.fact 41 (f := .meth "Town" "places") rfl), ok_places T D_places, D_places.bindsN fun _ _ _ _ _ _ us hl => match us, hl with | [_], _ => rfl⟩
    have c_mixed : CalX P9 w K mg base 1 "_law_mixed" spMixed := ⟨_, _, _, ok_mixed D_mixed, g (by decide +kernel), D_mixed.kp, D_mixed.bindsN fun _ _ _ _ _ _ us hl => match us, hl with | [_, _], _ => rfl⟩
    have c_seed : CalX P9 w K mg base 2 "_law_seed" (spSeed K) := ⟨_, _, _, ok_seed TL D_seed c_mixed, g (by decide +kernel), D_seed.kp, D_seed.bindsN fun _ _ _ _ _ _ us hl => match us, hl with | [_], _ => rfl⟩
    have c_many : CalX P9 w K mg base 2 "_law_many" spMany := ⟨_, _, _, ok_many TL D_many c_mixed, g (by decide +kernel), D_many.kp, D_many.bindsN fun _ _ _ _ _ _ us hl => match us, hl with | [_, _], _ => rfl⟩
    have c_ends : CalX P9 w K mg base 1 "_law_ends" spEnds := ⟨_, _, _, ok_ends TL D_ends, g (by decide +kernel), D_ends.kp, D_ends.bindsN fun _ _ _ _ _ _ us hl => match us, hl with | [_, _, _, _], _ => rfl⟩
    have c_pairs : CalX P9 w K mg base 4 "_law_pairs" (spPairs K) := ⟨_, _, _, (ok_pairs TL D_pairs c_mixed c_ends).mono (by decide), g (by decide +kernel), D_pairs.kp, D_pairs.bindsN fun _ _ _ _ _ _ us hl => match us, hl with | [_, _, _, _], _ => rfl⟩
    have c_made : CalX P9 w K mg base 4 "_law_made" (spMade (gA K "Town")) := ⟨_, _, _, ok_made TL D_made c_mixed c_Town c_build c_dig, g (by decide +kernel), D_made.kp, D_made.bindsN fun _ _ _ _ _ _ us hl => match us, hl with | [_, _, _], _ => rfl⟩
    have c_no_place : CalX P9 w K mg base 1 "_law_no_place" spNoPlace := ⟨_, _, _, ok_no_place D_no_place, g (by decide +kernel), D_no_place.kp, D_no_place.bindsN fun _ _ _ _ _ _ us hl => match us, hl with | [_, _], _ => rfl⟩
    have c_no_street : CalX P9 w K mg base 1 "_law_no_street" spNoStreet := ⟨_, _, _, ok_no_street TL D_no_street, g (by decide +kernel), D_no_street.kp, D_no_street.bindsN fun _ _ _ _ _ _ us hl => match us, hl with | [_, _], _ => rfl⟩
    rw [List.nodup_cons, List.nodup_cons] at nodup
    simp only [List.mem_cons, List.not_mem_nil, or_false, not_or] at nodup
    obtain ⟨⟨n1, n2⟩, n3, _⟩ := nodup
    have hu1 : ∀ q ∈ T9 K, q.1 = (He.cT K ("_law_refused", none)).2 → q.2 = ("_law_refused.<locals>." : Str) ++ "<lambda>" := fun q hq e => by
      simp only [T9, List.mem_cons, List.not_mem_nil, or_false] at hq
      rcases hq with rfl | rfl | rfl
      · rfl
      · exact absurd e.symm n1
      · exact absurd e.symm n2
    have hu2 : ∀ q ∈ T9 K, q.1 = (He.cT K ("_law_full_refused", none)).2 → q.2 = ("_law_full_refused.<locals>." : Str) ++ "<lambda>" := fun q hq e => by
      simp only [T9, List.mem_cons, List.not_mem_nil, or_false] at hq
      rcases hq with rfl | rfl | rfl
      · exact absurd e n1
      · rfl
      · exact absurd e.symm n3
    have hu3 : ∀ q ∈ T9 K, q.1 = (He.cT K ("law", none)).2 → q.2 = ("law.<locals>." : Str) ++ "<lambda>" := fun q hq e => by
      simp only [T9, List.mem_cons, List.not_mem_nil, or_false] at hq
      rcases hq with rfl | rfl | rfl
      · exact absurd e n2
      · exact absurd e n3
      · rfl
    have c_refused : CalX P9 w K mg base 11 "_law_refused" (spRefused (gA K "Town") (T9 K)) := ⟨_, _, _, ok_refused TW D_refused D_word (g (by decide +kernel)) (tb _ (by decide +kernel)) (by simp [T9]) hu1 c_no_place c_no_street c_build c_dig, g (by decide +kernel), D_refused.kp, D_refused.bindsN fun _ _ _ _ _ _ us hl => match us, hl with | [_, _, _, _], _ => rfl⟩
    have c_full : CalX P9 w K mg base 11 "_law_full_refused" (spFull (gA K "Town") (T9 K)) := ⟨_, _, _, ok_full TL TW D_full D_word (g (by decide +kernel)) (tb _ (by decide +kernel)) (by simp [T9]) hu2 c_build c_dig c_streets, g (by decide +kernel), D_full.kp, D_full.bindsN fun _ _ _ _ _ _ us hl => match us, hl with | [_, _], _ => rfl⟩
    exact ok_law TL TW D_law D_word (g (by decide +kernel)) (tb _ (by decide +kernel)) (by simp [T9]) hu3 c_mixed c_seed c_many c_pairs c_made c_refused c_full c_Town c_dig c_streets c_places M_Par xf nb na
end
end K09

set_option Elab.async false
set_option linter.all false
set_option maxRecDepth 100000
set_option maxHeartbeats 4000000
namespace K09
open PySem PySem.Spec PyProof.Rows L2 Own
end K09
open PySem PySem.W PySem.Calls PyProof.Rows
theorem PySem.Challenge.cw_onewaytown_k09_towns_refused_holds : PySem.Challenge.rw_onewaytown_k09_towns_refused.Holds := by
  w_on; o_law
  refine HandSHeadRun.head_any (r := OpenLaw.row PySem.Challenge.rw_onewaytown_k09_towns_refused) (q := view (OpenLaw.row PySem.Challenge.rw_onewaytown_k09_towns_refused).prog [27]) (H := K09.hk) (ob := K09.ob) (M := 6000) (loose := K09.looseNames) (d := HandSHeadRun.topDef (OpenLaw.row PySem.Challenge.rw_onewaytown_k09_towns_refused).prog 27) (kwd := []) K09.ob_eq
    (by kernel_rfl) (fun s => by kernel_rfl) K09.run (by kernel_rfl) (by kernel_rfl) (by kernel_rfl) (by rfl) (by first | assumption | decide +kernel) (by decide +kernel) ⟨rfl, rfl, rfl, rfl, rfl, by decide +kernel⟩ ?hw ?hc
  case hw => w_witness2
  case hc =>
    refine LamX.walk_ofTsE (l := PySem.Challenge.rw_onewaytown_k09_towns_refused) (n := 63) (k := 12) (x := "_law_script") (CX := fun w => L2.CX K09.P9 w) rfl (by decide) (by kernel_rfl) ⟨rfl, by decide, by decide⟩ ?F (fun w H s e s' z => by
      obtain ⟨_, _, _, _, _, _, _, _, _, _, _, _, q⟩ := z
      exact q)
    intro w mg fa h Y G hmg0
    obtain ⟨K, KX, c⟩ := Y
    have hmg : mg ("law" : PySem.Str) = some (.ref fa) := by
      have e : (HandSHeadRun.topDef (OpenLaw.row PySem.Challenge.rw_onewaytown_k09_towns_refused).prog 27).name = ("law" : PySem.Str) := by kernel_rfl
      rw [← e]
      exact hmg0
    exact ⟨K, KX, K09.law_at KX G hmg c⟩

