import PyProof.Rows.All
import Wide.All
import OpenK.AllK
import Wide.FinOn
import PyProof.TypeEq
import PyProof.TypeOfCall
import HandS.ForMost
import HandS.ForExc
import HandS.Lambda
import HandS.Codes
import HandS.Deep
import HandS.IsInst
import HandS.ExcIs
import HandS.ExcValue
import HandS.More
import HandS.Defaults
import HandS.Walk
import HandS.HeadHook4
import HandS.HeadWalk
import HandS.Head2
import PyProof.Rows.SeqMore
import KE.KExcSuper
import KE.KSuper
import HandS.ExcSuper
import HandS.ExcInit
import HandS.ExcField
import PyProof.InstNe
import HandS.Conv
import HandS.Style
import PySem.Challenge.RW_onewaytown_k06_ways_looked_at
set_option Elab.async false
set_option linter.all false
set_option maxRecDepth 100000
set_option maxHeartbeats 4000000
/-! Rules of our own, law-independent: products of script numbers, type(x) == int, an exception kept behind its except clause. -/
namespace Own
open PySem PySem.Spec PyProof.Rows L2
/-! ### products of numbers of a million bits and more -/
def CMulG (i j : Int) : Prop := i.natAbs.log2 + j.natAbs.log2 < 100000000
theorem CMulG.fits {i j : Int} (h : CMulG i j) : IntMulOk i j := by
  have bits : ∀ x : Int, Builtin.Int.intBits x ≤ x.natAbs.log2 + 1 := by
    intro x
    unfold Builtin.Int.intBits
    split <;> omega
  have hi := bits i
  have hj := bits j
  have hs : i.natAbs.log2 + j.natAbs.log2 < 100000000 := h
  have line : bitsLine = 134217728 := by decide
  unfold IntMulOk
  intro big
  rw [Bool.and_eq_true] at big
  have over := big.2
  unfold Builtin.Int.intTooBig at over
  have over2 := of_decide_eq_true over
  rw [line] at over2
  omega
section
variable {X : Cx}
theorem op_mulG : OpR X (binaryOp .Mult) (rI CMulG fun i j => .int (i * j)) :=
  opI fun _ _ _ _ _ _ _ hc q => mul_int q hc.fits
/-! ### type(x), and types compared -/
/-- the name of a thing's kind, where it is one of the kinds that a script's program hands around -/
def tyName : V → Hp → Option String
  | .non, _ => "NoneType"
  | .bl _, _ => "bool"
  | .int _, _ => "int"
  | .str _, _ => "str"
  | .ref p, H => match H p with
    | some (.lst _) | some (.frz _ (.lst _)) => "list"
    | some (.tup _) => "tuple"
    | some (.dK _) => "dict"
    | _ => none
  | _, _ => none
/-- what the name says, in the library's own words of kinds -/
theorem tyName_is (K : PySem.W.Frag) : ∀ {x : V} {H : Hp} {n : String}, tyName x H = some n → TyB K H x n
  | .non, _, _, rfl => .non
  | .bl b, _, _, rfl => .bl b
  | .int i, _, _, rfl => .int i
  | .str z, _, _, rfl => .str z
  | .ref p, H, n, e => by
    unfold tyName at e
    dsimp only at e
    split at e <;> cases e
    · exact .lst (.of ‹_›)
    · exact .lst (.inl (.inr ⟨_, ‹_›⟩))
    · exact .tup (.of ‹_›)
    · exact .dK ‹_›
theorem call_tyOf : CallR X (.type "type") (fun xs H Q => ∃ x n, xs = [x] ∧ tyName x H = some n ∧ Q (.ty n) H) :=
  fun pins s σ H xs us Q I r ⟨x, n, one, e, q⟩ => call_type1 pins s σ H xs us Q I r ⟨x, n, one, tyName_is X.K e, q⟩
/-- the kind n is itself of the kind of kinds -/
def metaOk (n : String) : Prop := ∀ s' : Shared, s'.TypeIs (.type n) "type"
theorem meta_all : metaOk "NoneType" ∧ metaOk "bool" ∧ metaOk "int" ∧ metaOk "str" ∧ metaOk "list" ∧ metaOk "tuple" ∧ metaOk "dict" :=
  open PySem.TypeEq in ⟨meta_NoneType, meta_bool, meta_int, meta_str, meta_list, meta_tuple, meta_dict⟩
theorem tyName_meta {x : V} {H : Hp} {n : String} (e : tyName x H = some n) : metaOk n := by
  obtain ⟨m1, m2, m3, m4, m5, m6, m7⟩ := meta_all
  unfold tyName at e
  (split at e <;> try split at e) <;> cases e <;> assumption
theorem op_eqTy : OpR X (compareOp .Eq) (fun x y H Q => ∃ m n, x = .ty m ∧ y = .ty n ∧ metaOk m ∧ metaOk n ∧ Q (.bl (decide (m = n))) H) := by
  rintro pins s σ H _ _ a b Q I ra rb ⟨m, n, rfl, rfl, hm, hn, q⟩
  obtain rfl : a = .type m := ra
  obtain rfl : b = .type n := rb
  have same := ty_beq m n
  cases e : (Value.type m == Value.type n) <;> rw [e] at same <;> rw [← same] at q
  · exact PySem.TypeEq.eq_type_other hm hn e (fin_bl I q rfl)
  · cases of_decide_eq_true same.symm
    exact PySem.TypeEq.eq_type_same hm (fin_bl I q rfl)
end
end Own

set_option Elab.async false
set_option linter.all false
set_option maxRecDepth 100000
set_option maxHeartbeats 4000000
/-! An exception that stays known behind the except clause that caught it: caught = e. -/
namespace Own
open PySem PySem.Spec PyProof.Rows L2
/-! ### a record, told in one -/
/-- at a stands the record o with the fields vs -/
structure RecAt (h : Heap) (a : Addr) (o : Obj) (vs : Array Value) : Prop where
  at_ : h.get? a = some o
  fl : o.data = .fields vs
/-- at a stands an exception object of the class cls, its own dict d -/
def ExK (cls : Value) (d : Option Addr) (a : Addr) : HO := .ext fun h => ∃ (ob : Obj) (vals : Array Value), h.get? a = some ob ∧ Zc cls d ob ∧ ob.data = .fields vals
section
variable {X : Cx} {pins : List (Addr × Obj)} {σ : L2.St} {H : Hp} {s : Shared}
theorem exK_there {P : Program} {w : World} {h : Heap} {cls : Value} {d : Option Addr} {a : Addr} (hok : HOk P w H h) (e : H a = some (ExK cls d a)) :
    ∃ (ob : Obj) (vals : Array Value), h.get? a = some ob ∧ Zc cls d ob ∧ ob.data = .fields vals :=
  (show ObjOk P w H h a (.ext fun h => ∃ (ob : Obj) (vals : Array Value), h.get? a = some ob ∧ Zc cls d ob ∧ ob.data = .fields vals) from hok a _ e).1
/-- a is none of what the def around leans on -/
structure Fresh (X : Cx) (pins : List (Addr × Obj)) (a : Addr) : Prop where
  entry : ∀ b o, X.s_0.heap.get? b = some o → b ∉ X.ex → b ≠ a
  frame : X.env.locals ≠ a
  cells : ∀ x c, X.env.cells.lookup x = some c → c ≠ a
  pins : ∀ p ∈ X.pn ++ pins, p.1 ≠ a
/-- so is each place that is not there yet -/
theorem Fresh.of {a : Addr} (I : Inv X pins σ H s) (absent : s.heap.get? a = none) : Fresh X pins a := by
  have not : ∀ {b o}, s.heap.get? b = some o → b ≠ a := fun e z => by cases absent.symm.trans ((congrArg s.heap.get? z).symm.trans e)
  refine ⟨fun b o e out => (I.base.there b o e out).elim fun _ q => not q, ?_, fun x c e => ?_, fun p hp => not (I.pin p hp).1⟩
  · obtain ⟨_, ⟨_, _, _, q, _⟩, _⟩ := I.loc
    exact not q
  · obtain ⟨_, _, q, _⟩ := I.cell x c e
    exact not q
/-- what stands at such a place, untracked so far, is tracked from now on -/
theorem track {a : Addr} {u : HO} (I : Inv X pins σ H s) (un : H a = none) (f : Fresh X pins a) (is : ObjOk X.prog X.w (upd H a u) s.heap a u) : Inv X pins σ (upd H a u) s := by
  have still : ∀ {b o}, H b = some o → upd H a u b = some o := fun e => (upd_ne (ne_of_none e un)).trans e
  have off : ∀ {b}, b ≠ a → H b = none → upd H a u b = none := fun n e => (upd_ne n).trans e
  refine ⟨I.ok, I.os, I.bare, ⟨I.base.keep, I.base.slot, fun b o e n out => off (f.entry b o e out) (I.base.free b o e n out), I.base.there, fun b xs e => still (I.base.tups b xs e), fun b o v e => still (I.base.frzs b o v e), fun b ps e => ?_⟩,
    I.loc, I.cell, off f.frame I.free, fun x c e => off (f.cells x c e) (I.freeC x c e), fun p hp => ?_, fun b o e => ?_, I.len⟩
  · obtain ⟨more, z⟩ := I.base.tbls b ps e
    exact ⟨more, still z⟩
  · obtain ⟨p1, p2, rest⟩ := I.pin p hp
    exact ⟨p1, off (f.pins p hp) p2, rest⟩
  · rcases Decidable.em (b = a) with rfl | n
    · cases upd_same.symm.trans e
      exact is
    · rw [upd_ne n] at e
      exact (I.hok b o e).stay (fun _ _ _ q => q) (fun _ q => still q) fun _ _ q => still q
/-- what such a clause wishes of an exception of its body: slot i the clause's name, slot j the keeper -/
def wKept (K : PySem.W.Frag) (c : Value) (fin : L2.St → Addr → L2.St) (out : WX) (D : Ends) : WX := fun cls d σ H =>
  ∃ hit, PySem.W.exmOne K cls c = some hit ∧ (hit = true → ∀ a, H a = none → D.nx (fin σ a) (upd H a (ExK cls d a))) ∧ (hit = false → out cls d σ H)
/-- the slots behind the clause, or less of them -/
def Less (n i j : Nat) (fin : L2.St → Addr → L2.St) : Prop := ∀ (σ : L2.St) (a : Addr), σ.length = n → (fin σ a).length = n ∧ ∀ (k : Nat) (v : V), (fin σ a)[k]? = some (some v) → (((σ.set i (some (.ref a))).set j (some (.ref a))).set i none)[k]? = some (some v)
def allOf (i j : Nat) : L2.St → Addr → L2.St := fun σ a => ((σ.set i (some (.ref a))).set j (some (.ref a))).set i none
theorem allOf_less {n i j : Nat} : Less n i j (allOf i j) := fun σ a h => ⟨by unfold allOf; simpa using h, fun _ _ e => e⟩
/-- the keeper alone -/
def oneOf (n j : Nat) : L2.St → Addr → L2.St := fun _ a => (List.replicate n none).set j (some (.ref a))
theorem oneOf_less {n i j : Nat} (hij : i ≠ j) : Less n i j (oneOf n j) := fun σ a h => by
  refine ⟨by unfold oneOf; simp, fun k v e => ?_⟩
  unfold oneOf at e
  by_cases hk : k = j
  · subst hk
    have lt : k < n := by
      have z := (List.getElem?_eq_some_iff.mp e).1
      simpa using z
    rw [List.getElem?_set_self (by simpa using lt)] at e
    rw [List.getElem?_set_ne hij, List.getElem?_set_self (by simpa [h] using lt)]
    exact e
  · rw [List.getElem?_set_ne (Ne.symm hk)] at e
    rw [List.getElem?_replicate] at e
    split at e <;> simp at e
end
section
variable {prog : Program} {w : World} {h : Heap} {a : Addr} {o : Obj} {vs : Array Value}
theorem RecAt.ty (r : RecAt h a o vs) : PySem.W.Looks (model prog w) h (typeOf (.ref a)) o.cls := fun _ _ _ _ keep q => wpAny_typeOf_ref (keep a o r.at_) q
end
/-! ### records off the frames -/
theorem RecAt.off {B h : Heap} {l : List Env} {a : Addr} {o : Obj} {vs : Array Value} (r : RecAt h a o vs) (ff : h.FunFrames B l) : a ∉ frs l := fun hm => by
  obtain ⟨_, o2, e, no⟩ := ff.mem hm
  cases r.at_.symm.trans e
  exact no vs r.fl
/-- what a pin says of p -/
def PinFacts (X : Cx) (H : Hp) (s : Shared) (p : Addr × Obj) : Prop := s.heap.get? p.1 = some p.2 ∧ H p.1 = none ∧ p.1 ≠ X.env.locals ∧ p.1 ∉ X.fs ∧ ∀ v, p.2.data ≠ .cell v
theorem RecAt.pin {X : Cx} {H : Hp} {s : Shared} {a : Addr} {o : Obj} {vs : Array Value} (r : RecAt s.heap a o vs) (un : H a = none) (hf : X.env.frame = some X.env.locals) (off : a ∉ frs (X.env :: X.outer)) : PinFacts X H s (a, o) := by
  refine ⟨r.at_, un, fun z => off ?_, fun hm => off ?_, fun v z => ?_⟩
  · exact List.mem_filterMap.mpr ⟨X.env, List.mem_cons_self, by rw [hf, ← z]⟩
  · obtain ⟨en, he, q⟩ := List.mem_filterMap.mp hm
    exact List.mem_filterMap.mpr ⟨en, List.mem_cons_of_mem _ he, q⟩
  · exact nomatch r.fl.symm.trans z
/-! ### a try's body, as the def around sees it -/
section
variable {X : Cx} {pins pn : List (Addr × Obj)} {xe : Value → Shared → Prop} {D : Ends} {Wout : WX}
theorem body_out (ok : X.Ok) : ∀ {f : Flow} {s : Shared}, SP (X.tr (X.pn ++ pins) xe) pn D f s → SP X pins D f s
  | .next, _, ⟨_, _, J, q⟩ => ⟨_, _, Inv.ofTry J ok, q⟩
  | .brk, _, ⟨_, _, J, q⟩ => ⟨_, _, Inv.ofTry J ok, q⟩
  | .cont, _, ⟨_, _, J, q⟩ => ⟨_, _, Inv.ofTry J ok, q⟩
  | .ret _, _, ⟨_, _, _, J, rel, q⟩ => ⟨_, _, _, Inv.ofTry J ok, rel, q⟩
/-- the name of a clause's class, read where the exception a is handled -/
theorem clause_name {x : Str} {c : Value} {np : Pos} {a : Addr} {σ : L2.St} {H : Hp} {s : Shared} {Q E : Value → Shared → Prop} (is : Names X x c) (S : Inv (X.suite a pn) pins σ H s) (q : Q c s) :
    wpAny (model X.prog X.w) (X.A.mark (some (.ref a))) (eval (.Name x np) X.env) Q E s := by
  rcases is with ⟨glob, dbg, own | ⟨hidden, built, noName⟩⟩
  · exact ld_glob (X := X.suite a pn) S glob own q dbg
  · exact ld_blt (X := X.suite a pn) S glob hidden built q noName dbg
/-- what no clause names flies on -/
theorem flies_by {B : Heap} {sI s' : Shared} {ps pins : List (Addr × Obj)} {σ : L2.St} {H : Hp} {a : Addr} {cls : Value} {d : Option Addr} {D : Ends} (hs : X.stack = X.env :: X.outer) (hf : X.env.frame = some X.env.locals) (tk : Takes X Wout) (J : Inv X ps σ H sI)
    (ground : ∀ b u, sI.heap.get? b = some u → b ∉ frs X.stack → B.get? b = some u) (upto : sI.heap.UpToSlots s'.heap) (fl : HandSPX.FlyingZ B (X.env :: X.outer) a (Zc cls d) s'.heap) (un : H a = none) (os : s'.os = sI.os) (bare : AllBare s'.gens) (wish : Wout cls d σ H) :
    wpAny (model X.prog X.w) X.A (handleBy (.ref a) X.env []) (SP X pins D) X.xe s' := by
  obtain ⟨_, _, _, o, vs, T, oT, ts, at_, _, rec, traced, _⟩ := id fl
  have end_ : wpAny (model X.prog X.w) X.A (setFlight (.ref a) X.env.frame) (fun _ s2 => wpAny (model X.prog X.w) X.A (throw (.ref a) : Sem Flow) (SP X pins D) X.xe s2) X.xe s' := by
    rw [hf]
    refine HandSPX.setFlight_upZ fl fun h2 held up2 => wpAny_throw (tk _ _ ⟨a, B, sI, ps, σ, H, cls, d, rfl, J, ground, upto.trans up2, .inr (.inr ?_), un, os, bare, wish⟩)
    rw [hs]
    exact held
  refine wpAny_handleBy_nil ?_
  unfold PySem.passOn
  refine wpAny_bind (wpAny_field at_ rec traced ?_)
  rw [if_neg (fun z => by simp at z)]
  first
    | exact wpAny_bind (wpAny_pure (wpAny_bind end_))
    | exact wpAny_bind end_
end
/-- what flies in from the body was not there ahead of it -/
theorem first_seen {X : Cx} {pins : List (Addr × Obj)} {σ : L2.St} {H : Hp} {s : Shared} {B : Heap} {a : Addr} (J : Inv X pins σ H s) (hx : X.ex = []) (ground : ∀ b o, s.heap.get? b = some o → b ∉ frs X.stack → B.get? b = some o) (anew : B.get? a = none) (off : a ∉ frs X.stack) :
    X.s_0.heap.get? a = none ∧ ∀ p ∈ X.pn ++ pins, p.1 ≠ a := by
  have absent : ∀ o, s.heap.get? a ≠ some o := fun o q => nomatch anew.symm.trans (ground a o q off)
  refine ⟨?_, fun p hp z => absent p.2 (z ▸ (J.pin p hp).1)⟩
  cases q : X.s_0.heap.get? a with
  | none => rfl
  | some o =>
    obtain ⟨_, z⟩ := J.base.there a o q (by rw [hx]; exact List.not_mem_nil)
    exact absurd z (absent _)
/-! ### caught = e -/
section
variable {X : Cx} {x n y : Str} {c : Value} {i j : Nat} {body : List Stmt} {np py pn2 pos pos' pos2 : Pos} {tb : WX → TS} {out : WX} {fin : L2.St → Addr → L2.St}
/-- the suite y = n, the exception in slot i: in slot j too, then the clause's name is gone, and the object is known -/
theorem keep_it {a : Addr} {o : Obj} {vs : Array Value} {cls : Value} {d : Option Addr} {pins : List (Addr × Obj)} {σ : L2.St} {H : Hp} {s : Shared} {Q : Flow → Shared → Prop} {E : Value → Shared → Prop} (ok : X.Ok) (hN : X.N.Nodup) (hi : X.N[i]? = some n) (hln : X.env.kindOf n = some .local) (hj : X.N[j]? = some y) (hlj : X.env.kindOf y = some .local)
    (hd1 : (n == ("__debug__" : Str)) = false) (hd2 : (n == ("__classdict__" : Str)) = false) (S : Inv (X.suite a ((a, o) :: (X.pn ++ pins))) [] (σ.set i (some (.ref a))) H s) (kind : Zc cls d o) (rec : o.data = .fields vs) (un : H a = none)
    (new : X.s_0.heap.get? a = none) (nL : a ≠ X.env.locals) (npin : ∀ p ∈ X.pn ++ pins, p.1 ≠ a) (there : i < σ.length)
    (go : ∀ s', Inv X pins ((σ.set i (some (.ref a))).set j (some (.ref a))) (upd H a (ExK cls d a)) s' → Q .next s') :
    wpAny (model X.prog X.w) (X.A.mark (some (.ref a))) (execs [.Assign [.Name y py] (.Name n pn2) pos2] X.env) Q E s := by
  have suite : PSs (X.suite a ((a, o) :: (X.pn ++ pins))) [.Assign [.Name y py] (.Name n pn2) pos2] (tAsg (tVar i) (gName j)) :=
    pss_one (ps_asg (pe_var hi (.inl hln) hd1 hd2) (pg_name hN hj (.inl hlj) (.inr hlj)))
  have read : (σ.set i (some (V.ref a)))[i]? = some (some (.ref a)) := List.getElem?_set_self there
  refine wpAny_mono (suite.run [] s _ H { nx := fun σ' H' => σ' = (σ.set i (some (V.ref a))).set j (some (V.ref a)) ∧ H' = H, rt := fun _ _ => False } S ⟨.ref a, read, rfl, rfl⟩) (fun f s' told => ?_) fun _ _ z => False.elim z
  match f, told with
  | .next, ⟨_, _, S', e1, e2⟩ =>
    subst e1 e2
    have at_ := (S'.pin (a, o) (List.mem_append_left _ (List.mem_cons_self ..))).1
    have J := S'.unsuite ok
    have ncell : ∀ x c, X.env.cells.lookup x = some c → c ≠ a := by
      rintro x c e rfl
      obtain ⟨_, _, is, cel⟩ := J.cell x c e
      cases at_.symm.trans is
      exact nomatch rec.symm.trans cel
    exact go s' (track J un ⟨fun b _ e _ z => (by cases new.symm.trans ((congrArg X.s_0.heap.get? z).symm.trans e)), nL.symm, ncell, npin⟩ ⟨⟨o, vs, at_, kind, rec⟩, ⟨o, at_⟩, fun _ _ ⟨o1, v1, q1, q2⟩ k => ⟨o1, v1, k o1 q1, q2⟩⟩)
  | .brk, ⟨_, _, _, z⟩ => exact z.elim
  | .cont, ⟨_, _, _, z⟩ => exact z.elim
  | .ret _, ⟨_, _, _, _, _, z⟩ => exact z.elim
/-- try: body / except x as n: y = n -/
theorem ps_try_kept (hs : X.stack = X.env :: X.outer) (hf : X.env.frame = some X.env.locals) (hN : X.N.Nodup) (hi : X.N[i]? = some n) (hln : X.env.kindOf n = some .local) (hj : X.N[j]? = some y) (hlj : X.env.kindOf y = some .local) (hc : Names X x c) (hx : X.ex = []) (less : Less X.N.length i j fin) (tk : Takes X out)
    (hb : ∀ (W : WX) (pn : List (Addr × Obj)) (xe : Value → Shared → Prop), Takes (X.tr pn xe) W → PassesOwn (model X.prog X.w) X.A X.env xe → PSs (X.tr pn xe) body (tb W))
    (hd1 : (n == ("__debug__" : Str)) = false := by decide) (hd2 : (n == ("__classdict__" : Str)) = false := by decide) :
    PS X (.Try body [.ExceptHandler (some (.Name x np)) (some n) [.Assign [.Name y py] (.Name n pn2) pos2] pos'] [] [] pos) (fun D σ H => tb (wKept X.K c fin out D) D σ H) := by
  refine ⟨fun pins s σ H D I wish => wpAny_Try_except ?_⟩
  have ok := I.ok
  have run := hb (wKept X.K c fin out D) (X.pn ++ pins) (fun e s1 => wpAny (model X.prog X.w) X.A (noteFrame e X.env) (fun _ s2 => wpAny (model X.prog X.w) X.A (setFlight e none) (fun _ s3 =>
    wpAny (model X.prog X.w) X.A (handleBy e X.env [.ExceptHandler (some (.Name x np)) (some n) [.Assign [.Name y py] (.Name n pn2) pos2] pos']) (SP X pins D) X.xe s3) X.xe s2) X.xe s1) ?caught PassesOwn.looking
  case caught =>
    rintro _ s' ⟨a, B, sI, ps', σ', H', cls, d, rfl, J0, ground, upto, sky, un, os, bare, hit, names, yes, no⟩
    have J : Inv X pins σ' H' sI := Inv.ofTry J0 ok
    rw [show (X.tr (X.pn ++ pins) _).stack = X.env :: X.outer from hs] at sky
    refine Sky.land (s := s') Zc.steady (ok.frames.trans (congrArg some hs)) hf sky fun h3 fl3 up3 => ?_
    obtain ⟨o3, v3, at3, kind3, rec3⟩ := fl3.there
    have off := RecAt.off ⟨at3, rec3⟩ fl3.2.2.1
    obtain ⟨_, _, nL, nF, _⟩ := RecAt.pin (s := { s' with heap := h3 }) ⟨at3, rec3⟩ un hf off
    obtain ⟨new, npin⟩ := first_seen J hx ground fl3.2.1 (by rw [hs]; exact off)
    have S3 := (J.landed (s' := { s' with heap := h3 }) ground fl3.1 (upto.trans up3) os bare).suite at3 rec3 un nL nF
    have isOf := RecAt.ty (prog := X.prog) (w := X.w) (h := h3) ⟨at3, rec3⟩
    rw [kind3.1] at isOf
    refine wpAny_handleBy_cons (codeAny_handlers_test (clause_name hc S3 ((PySem.W.exm_one (M := model X.prog X.w) S3.kIn isOf names).here ?_))) (fun z => nomatch z)
    cases hit with
    | false => exact flies_by (s' := { s' with heap := h3 }) hs hf tk J ground (upto.trans up3) fl3 un os bare (no rfl)
    | true =>
      refine codeAny_handlers_suite_as (HandSPX.lands_againZ fl3 fun h4 fl4 up4 => ?_)
      obtain ⟨o4, v4, at4, kind4, rec4⟩ := fl4.there
      have S4 := (J.landed (s' := { s' with heap := h4 }) ground fl4.1 ((upto.trans up3).trans up4) os bare).suite at4 rec4 un nL nF
      have room : i < σ'.length := J.len ▸ (List.getElem?_eq_some_iff.mp hi).1
      refine store_ok (X := X.suite a ((a, o4) :: (X.pn ++ pins))) (v := .ref a) S4 hN hi (.inl hln) rfl (fun s5 S5 => ?_) (.inr hln)
      refine keep_it ok hN hi hln hj hlj hd1 hd2 S5 kind4 rec4 un new nL npin room fun s6 known => ?_
      obtain ⟨long, less'⟩ := less σ' a J.len
      exact gone_ok known hN hi hln fun s7 J7 => ⟨_, _, J7.weak (by rw [long, ← J.len, List.length_set, List.length_set, List.length_set]) less', yes rfl a un⟩
  refine wpAny_mono (run.run [] s σ H D (I.toTry _) wish) (fun f s1 told => ?_) fun _ _ z => z
  cases f with
  | next => exact wpAny_execs_nil (body_out ok told)
  | _ => exact body_out ok told
end
/-! ### isinstance of such an exception -/
section
variable {X : Cx}
/-- isinstance(e, C), e an exception without a dict of its own -/
def rIsK (K : PySem.W.Frag) : List V → Hp → VK → Prop := fun xs H Q => ∃ (a D : Addr) (c : V) (cv : Value) (b : Bool), xs = [.ref a, c] ∧ H a = some (ExK (.ref D) none a) ∧ ExcC K D ∧ (∀ u, RelV c u → u = cv) ∧ PySem.W.kitOne K (.ref D) cv = some b ∧ Q (.bl b) H
theorem ref_and {a : Addr} {c : V} : ∀ {us : List Value}, Vals [.ref a, c] us → ∃ u, us = [.ref a, u] ∧ RelV c u
  | _, .cons rfl (.cons rc .nil) => ⟨_, rfl, rc⟩
/-- one without a dict of its own, as an instance -/
theorem exK_bare {D a : Addr} {h : Heap} {P : Program} {w : World} (hok : HOk P w H h) (ea : H a = some (ExK (.ref D) none a)) : ∃ ob, PySem.W.InstAt h a ob D none := by
  obtain ⟨⟨_, _, _, _⟩, _, there, ⟨rfl, rfl, _⟩, rfl⟩ := exK_there hok ea
  exact ⟨_, there, rfl, rfl, trivial⟩
theorem call_isK : CallR X (.builtin "isinstance") (rIsK X.K) := by
  rintro pins s σ H _ us Q I r ⟨a, D, c, cv, b, rfl, ea, C, one, told, q⟩
  obtain ⟨u, rfl, ru⟩ := ref_and r
  obtain rfl := one u ru
  obtain ⟨ob, inst⟩ := exK_bare I.hok ea
  have kit := PySem.W.handS_kitx_exc (x := a) (ox := ob) C.hg C.hk C.hs C.hd C.ha C.hn C.ht C.hm
  exact PySem.W.kia_one kit I.kIn inst told (fun z => nomatch z) fun tk => fin_bl (I.tok tk) q rfl
/-- isinstance(x, C), x None or such an exception -/
theorem call_isBoth : CallR X (.builtin "isinstance") (fun xs H Q => rIsi X.K xs H Q ∨ rIsK X.K xs H Q) :=
  fun pins s σ H xs us Q I r h => h.elim (call_isi pins s σ H xs us Q I r) (call_isK pins s σ H xs us Q I r)
end
end Own

set_option Elab.async false
set_option linter.all false
set_option maxRecDepth 100000
set_option maxHeartbeats 4000000
/-! Callees as one thing: a def of the module, a method, a class that is made; those that may raise. -/
namespace Own
open PySem PySem.Spec PyProof.Rows L2
abbrev EF : XK := fun _ _ _ => False
theorem passF {P : Program} {w : World} {X : Cx} : Passes (L2.CX P w) X EF := fun _ _ _ _ _ _ _ c => by
  obtain ⟨_, _, _, _, _, _, _, _, _, _, _, _, z⟩ := c
  exact z.elim
section
variable (P : Program) (w : World) (K : PySem.W.Frag) (mg : Str → Option Value) (base : Heap)
structure CalX (k : Nat) (x : Str) (sp : Sp) : Prop where
  ex : ∃ (f : Addr) (fd : FuncData) (ps : List Str), FnOk P w K mg base (L2.CX P w) k f fd ps sp ∧ mg x = some (.ref f) ∧ PySem.W.keepIn K (.ref f) = true ∧ Binds K fd ps []
structure MetX (k : Nat) (C : Addr) (m : Str) (sp : Sp) : Prop where
  ex : ∃ (f : Addr) (fd : FuncData) (ps : List Str), Cls K C ∧ Meth K C m f ∧ FnOk P w K mg base (L2.CX P w) k f fd ps sp ∧ Binds K fd ps []
structure MakX (k : Nat) (x : Str) (C : Addr) (sp : Sp) : Prop where
  ex : ∃ (f : Addr) (fd : FuncData) (ps : List Str), Mk K C f ∧ FnOk P w K mg base (L2.CX P w) k f fd ps sp ∧ mg x = some (.ref C) ∧ Binds K fd ps []
end
/-- a def that lets nothing out, as one that may -/
theorem lift0 {P : Program} {w : World} {K : PySem.W.Frag} {mg : Str → Option Value} {base : Heap} {k : Nat} {f : Addr} {fd : FuncData} {ps : List Str} {sp : Sp} (F : FnOk P w K mg base CX0 k f fd ps sp) : FnOk P w K mg base (L2.CX P w) k f fd ps sp := by
  refine ⟨F.len, fun A outer s H args us vs Q E hr e0 hb hv h => codeAny_mono (F.run A outer s H args us vs Q E hr e0 hb hv h) fun r s' hq => ?_⟩
  cases r with
  | error e => exact (show False from hq).elim
  | ok fl =>
    cases fl with
    | ret u => exact hq
    | next => exact (show False from hq).elim
    | brk => exact (show False from hq).elim
    | cont => exact (show False from hq).elim
end Own

set_option Elab.async false
set_option linter.all false
set_option maxRecDepth 100000
set_option maxHeartbeats 4000000
/-! Lists of tuples in the heap; numbers as whole numbers of a range. -/
namespace Own
open PySem PySem.Spec PyProof.Rows L2
theorem tyName_int {x : V} {H : Hp} (e : tyName x H = some "int") : ∃ i, x = .int i := by
  have no : ∀ {n : String}, n ≠ "int" → some n = some "int" → False := fun h z => h (Option.some.inj z)
  cases x with
  | int i => exact ⟨i, rfl⟩
  | ref p =>
    simp only [tyName] at e
    split at e
    · exact (no (by decide) e).elim
    · exact (no (by decide) e).elim
    · exact (no (by decide) e).elim
    · exact (no (by decide) e).elim
    · cases e
  | byt y => cases e
  | flt y => cases e
  | ty y => cases e
  | _ => exact (no (by decide) e).elim
/-- is_whole's answer -/
def isW (x : V) (lo hi : Int) : Bool := match x with
  | .int i => decide (lo ≤ i) && decide (i ≤ hi)
  | _ => false
theorem isW_int {x : V} {lo hi : Int} (h : isW x lo hi = true) : ∃ i, x = .int i ∧ lo ≤ i ∧ i ≤ hi := by
  cases x with
  | int i =>
    have z : (decide (lo ≤ i) && decide (i ≤ hi)) = true := h
    rw [Bool.and_eq_true, decide_eq_true_eq, decide_eq_true_eq] at z
    exact ⟨i, rfl, z.1, z.2⟩
  | _ => cases h
theorem isW_nat {x : V} {n : Nat} (h : isW x 0 ((n : Int) - 1) = true) : ∃ i : Nat, x = .int (i : Int) ∧ i < n := by
  obtain ⟨i, rfl, h1, h2⟩ := isW_int h
  refine ⟨i.toNat, ?_, by omega⟩
  rw [Int.toNat_of_nonneg h1]
theorem isW_true {i lo hi : Int} (h1 : lo ≤ i) (h2 : i ≤ hi) : isW (.int i) lo hi = true := by
  show (decide (lo ≤ i) && decide (i ≤ hi)) = true
  rw [decide_eq_true h1, decide_eq_true h2]
  rfl
/-- the values are references to these tuples -/
abbrev Tups (H : Hp) : List V → List (List V) → Prop := Paired fun v xs => ∃ t, v = V.ref t ∧ H t = some (.tup xs)
theorem tups_ext {H H' : Hp} (k : ∀ t xs, H t = some (.tup xs) → H' t = some (.tup xs)) : ∀ {vs : List V} {xss : List (List V)}, Tups H vs xss → Tups H' vs xss
  | _, _, .nil => .nil
  | _, _, .cons ⟨t, e, h⟩ r => .cons ⟨t, e, k t _ h⟩ (tups_ext k r)
theorem tups_snoc {H : Hp} {t : Addr} {xs : List V} (h : H t = some (.tup xs)) : ∀ {vs : List V} {xss : List (List V)}, Tups H vs xss → Tups H (vs ++ [V.ref t]) (xss ++ [xs])
  | _, _, .nil => .cons ⟨t, rfl, h⟩ .nil
  | _, _, .cons r q => .cons r (tups_snoc h q)
theorem tups_get {H : Hp} : ∀ {vs : List V} {xss : List (List V)} {i : Nat} {v : V}, Tups H vs xss → vs[i]? = some v → ∃ t xs, v = V.ref t ∧ xss[i]? = some xs ∧ H t = some (.tup xs)
  | _, _, _, _, .nil, e => by simp at e
  | _, _, 0, _, .cons ⟨t, e, h⟩ _, q => by
    simp at q
    exact ⟨t, _, by rw [← q, e], rfl, h⟩
  | _, _, i + 1, v, .cons _ r, q => by
    obtain ⟨t, xs, h1, h2, h3⟩ := tups_get (i := i) (v := v) r (by simpa using q)
    exact ⟨t, xs, h1, by simpa using h2, h3⟩
theorem tups_len {H : Hp} {vs : List V} {xss : List (List V)} (h : Tups H vs xss) : vs.length = xss.length := Paired.length h
/-- at l a list of these tuples -/
def TL (H : Hp) (l : Addr) (xss : List (List V)) : Prop := ∃ vs, H l = some (.lst vs) ∧ Tups H vs xss
theorem same_new {H : Hp} {p : Addr} {o : HO} (n : H p = none) : Same H (upd H p o) := fun b u e => by
  rw [upd_ne (ne_of_none e n)]
  exact e
theorem upd_none {H : Hp} {p d : Addr} {o : HO} (h : upd H p o d = none) : d ≠ p ∧ H d = none := by
  by_cases e : d = p
  · rw [e, upd_same] at h
    cases h
  · rw [upd_ne e] at h
    exact ⟨e, h⟩
theorem take_snoc {α : Type} : ∀ {l : List α} {i : Nat} {x : α}, l[i]? = some x → l.take (i + 1) = l.take i ++ [x]
  | [], i, x, h => by simp at h
  | a :: l, 0, x, h => by
    simp at h
    simp [h]
  | a :: l, i + 1, x, h => by
    have ih := take_snoc (l := l) (i := i) (x := x) (by simpa using h)
    rw [List.take_succ_cons, ih]
    rfl
/-! ### lookups in written lists of attributes -/
theorem at_here {k : Str} {v : V} {r : List (Str × V)} : List.lookup k ((k, v) :: r) = some v := by
  simp [List.lookup]
theorem at_past {k g : Str} {v : V} {r : List (Str × V)} (h : (k == g) = false) : List.lookup k ((g, v) :: r) = List.lookup k r := by
  simp only [List.lookup, h]
theorem to_here {f : Str} {v x : V} {r : List (Str × V)} : putF f v ((f, x) :: r) = (f, v) :: r := if_pos rfl
theorem to_past {f g : Str} {v x : V} {r : List (Str × V)} (h : ¬ g = f) : putF f v ((g, x) :: r) = (g, x) :: putF f v r := if_neg h
/-! ### ifs over known tests -/
theorem if_yes {c : Bool} {A B : Prop} (hc : c = true) (h : A) : if c = true then A else B := by
  rw [if_pos hc]
  exact h
theorem if_no {c : Bool} {A B : Prop} (hc : c = false) (h : B) : if c = true then A else B := by
  rw [hc, if_neg Bool.false_ne_true]
  exact h
theorem if_both {c : Bool} {A B : Prop} (h1 : c = true → A) (h2 : c = false → B) : if c = true then A else B := by
  cases c with
  | true => exact if_yes rfl (h1 rfl)
  | false => exact if_no rfl (h2 rfl)
/-! ### a town -/
abbrev TRow := Nat × Nat × Nat
def rowV (r : TRow) : List V := [.int (r.1 : Int), .int (r.2.1 : Int), .int (r.2.2 : Int)]
def endV (r : TRow) : List V := [.int (r.2.1 : Int), .int (r.2.2 : Int)]
abbrev Ents (H : Hp) : List (Key × V) → List TRow → Prop := Paired fun kv r => kv.1 = Sum.inl (r.1 : Int) ∧ ∃ t, kv.2 = V.ref t ∧ H t = some (.tup (endV r))
theorem ents_ext {H H' : Hp} (k : ∀ t xs, H t = some (.tup xs) → H' t = some (.tup xs)) : ∀ {kvs : List (Key × V)} {rows : List TRow}, Ents H kvs rows → Ents H' kvs rows
  | _, _, .nil => .nil
  | _, _, .cons ⟨e, t, h1, h2⟩ r => .cons ⟨e, t, h1, k t _ h2⟩ (ents_ext k r)
theorem ents_snoc {H : Hp} {t : Addr} {r : TRow} (h : H t = some (.tup (endV r))) : ∀ {kvs : List (Key × V)} {rows : List TRow}, Ents H kvs rows → Ents H (kvs ++ [(Sum.inl (r.1 : Int), V.ref t)]) (rows ++ [r])
  | _, _, .nil => .cons ⟨rfl, t, rfl, h⟩ .nil
  | _, _, .cons z q => .cons z (ents_snoc h q)
theorem ents_get {H : Hp} : ∀ {kvs : List (Key × V)} {rows : List TRow} {i : Nat} {kv : Key × V}, Ents H kvs rows → kvs[i]? = some kv → ∃ r t, rows[i]? = some r ∧ kv = (Sum.inl (r.1 : Int), V.ref t) ∧ H t = some (.tup (endV r))
  | _, _, _, _, .nil, e => by simp at e
  | (k0, v0) :: _, _, 0, _, .cons ⟨e, t, h1, h2⟩ _, q => by
    simp at q
    refine ⟨_, t, rfl, ?_, h2⟩
    have e1 : k0 = _ := e
    have e2 : v0 = _ := h1
    rw [← q, e1, e2]
  | _, _, i + 1, v, .cons _ r, q => by
    obtain ⟨a, t, h1, h2, h3⟩ := ents_get (i := i) (kv := v) r (by simpa using q)
    exact ⟨a, t, by simpa using h1, h2, h3⟩
theorem ents_drop {H : Hp} (k : Nat) : ∀ {kvs : List (Key × V)} {rows : List TRow}, Ents H kvs rows → Ents H (dropK kvs (Sum.inl (k : Int))) (rows.filter fun r => decide (r.1 ≠ k))
  | _, _, .nil => .nil
  | kv :: kvs, r :: rows, .cons z q => by
    obtain ⟨e, t, h1, h2⟩ := id z
    have ih := ents_drop k q
    by_cases h : r.1 = k
    · rw [dropK_pos (by rw [e, h])]
      simp only [List.filter_cons, h]
      simpa using ih
    · have ne : ¬ kv.1 = Sum.inl (k : Int) := by
        rw [e]
        intro y
        exact h (Int.ofNat.inj (Sum.inl.inj y))
      rw [dropK_neg ne]
      simp only [List.filter_cons]
      rw [if_pos (by simpa using h)]
      exact .cons z ih
theorem ents_has {H : Hp} (k : Nat) : ∀ {kvs : List (Key × V)} {rows : List TRow}, Ents H kvs rows → (valV kvs (Sum.inl (k : Int) : Key)).isSome = decide (k ∈ rows.map (·.1))
  | _, _, .nil => by simp [valV_nil]
  | kv :: kvs, r :: rows, .cons z q => by
    obtain ⟨e, t, h1, h2⟩ := id z
    by_cases h : r.1 = k
    · rw [valV_pos (by rw [e, h])]
      simp [h]
    · have ne : ¬ kv.1 = Sum.inl (k : Int) := by
        rw [e]
        intro y
        exact h (Int.ofNat.inj (Sum.inl.inj y))
      rw [valV_neg ne, ents_has k q]
      have h' : ¬ k = r.1 := fun y => h y.symm
      simp [h']
theorem ents_len {H : Hp} {kvs : List (Key × V)} {rows : List TRow} (h : Ents H kvs rows) : kvs.length = rows.length := Paired.length h
def tF (m : Nat) (d : Addr) (n : Nat) : List (Str × V) := [("_many", .int (m : Int)), ("_ends", .ref d), ("_built", .int (n : Int))]
theorem tF_many (m : Nat) (d : Addr) (n : Nat) : (tF m d n).lookup ("_many" : Str) = some (.int (m : Int)) := at_here
theorem tF_ends (m : Nat) (d : Addr) (n : Nat) : (tF m d n).lookup ("_ends" : Str) = some (.ref d) := (at_past (by decide +kernel)).trans at_here
theorem tF_built (m : Nat) (d : Addr) (n : Nat) : (tF m d n).lookup ("_built" : Str) = some (.int (n : Int)) := (at_past (by decide +kernel)).trans ((at_past (by decide +kernel)).trans at_here)
theorem tF_no (m : Nat) (d : Addr) (n : Nat) {x : Str} (h1 : (x == ("_many" : Str)) = false) (h2 : (x == ("_ends" : Str)) = false) (h3 : (x == ("_built" : Str)) = false) : (tF m d n).lookup x = none :=
  (at_past h1).trans ((at_past h2).trans ((at_past h3).trans rfl))
theorem tF_put (m : Nat) (d : Addr) (n k : Nat) : putF "_built" (.int (k : Int)) (tF m d n) = tF m d k :=
  (to_past (by decide +kernel)).trans (congrArg _ ((to_past (by decide +kernel)).trans (congrArg _ to_here)))
theorem tF_new (m : Nat) (d : Addr) : putF "_built" (.int 0) (putF "_ends" (.ref d) (putF "_many" (.int (m : Int)) [])) = tF m d 0 := by
  have e : putF "_ends" (V.ref d) (putF "_many" (.int (m : Int)) []) = [(("_many" : Str), V.int (m : Int)), (("_ends" : Str), V.ref d)] := (to_past (by decide +kernel)).trans rfl
  rw [e]
  exact (to_past (by decide +kernel)).trans (congrArg _ ((to_past (by decide +kernel)).trans rfl))
/-- the streets of a town: numbers rise, below the next one; ends are two unlike places -/
structure RowsOk (m : Nat) (rows : List TRow) (n : Nat) : Prop where
  rise : rows.Pairwise fun a b => a.1 < b.1
  below : ∀ r ∈ rows, r.1 < n
  ends : ∀ r ∈ rows, r.2.1 < m ∧ r.2.2 < m ∧ r.2.1 ≠ r.2.2
  few : rows.length ≤ 60
theorem RowsOk.snoc {m n a b : Nat} {rows : List TRow} (R : RowsOk m rows n) (h : rows.length < 60) (ha : a < m) (hb : b < m) (ne : a ≠ b) : RowsOk m (rows ++ [(n, a, b)]) (n + 1) where
  rise := by
    rw [List.pairwise_append]
    refine ⟨R.rise, List.pairwise_singleton _ _, fun x hx y hy => ?_⟩
    rw [List.mem_singleton] at hy
    rw [hy]
    exact R.below x hx
  below := fun r hr => by
    rcases List.mem_append.mp hr with z | z
    · have := R.below r z
      omega
    · rw [List.mem_singleton] at z
      rw [z]
      exact Nat.lt_succ_self n
  ends := fun r hr => by
    rcases List.mem_append.mp hr with z | z
    · exact R.ends r z
    · rw [List.mem_singleton] at z
      rw [z]
      exact ⟨ha, hb, ne⟩
  few := by
    rw [List.length_append]
    exact h
theorem RowsOk.drop {m n : Nat} {rows : List TRow} (R : RowsOk m rows n) (p : TRow → Bool) : RowsOk m (rows.filter p) n where
  rise := R.rise.filter _
  below := fun r hr => R.below r (List.mem_filter.mp hr).1
  ends := fun r hr => R.ends r (List.mem_filter.mp hr).1
  few := Nat.le_trans (List.length_filter_le _ _) R.few
/-- the town at p, its dict at d -/
structure TownAt (C : Addr) (H : Hp) (p d : Addr) (m : Nat) (rows : List TRow) (n : Nat) : Prop where
  ob : ∃ dx, H p = some (.ins C dx (tF m d n))
  dc : ∃ kvs, H d = some (.dK kvs) ∧ Ents H kvs rows
  ok : RowsOk m rows n
  pm : 1 ≤ m ∧ m ≤ 16
theorem TownAt.pd {C : Addr} {H : Hp} {p d : Addr} {m : Nat} {rows : List TRow} {n : Nat} (T : TownAt C H p d m rows n) : p ≠ d := by
  obtain ⟨dx, h1⟩ := T.ob
  obtain ⟨kvs, h2, _⟩ := T.dc
  exact ne_of h1 h2 (by intro z; cases z)
theorem TownAt.same {C : Addr} {H H' : Hp} {p d : Addr} {m : Nat} {rows : List TRow} {n : Nat} (T : TownAt C H p d m rows n) (s : Same H H') : TownAt C H' p d m rows n := by
  obtain ⟨dx, h1⟩ := T.ob
  obtain ⟨kvs, h2, h3⟩ := T.dc
  exact ⟨⟨dx, s _ _ h1⟩, ⟨kvs, s _ _ h2, ents_ext (fun t xs e => s _ _ e) h3⟩, T.ok, T.pm⟩
/-- all but the town's own two objects stands -/
def Keeps (H H' : Hp) (p d : Addr) : Prop := ∀ c o, H c = some o → c ≠ p → c ≠ d → H' c = some o
theorem keeps_tups {C : Addr} {H H' : Hp} {p d : Addr} {m : Nat} {rows : List TRow} {n : Nat} (T : TownAt C H p d m rows n) (k : Keeps H H' p d) : ∀ t xs, H t = some (.tup xs) → H' t = some (.tup xs) := by
  obtain ⟨dx, h1⟩ := T.ob
  obtain ⟨kvs, h2, _⟩ := T.dc
  intro t xs e
  refine k t _ e (fun z => ?_) fun z => ?_
  · rw [z, h1] at e
    cases e
  · rw [z, h2] at e
    cases e
theorem RowsOk.back {m n : Nat} {rows : List TRow} (R : RowsOk m rows n) (a b : Nat) : ((rows ++ [(n, a, b)]).filter fun r => decide (r.1 ≠ n)) = rows := by
  rw [List.filter_append]
  have e1 : (rows.filter fun r => decide (r.1 ≠ n)) = rows := List.filter_eq_self.mpr fun r hr => by
    have := R.below r hr
    rw [decide_eq_true_eq]
    omega
  rw [e1]
  simp
theorem RowsOk.mono {m n k : Nat} {rows : List TRow} (R : RowsOk m rows n) (h : n ≤ k) : RowsOk m rows k :=
  ⟨R.rise, fun r hr => Nat.lt_of_lt_of_le (R.below r hr) h, R.ends, R.few⟩
theorem same_over {H Hz : Hp} {l : Addr} {o : HO} (n : H l = none) (s : Same H Hz) : Same H (upd Hz l o) := fun c u e => by
  rw [upd_ne (ne_of_none e n)]
  exact s c u e
theorem tups_over {Hz : Hp} {l : Addr} {o : HO} {xs : List V} {vs : List V} {xss : List (List V)} (a : Hz l = some (.lst xs)) (u : Tups Hz vs xss) : Tups (upd Hz l o) vs xss := tups_ext (fun t ys e => by
  rw [upd_ne (fun z => by rw [z, a] at e; cases e)]
  exact e) u
end Own

set_option Elab.async false
set_option linter.all false
set_option maxRecDepth 100000
set_option maxHeartbeats 4000000
/-! Sizes of numbers, remainders, the law helpers' facts that speak of no program. -/
namespace Own
open PySem PySem.Spec PyProof.Rows L2
/-- a whole number that the machine multiplies without a thought -/
def Fit (c : Int) : Prop := c.natAbs.log2 < 2000000
theorem fit_small {c : Int} (h : c.natAbs < 2 ^ 64) : Fit c := by
  unfold Fit
  by_cases e : c.natAbs = 0
  · rw [e]
    decide
  · have z := (Nat.log2_lt e).mpr h
    omega
theorem fit_range {c : Int} (h1 : 0 ≤ c) (h2 : c < 18446744073709551616) : Fit c := fit_small (by omega)
theorem fit_bits {c : Int} (h : Builtin.Int.intBits c ≤ 1048576) : Fit c := by
  unfold Fit
  have z : c.natAbs.log2 ≤ Builtin.Int.intBits c := by
    unfold Builtin.Int.intBits
    split
    · rename_i e
      simp_all
    · omega
  omega
theorem mul_fit {i j : Int} (hi : Fit i) (hj : Fit j) : CMulG i j := by
  unfold CMulG
  unfold Fit at hi hj
  omega
theorem emod_lt {i m : Int} (h : 0 < m) : 0 ≤ i % m ∧ i % m < m := ⟨Int.emod_nonneg i (by omega), Int.emod_lt_of_pos i h⟩
theorem nat_of {i : Int} (h : 0 ≤ i) : ∃ n : Nat, i = (n : Int) := ⟨i.toNat, (Int.toNat_of_nonneg h).symm⟩
/-- an item of a list at a remainder -/
theorem at_mod {α : Type} {xs : List α} {i : Int} (h : xs ≠ []) : ∃ v, atI xs (i % (xs.length : Int)) = some v ∧ v ∈ xs := by
  have hl : 0 < xs.length := List.length_pos_iff.mpr h
  obtain ⟨h1, h2⟩ := emod_lt (i := i) (m := (xs.length : Int)) (by omega)
  obtain ⟨j, hj⟩ := nat_of h1
  have lt : j < xs.length := by omega
  refine ⟨xs[j], ?_, List.getElem_mem lt⟩
  rw [hj]
  exact atI_nat (List.getElem?_eq_getElem lt)
theorem at_lt {α : Type} {xs : List α} {i : Int} (h1 : 0 ≤ i) (h2 : i < (xs.length : Int)) : ∃ v, atI xs i = some v ∧ v ∈ xs := by
  obtain ⟨j, hj⟩ := nat_of h1
  have lt : j < xs.length := by omega
  refine ⟨xs[j], ?_, List.getElem_mem lt⟩
  rw [hj]
  exact atI_nat (List.getElem?_eq_getElem lt)
abbrev Pair := Nat × Nat
def pairV (p : Pair) : List V := [.int (p.1 : Int), .int (p.2 : Int)]
/-- two unlike places of a town of m -/
def PairOk (m : Nat) (p : Pair) : Prop := p.1 < m ∧ p.2 < m ∧ p.1 ≠ p.2
theorem step_ends {m : Nat} {one num : Int} (hm : 2 ≤ m) (h1 : 0 ≤ one) (h2 : one < m) : 0 ≤ (one + 1 + num % ((m : Int) - 1)) % m ∧ (one + 1 + num % ((m : Int) - 1)) % m < m ∧ (one + 1 + num % ((m : Int) - 1)) % m ≠ one := by
  obtain ⟨a1, a2⟩ := emod_lt (i := num) (m := (m : Int) - 1) (by omega)
  generalize num % ((m : Int) - 1) = q at *
  obtain ⟨b1, b2⟩ := emod_lt (i := one + 1 + q) (m := (m : Int)) (by omega)
  refine ⟨b1, b2, ?_⟩
  by_cases h : one + 1 + q < m
  · rw [Int.emod_eq_of_lt (by omega) h]
    omega
  · have e : (one + 1 + q) % (m : Int) = (one + 1 + q - m) % (m : Int) := (Int.sub_emod_right _ _).symm
    rw [e, Int.emod_eq_of_lt (by omega) (by omega)]
    omega
/-- the items taken so far of a list of whole numbers -/
theorem int_item {ns : List Int} {i : Nat} {y : V} (h : (ns.map V.int)[i]? = some y) : ∃ z, ns[i]? = some z ∧ y = V.int z := by
  rw [List.getElem?_map] at h
  cases e : ns[i]? with
  | none =>
    rw [e] at h
    cases h
  | some z =>
    rw [e] at h
    exact ⟨z, rfl, (Option.some.inj h).symm⟩
end Own
namespace Own
open PySem PySem.Spec PyProof.Rows L2
theorem pair_nat {i j : Int} (hi : 0 ≤ i) (hj : 0 ≤ j) : pairV (i.toNat, j.toNat) = [V.int i, V.int j] := by
  show [V.int ((i.toNat : Nat) : Int), V.int ((j.toNat : Nat) : Int)] = [V.int i, V.int j]
  rw [Int.toNat_of_nonneg hi, Int.toNat_of_nonneg hj]
theorem pair_ok {m : Nat} {i j : Int} (h1 : 0 ≤ i) (h2 : i < m) (h3 : 0 ≤ j) (h4 : j < m) (ne : i ≠ j) : PairOk m (i.toNat, j.toNat) := by
  refine ⟨?_, ?_, ?_⟩
  · show i.toNat < m
    omega
  · show j.toNat < m
    omega
  · show i.toNat ≠ j.toNat
    omega
theorem dp_ints {K : PySem.W.Frag} {H : Hp} : ∀ ns : List Int, DpAll K H (ns.map V.int) (ns.map PyData.int)
  | [] => .nil
  | n :: ns => .cons (.int n) (dp_ints ns)
theorem eqv_nil_nil : PyData.eqv (.list []) (.list []) = true := by simp [PyData.eqv, PyData.eqvAll]
theorem eqv_cons_nil (d : PyData) (ds : List PyData) : PyData.eqv (.list (d :: ds)) (.list []) = false := by simp [PyData.eqv, PyData.eqvAll]
/-- what may be laid, n deep -/
def Lay (n : Nat) (d : PyData) : Prop := d.canLay0 = true ∧ d.depth ≤ n
theorem lay_int (i : Int) : Lay 0 (.int i) := ⟨by simp only [PyData.canLay0], by simp only [PyData.depth]; exact Nat.le_refl _⟩
theorem lay_all {n : Nat} : ∀ {ds : List PyData}, (∀ d ∈ ds, Lay n d) → PyData.canLayAll0 ds = true ∧ PyData.depthAll ds ≤ n
  | [], _ => ⟨by simp only [PyData.canLayAll0], by simp only [PyData.depthAll]; exact Nat.zero_le _⟩
  | d :: ds, h => by
    obtain ⟨h1, h2⟩ := lay_all (ds := ds) fun e he => h e (List.mem_cons_of_mem _ he)
    obtain ⟨h3, h4⟩ := h d List.mem_cons_self
    refine ⟨?_, ?_⟩
    · simp only [PyData.canLayAll0, h1, h3, Bool.and_self]
    · simp only [PyData.depthAll]
      exact Nat.max_le.mpr ⟨h4, h2⟩
theorem lay_list {n : Nat} {ds : List PyData} (h : ∀ d ∈ ds, Lay n d) : Lay (n + 1) (.list ds) := by
  obtain ⟨h1, h2⟩ := lay_all h
  exact ⟨by simp only [PyData.canLay0, h1], by simp only [PyData.depth]; omega⟩
theorem lay_tup {n : Nat} {ds : List PyData} (h : ∀ d ∈ ds, Lay n d) : Lay (n + 1) (.tuple ds) := by
  obtain ⟨h1, h2⟩ := lay_all h
  exact ⟨by simp only [PyData.canLay0, h1], by simp only [PyData.depth]; omega⟩
theorem Lay.shaped {n : Nat} {d : PyData} (h : Lay n d) (hn : n ≤ 64) : SeqAt.shaped d = true := by
  unfold SeqAt.shaped
  rw [h.1, Bool.true_and, decide_eq_true_eq]
  exact Nat.le_trans h.2 hn
theorem lay_ints (ns : List Int) : Lay 1 (.list (ns.map PyData.int)) := lay_list fun d hd => by
  obtain ⟨i, _, rfl⟩ := List.mem_map.mp hd
  exact lay_int i
theorem Lay.eqv {n : Nat} {d : PyData} (h : Lay n d) : PyData.eqv d d = true := SeqAt.eqv_refl d h.1
theorem cut_take (xs : List V) (c : Nat) : cutV xs none (some (c : Int)) = xs.take c := by
  unfold cutV
  rw [HT.sIx_none, HT.sIx_nat, Nat.sub_zero, List.drop_zero]
  by_cases h : c ≤ xs.length
  · rw [Nat.min_eq_left h]
  · rw [Nat.min_eq_right (by omega), List.take_of_length_le (Nat.le_refl _), List.take_of_length_le (by omega)]
theorem at_end {α : Type} {l : List α} {v : α} (h : l[l.length - 1]? = some v) : atI l (-1) = some v := by
  rw [← List.getLast?_eq_getElem?, List.getLast?_eq_some_iff] at h
  obtain ⟨ys, rfl⟩ := h
  exact atI_last ys v
end Own

set_option Elab.async false
set_option linter.all false
set_option maxRecDepth 100000
set_option maxHeartbeats 4000000
/-! Defs that make lambdas: the def's own code object and its table. -/
namespace Own
open PySem PySem.Spec PyProof.Rows L2
theorem fn_lam {P : Program} {w : World} {K : PySem.W.Frag} {mg : Str → Option Value} {base : Heap} {x qual : Str} {params : Arguments} {body : List Stmt} {scope : Scope} {fd : FuncData} {N ps : List Str} {k : Nat} {sp : Sp} {p : Str × Option Str}
    (F : FunD K x qual params body scope [] [] (He.fAd K p) fd) (S : FnScope N ps scope) (len : ∀ vs H Q E, sp vs H Q E → vs.length = ps.length)
    (hbody : ∀ (A : Around) (outer : List Env) (s : Shared) (H : Hp) (vs : List V) (Q : VK) (E : XK), Room k (A.deeper (envOfC qual scope s.heap.objs.size (He.fAd K p) (.ref (He.codeOf K p)))) → sp vs H Q E →
      ∃ t, PSs (cxOf (L2.CX P w) P w K mg base N qual scope (He.fAd K p) (.ref (He.codeOf K p)) A outer s H E) body t ∧ t { nx := fun _ H' => Q .non H', rt := Q } (start N vs) H) : FnOk P w K mg base (L2.CX P w) (k + 1) (He.fAd K p) fd ps sp := by
  obtain ⟨oc, od, dV, kV, doc, pm, an, cdv, ct, osl, rfl, lk, hcd, _, _⟩ := F.ex
  obtain ⟨c, rfl⟩ := He.codeIn_ref hcd
  have ec : He.codeOf K p = c := He.codeOf_eq lk rfl
  refine fn_of lk hcd S len fun A outer s H vs Q E hr hsp => ?_
  have z := hbody A outer s H vs Q E
  rw [ec] at z
  exact z hr hsp
/-- a lambda without parameters takes no arguments -/
abbrev LamBinds (params : Arguments) (body : Expr) (scope : Scope) : Prop := ∀ q cl pm cv ctv, bindArgs (PySem.W.kla_fn "<lambda>" q params body scope cl pm cv ctv) ⟨[], []⟩ = pure []
/-- a def's promise with its tables' heap: all but the tables stays, the tables are known -/
abbrev ExtT (T : List (Addr × Str)) (H H' : Hp) : Prop := LamX.ExtN H H' ∧ LamX.Tabs T H'
theorem ext_same {T : List (Addr × Str)} {H H' : Hp} (t : LamX.Tabs T H) (s : Same H H') : ExtT T H H' := ⟨LamX.ExtN.of s, t.ext s⟩
theorem ext_trans {T : List (Addr × Str)} {H H1 H2 : Hp} (a : LamX.ExtN H H1) (b : ExtT T H1 H2) : ExtT T H H2 := ⟨a.trans b.1, b.2⟩
theorem TownAt.ext {C : Addr} {H H' : Hp} {p d : Addr} {m : Nat} {rows : List TRow} {n : Nat} (T : TownAt C H p d m rows n) (s : LamX.ExtN H H') : TownAt C H' p d m rows n := by
  obtain ⟨dx, h1⟩ := T.ob
  obtain ⟨kvs, h2, h3⟩ := T.dc
  exact ⟨⟨dx, s _ _ h1 (fun _ z => by cases z)⟩, ⟨kvs, s _ _ h2 (fun _ z => by cases z), ents_ext (fun t xs e => s _ _ e (fun _ z => by cases z)) h3⟩, T.ok, T.pm⟩
theorem lst_ext {H H' : Hp} {l : Addr} {xs : List V} (h : H l = some (.lst xs)) (s : LamX.ExtN H H') : H' l = some (.lst xs) := s _ _ h (fun _ z => by cases z)
theorem tl_ext {H H' : Hp} {l : Addr} {xss : List (List V)} (h : TL H l xss) (s : LamX.ExtN H H') : TL H' l xss := by
  obtain ⟨vs, h1, h2⟩ := h
  exact ⟨vs, lst_ext h1 s, tups_ext (fun t xs e => s _ _ e (fun _ z => by cases z)) h2⟩
theorem sql_ext {K : PySem.W.Frag} {H H' : Hp} {l : Addr} {xs : List V} (h : SqL K H l xs) (s : LamX.ExtN H H') : SqL K H' l xs := by
  rcases h with (h | ⟨o, h⟩) | h
  · exact .inl (.inl (s _ _ h (fun _ z => by cases z)))
  · exact .inl (.inr ⟨o, s _ _ h (fun _ z => by cases z)⟩)
  · exact .inr h
theorem lam_none {X : Cx} : defaultsOf ({ posonlyargs := [], args := [], vararg := none, kwonlyargs := [], kw_defaults := [], kwarg := none, defaults := [] } : Arguments) X.env = ([], []) := by rfl
theorem ty_ext {H H' : Hp} {v : V} (s : LamX.ExtN H H') (h : ∃ n, tyName v H = some n) : ∃ n, tyName v H' = some n := by
  obtain ⟨n, e⟩ := h
  refine ⟨n, ?_⟩
  cases v with
  | ref p =>
    simp only [tyName] at e ⊢
    cases there : H p with
    | none => simp [there] at e
    | some o =>
      have stays := s p o there fun ps z => by simp [there, z] at e
      rw [stays, ← there]
      exact e
  | _ => exact e
theorem tabs_keeps {C : Addr} {T : List (Addr × Str)} {H H' : Hp} {p d : Addr} {m : Nat} {rows : List TRow} {n : Nat} (W : TownAt C H p d m rows n) (k : Keeps H H' p d) (t : LamX.Tabs T H) : LamX.Tabs T H' := by
  obtain ⟨dx, h1⟩ := W.ob
  obtain ⟨kvs, h2, _⟩ := W.dc
  intro q hq
  obtain ⟨ps, e1, e2, e3⟩ := t q hq
  refine ⟨ps, k _ _ e1 (fun z => ?_) (fun z => ?_), e2, fun pos cv hc => ?_⟩
  · rw [z, h1] at e1
    cases e1
  · rw [z, h2] at e1
    cases e1
  · obtain ⟨c, f1, f2⟩ := e3 pos cv hc
    refine ⟨c, f1, k _ _ f2 (fun z => ?_) (fun z => ?_)⟩
    · rw [z, h1] at f2
      unfold LamX.CodeO at f2
      cases f2
    · rw [z, h2] at f2
      unfold LamX.CodeO at f2
      cases f2
def rowD (r : TRow) : PyData := .tuple [.int (r.1 : Int), .int (r.2.1 : Int), .int (r.2.2 : Int)]
theorem dp_rows {K : PySem.W.Frag} {H : Hp} : ∀ {vs : List V} {rows : List TRow}, Tups H vs (rows.map rowV) → DpAll K H vs (rows.map rowD)
  | [], [], _ => .nil
  | _ :: _, [], h => by cases h
  | [], _ :: _, h => by cases h
  | v :: vs, r :: rows, .cons ⟨t, e, h⟩ q => by
    rw [e]
    exact .cons (.tup (SqT.of h) (.cons (.int _) (.cons (.int _) (.cons (.int _) .nil)))) (dp_rows q)
theorem lay_rows (rows : List TRow) : Lay 2 (.list (rows.map rowD)) := lay_list fun d hd => by
  obtain ⟨r, _, rfl⟩ := List.mem_map.mp hd
  refine lay_tup fun e he => ?_
  simp only [List.mem_cons, List.not_mem_nil, or_false] at he
  rcases he with h | h | h <;> rw [h] <;> exact lay_int _
/-- two lists of the same rows compared -/
theorem dp_town {K : PySem.W.Frag} {H : Hp} {l : Addr} {rows : List TRow} (h : TL H l (rows.map rowV)) : Dp K H (.ref l) (.list (rows.map rowD)) := by
  obtain ⟨vs, h1, h2⟩ := h
  exact .lst (SqL.of h1) (dp_rows h2)
theorem tl_same {H H' : Hp} {l : Addr} {xss : List (List V)} (h : TL H l xss) (s : Same H H') : TL H' l xss := by
  obtain ⟨vs, h1, h2⟩ := h
  exact ⟨vs, s _ _ h1, tups_ext (fun t xs e => s _ _ e) h2⟩
theorem tl_keeps {C : Addr} {H H' : Hp} {p d l : Addr} {m : Nat} {rows : List TRow} {n : Nat} {xss : List (List V)} (W : TownAt C H p d m rows n) (k : Keeps H H' p d) (h : TL H l xss) : TL H' l xss := by
  obtain ⟨vs, h1, h2⟩ := h
  obtain ⟨dx, e1⟩ := W.ob
  obtain ⟨kvs, e2, _⟩ := W.dc
  exact ⟨vs, k _ _ h1 (ne_of h1 e1 (by intro z; cases z)) (ne_of h1 e2 (by intro z; cases z)), tups_ext (keeps_tups W k) h2⟩
end Own

set_option Elab.async false
set_option linter.all false
set_option maxRecDepth 100000
set_option maxHeartbeats 4000000
/-! An own error with its dict, kept as a value: made, and its attributes read. -/
namespace Own
open PySem PySem.Spec PyProof.Rows L2
/-- at p a list of references to these lists -/
abbrev Lsts (H : Hp) : List V → List (List V) → Prop := Paired fun v xs => ∃ t, v = V.ref t ∧ H t = some (.lst xs)
theorem lsts_ext {H H' : Hp} (k : ∀ t xs, H t = some (.lst xs) → H' t = some (.lst xs)) : ∀ {vs : List V} {xss : List (List V)}, Lsts H vs xss → Lsts H' vs xss
  | _, _, .nil => .nil
  | _, _, .cons ⟨t, e, h⟩ r => .cons ⟨t, e, k t _ h⟩ (lsts_ext k r)
theorem lsts_snoc {H : Hp} {t : Addr} {xs : List V} (h : H t = some (.lst xs)) : ∀ {vs : List V} {xss : List (List V)}, Lsts H vs xss → Lsts H (vs ++ [V.ref t]) (xss ++ [xs])
  | _, _, .nil => .cons ⟨t, rfl, h⟩ .nil
  | _, _, .cons r q => .cons r (lsts_snoc h q)
theorem lsts_get {H : Hp} : ∀ {vs : List V} {xss : List (List V)} {i : Nat}, Lsts H vs xss → i < vs.length → ∃ t xs, vs[i]? = some (V.ref t) ∧ xss[i]? = some xs ∧ H t = some (.lst xs)
  | _, _, _, .nil, e => by simp at e
  | _, _, 0, .cons ⟨t, e, h⟩ _, q => ⟨t, _, by rw [e]; rfl, rfl, h⟩
  | _, _, i + 1, .cons _ r, q => by
    obtain ⟨t, xs, h1, h2, h3⟩ := lsts_get (i := i) r (by simpa using q)
    exact ⟨t, xs, by simpa using h1, by simpa using h2, h3⟩
section
variable {X : Cx} {e : Expr} {es : List Expr} {te : TE} {ta : TA} {n x : Str} {p pos : Pos} {C fI : Addr} {k : Nat} {fd : FuncData} {ps : List Str} {sp : Sp} {CX : CXT}
/-- such an error's attribute -/
theorem pe_exf (he : PE X e te) (hb : attributeBase e n X.env (eval e X.env) = eval e X.env := by rfl) :
    PE X (.Attribute e n pos) (fun σ H Q => te σ H fun x H1 => ∃ (a C d : Addr) (fs : List (Str × V)) (v : V), x = .ref a ∧ XfC X.K C ∧ PySem.W.findIn X.K (.ref C) n = some none ∧ H1 a = some (exo a C (some d)) ∧ H1 d = some (exd d fs) ∧ fs.lookup n = some v ∧ Q v H1) := by
  refine ⟨fun pins s σ H Q I wish => attr_of hb (thn (he.run pins s σ H _ I wish) ?_)⟩
  rintro _ s1 ⟨_, H1, I1, here, a, C, d, fs, v, rfl, T, noIn, ea, ed, found, q⟩
  cases here
  obtain ⟨_, at_⟩ := exo_at I1.hok ea
  obtain ⟨mA, ns, rel⟩ := exd_at I1.hok ed
  obtain ⟨od, dict, look⟩ := lookIn_ns ns
  have of := rel n
  rw [found] at of
  obtain ⟨u, there, ru⟩ := RelO.some_of of
  have inst : PySem.W.InstAt s1.heap a _ C (some od) := ⟨at_, rfl, rfl, dict⟩
  have own := PySem.W.findObj_own T.hdC noIn rfl ((look n).trans (congrArg some there))
  exact HandSPX.exc_get I1.kIn inst T.ga T.gg T.exC own (handed_of ru) ⟨v, H1, I1.tok _, ru, q⟩
/-! ### C(e, ..) as a value -/
/-- the heap in which C's __init__ begins: the arguments' tuple, and the exception behind it -/
def excHeap (h : Heap) (C : Addr) (us : List Value) : Heap := (h.push (PySem.W.kdv_tup us)).push (PySem.HandSPX.excO C h.objs.size)
theorem exc_made {pins : List (Addr × Obj)} {σ : L2.St} {H : Hp} {s : Shared} (C : Addr) (us : List Value) (I : Inv X pins σ H s) : H (s.heap.objs.size + 1) = none ∧ Inv X pins σ (upd H (s.heap.objs.size + 1) (exo (s.heap.objs.size + 1) C none)) { s with heap := excHeap s.heap C us } := by
  have behind : s.heap.objs.size ≤ s.heap.objs.size + 1 := by omega
  have there : (excHeap s.heap C us).get? (s.heap.objs.size + 1) = some (PySem.HandSPX.excO C s.heap.objs.size) := by
    unfold excHeap
    heap_get
  exact ⟨I.hok.fresh behind, I.laid (t' := s.toks) (h' := excHeap s.heap C us) (fun b o q => Heap.get?_push_of_some _ (Heap.get?_push_of_some _ q)) behind (exo_ok there)⟩
/-- C's own __init__ keeping sp -/
theorem pe_mkO (T : OexC X.K C) (iC : PySem.W.findIn X.K (.ref C) "__init__" = some (some (.ref fI))) (tI : PySem.W.typeIn X.K (.ref fI) = some (.type "function"))
    (F1 : FnOk X.prog X.w X.K X.mg X.base CX k fI fd ps sp) (hr : Room (k + 1) X.A) (hb : Binds X.K fd ps []) (hx : Passes CX X (fun _ _ _ => False)) (hg : Gl X x) (hm : X.mg x = some (.ref C)) (ha : PA X (e :: es) ta)
    (hdb : (x == ("__debug__" : Str)) = false := by decide) (he : starEach (e :: es) X.env = (false, eval e X.env) :: starEach es X.env := by rfl) (hpl : (backTo pos (starEach es X.env)).any (·.1) = false := by rfl) :
    PE X (.Call (.Name x p) (e :: es) [] pos) (fun σ H Q => ta σ H fun vs H1 => vs.length ≤ 1000 ∧ ∀ a, H1 a = none → sp (.ref a :: vs) (upd H1 a (exo a C none)) (fun v H2 => v = .non ∧ Q (.ref a) H2) (fun _ _ _ => False)) := by
  refine ⟨fun pins s σ H Q I wish => wpAny_Call_Name_kw (ld_glob I hg hm (PySem.W.callWith_K (h₀ := X.base) I.ok.mod.kin T.kC (thn (ha.run pos pins s σ H _ I wish) ?_) he hpl) hdb)⟩
  rintro us s1 ⟨vs, H1, I1, rel, few, go⟩
  refine ⟨I1.kIn, ?_⟩
  obtain ⟨new, I2⟩ := exc_made C us I1
  have want := go _ new
  have all : Vals (V.ref (s1.heap.objs.size + 1) :: vs) (Value.ref (s1.heap.objs.size + 1) :: us) := .cons rfl rel
  have binds := hb _ (Value.ref (s1.heap.objs.size + 1) :: us) I2.kIn (by rw [List.append_nil, ← F1.len _ _ _ _ want]; exact all.length.symm)
  rw [List.append_nil] at binds
  have small : us.length ≤ sizeLine := by
    have z := rel.length
    rw [sizeLine_eq]
    omega
  have init := F1.run _ X.stack _ _ ⟨Value.ref (s1.heap.objs.size + 1) :: us, []⟩ _ _ _ (fun _ _ _ => False) (hr.make C us []) (I2.env0.make C us []) binds all want
  obtain ⟨_, _, _, _, _, _, _, _, _, _, _, _, _, _, _, isC, base⟩ := T.cls
  refine wpAny_call (PySem.HandSPX.call_own F.excBase_ValueError (fun Y => PySem.HandSPX.refsVE_contains Y _ base) (I1.kIn _ _ isC) (PySem.W.looks_findIn I1.kIn iC) (fun self => PySem.W.bind_fn I1.kIn self tI) small (codeAny_mono init fun r s' out => ?_))
  match r, out with
  | .error _, out => exact hx pins σ _ _ _ s' I2 out
  | .ok (.ret _), out =>
    obtain ⟨_, H2, J, rv, none_, q⟩ := I2.after out
    cases none_
    exact ⟨rv, .ref _, H2, J, rfl, q⟩
  | .ok .next, out => exact out.elim
  | .ok .brk, out => exact out.elim
  | .ok .cont, out => exact out.elim
end
/-- new lists of these, none at r -/
abbrev NewL (H H' : Hp) (r : Addr) : List V → List (List V) → Prop := Paired fun v ys => ∃ t, v = V.ref t ∧ t ≠ r ∧ H t = none ∧ H' t = some (.lst ys)
theorem newL_ext {H H1 H2 : Hp} {r : Addr} (k : ∀ t ys, t ≠ r → H t = none → H1 t = some (.lst ys) → H2 t = some (.lst ys)) : ∀ {vs : List V} {yss : List (List V)}, NewL H H1 r vs yss → NewL H H2 r vs yss
  | _, _, .nil => .nil
  | _, _, .cons ⟨t, e, n, z, h⟩ q => .cons ⟨t, e, n, z, k t _ n z h⟩ (newL_ext k q)
theorem newL_snoc {H H' : Hp} {r t : Addr} {ys : List V} (n : t ≠ r) (z : H t = none) (h : H' t = some (.lst ys)) : ∀ {vs : List V} {yss : List (List V)}, NewL H H' r vs yss → NewL H H' r (vs ++ [V.ref t]) (yss ++ [ys])
  | _, _, .nil => .cons ⟨t, rfl, n, z, h⟩ .nil
  | _, _, .cons q w => .cons q (newL_snoc n z h w)
theorem newL_get {H H' : Hp} {r : Addr} : ∀ {vs : List V} {yss : List (List V)} {i : Nat}, NewL H H' r vs yss → i < vs.length → ∃ t ys, vs[i]? = some (V.ref t) ∧ yss[i]? = some ys ∧ t ≠ r ∧ H t = none ∧ H' t = some (.lst ys)
  | _, _, _, .nil, e => by simp at e
  | _, _, 0, .cons ⟨t, e, n, z, h⟩ _, _ => ⟨t, _, by rw [e]; rfl, rfl, n, z, h⟩
  | _, _, i + 1, .cons _ q, l => by
    obtain ⟨t, ys, h1, h2, h3⟩ := newL_get (i := i) q (by simpa using l)
    exact ⟨t, ys, by simpa using h1, by simpa using h2, h3⟩
theorem newL_lsts {H H' : Hp} {r : Addr} : ∀ {vs : List V} {yss : List (List V)}, NewL H H' r vs yss → Lsts H' vs yss
  | _, _, .nil => .nil
  | _, _, .cons ⟨t, e, _, _, h⟩ q => .cons ⟨t, e, h⟩ (newL_lsts q)
end Own

set_option Elab.async false
set_option linter.all false
set_option maxRecDepth 100000
set_option maxHeartbeats 4000000
/-! Places joined by streets: ways, classes, their least places. -/
namespace Own
abbrev Join := List (Nat × Nat)
inductive Way (ps : Join) : Nat → Nat → Prop
  | stay (a : Nat) : Way ps a a
  | fwd {a b c : Nat} : Way ps a b → (b, c) ∈ ps → Way ps a c
  | bwd {a b c : Nat} : Way ps a b → (c, b) ∈ ps → Way ps a c
section
variable {ps qs : Join} {m a b c x y : Nat}
theorem Way.trans (h : Way ps a b) (k : Way ps b c) : Way ps a c := by
  induction k with
  | stay => exact h
  | fwd _ e ih => exact .fwd ih e
  | bwd _ e ih => exact .bwd ih e
theorem Way.symm (h : Way ps a b) : Way ps b a := by
  induction h with
  | stay => exact .stay _
  | fwd _ e ih => exact (Way.bwd (.stay _) e).trans ih
  | bwd _ e ih => exact (Way.fwd (.stay _) e).trans ih
theorem Way.mono (s : ∀ q ∈ ps, q ∈ qs) (h : Way ps a b) : Way qs a b := by
  induction h with
  | stay => exact .stay _
  | fwd _ e ih => exact .fwd ih (s _ e)
  | bwd _ e ih => exact .bwd ih (s _ e)
theorem Way.lt (s : ∀ q ∈ ps, q.1 < m ∧ q.2 < m) (ha : a < m) (h : Way ps a b) : b < m := by
  induction h with
  | stay => exact ha
  | fwd _ e ih => exact (s _ e).2
  | bwd _ e ih => exact (s _ e).1
/-- what holds the begin and is closed holds all that is come to -/
theorem Way.closed {S : Nat → Prop} (h : Way ps a b) (ha : S a) (cl : ∀ q ∈ ps, (S q.1 ↔ S q.2)) : S b := by
  induction h with
  | stay => exact ha
  | fwd _ e ih => exact (cl _ e).mp ih
  | bwd _ e ih => exact (cl _ e).mpr ih
/-- a street more -/
theorem way_snoc : Way (ps ++ [(a, b)]) x y ↔ Way ps x y ∨ (Way ps x a ∧ Way ps b y) ∨ (Way ps x b ∧ Way ps a y) := by
  have up : ∀ {u v}, Way ps u v → Way (ps ++ [(a, b)]) u v := fun h => h.mono fun q hq => List.mem_append_left _ hq
  have e : (a, b) ∈ ps ++ [(a, b)] := List.mem_append_right _ (List.mem_singleton.mpr rfl)
  constructor
  · intro h
    induction h with
    | stay => exact .inl (.stay _)
    | @fwd v w _ e ih =>
      rcases List.mem_append.mp e with e | e
      · rcases ih with h | ⟨h1, h2⟩ | ⟨h1, h2⟩
        · exact .inl (.fwd h e)
        · exact .inr (.inl ⟨h1, .fwd h2 e⟩)
        · exact .inr (.inr ⟨h1, .fwd h2 e⟩)
      · cases List.mem_singleton.mp e
        rcases ih with h | ⟨h1, h2⟩ | ⟨h1, h2⟩
        · exact .inr (.inl ⟨h, .stay _⟩)
        · exact .inr (.inl ⟨h1, .stay _⟩)
        · exact .inl h1
    | @bwd v w _ e ih =>
      rcases List.mem_append.mp e with e | e
      · rcases ih with h | ⟨h1, h2⟩ | ⟨h1, h2⟩
        · exact .inl (.bwd h e)
        · exact .inr (.inl ⟨h1, .bwd h2 e⟩)
        · exact .inr (.inr ⟨h1, .bwd h2 e⟩)
      · cases List.mem_singleton.mp e
        rcases ih with h | ⟨h1, h2⟩ | ⟨h1, h2⟩
        · exact .inr (.inr ⟨h, .stay _⟩)
        · exact .inl h1
        · exact .inr (.inr ⟨h1, .stay _⟩)
  · rintro (h | ⟨h1, h2⟩ | ⟨h1, h2⟩)
    · exact up h
    · exact (Way.fwd (up h1) e).trans (up h2)
    · exact (Way.bwd (up h1) e).trans (up h2)
/-- only what is in the list counts -/
theorem way_same (s : ∀ q, q ∈ ps ↔ q ∈ qs) : Way ps a b ↔ Way qs a b := ⟨fun h => h.mono fun q hq => (s q).mp hq, fun h => h.mono fun q hq => (s q).mpr hq⟩
/-- a street between places that are joined joins no more -/
theorem way_add (h : Way ps a b) (s : ∀ q ∈ qs, q = (a, b) ∨ q ∈ ps) (w : Way qs x y) : Way ps x y := by
  induction w with
  | stay => exact .stay _
  | fwd _ e ih =>
    rcases s _ e with z | z
    · cases z
      exact ih.trans h
    · exact .fwd ih z
  | bwd _ e ih =>
    rcases s _ e with z | z
    · cases z
      exact ih.trans h.symm
    · exact .bwd ih z
end
/-! ### the least of a class -/
def Least (ps : Join) (h : Nat) : Prop := ∀ q, q < h → ¬ Way ps q h
theorem least_of (ps : Join) : ∀ p : Nat, ∃ h, h ≤ p ∧ Way ps h p ∧ Least ps h := fun p => by
  induction p using Nat.strongRecOn with
  | ind p ih =>
    by_cases l : Least ps p
    · exact ⟨p, Nat.le_refl _, .stay _, l⟩
    · have z : ∃ q, q < p ∧ Way ps q p := Classical.byContradiction fun n => l fun q hq w => n ⟨q, hq, w⟩
      obtain ⟨q, hq, w⟩ := z
      obtain ⟨h, h1, h2, h3⟩ := ih q hq
      exact ⟨h, Nat.le_trans h1 (Nat.le_of_lt hq), h2.trans w, h3⟩
theorem least_uniq {ps : Join} {h k : Nat} (a : Least ps h) (b : Least ps k) (w : Way ps h k) : h = k := by
  rcases Nat.lt_trichotomy h k with l | e | l
  · exact (b _ l w).elim
  · exact e
  · exact (a _ l w.symm).elim
noncomputable def cls (m : Nat) (ps : Join) (p : Nat) : List Nat := (List.range m).filter fun q => @decide (Way ps p q) (Classical.propDecidable _)
noncomputable def heads (m : Nat) (ps : Join) : List Nat := (List.range m).filter fun p => @decide (Least ps p) (Classical.propDecidable _)
noncomputable def partsOf (m : Nat) (ps : Join) : List (List Nat) := (heads m ps).map (cls m ps)
section
variable {ps qs : Join} {m a b p q x y : Nat}
theorem mem_cls : q ∈ cls m ps p ↔ q < m ∧ Way ps p q := by
  unfold cls
  rw [List.mem_filter, List.mem_range]
  exact and_congr_right fun _ => @decide_eq_true_iff _ (Classical.propDecidable _)
theorem mem_heads : p ∈ heads m ps ↔ p < m ∧ Least ps p := by
  unfold heads
  rw [List.mem_filter, List.mem_range]
  exact and_congr_right fun _ => @decide_eq_true_iff _ (Classical.propDecidable _)
theorem range_up (m : Nat) : (List.range m).Pairwise (· < ·) := List.pairwise_lt_range
theorem cls_up : (cls m ps p).Pairwise (· < ·) := (range_up m).filter _
theorem heads_up : (heads m ps).Pairwise (· < ·) := (range_up m).filter _
theorem cls_same (w : Way ps p q) : cls m ps p = cls m ps q := by
  unfold cls
  refine List.filter_congr fun x _ => ?_
  have e : Way ps p x ↔ Way ps q x := ⟨fun h => w.symm.trans h, fun h => w.trans h⟩
  exact decide_eq_decide.mpr e
theorem cls_len : (cls m ps p).length ≤ m := by
  have z := List.length_filter_le (fun q => @decide (Way ps p q) (Classical.propDecidable _)) (List.range m)
  rw [List.length_range] at z
  exact z
theorem heads_len : (heads m ps).length ≤ m := by
  have z := List.length_filter_le (fun p => @decide (Least ps p) (Classical.propDecidable _)) (List.range m)
  rw [List.length_range] at z
  exact z
theorem parts_len : (partsOf m ps).length ≤ m := by
  unfold partsOf
  rw [List.length_map]
  exact heads_len
theorem parts_congr (e : ∀ x y, Way ps x y ↔ Way qs x y) : partsOf m ps = partsOf m qs := by
  have h1 : heads m ps = heads m qs := List.filter_congr fun x _ => by
    have z : Least ps x ↔ Least qs x := ⟨fun l q hq w => l q hq ((e _ _).mpr w), fun l q hq w => l q hq ((e _ _).mp w)⟩
    exact decide_eq_decide.mpr z
  have h2 : cls m ps = cls m qs := funext fun p => List.filter_congr fun x _ => by
    exact decide_eq_decide.mpr (e p x)
  unfold partsOf
  rw [h1, h2]
theorem filter_less {α : Type} {l : List α} {f g : α → Bool} (i : ∀ x ∈ l, f x = true → g x = true) (s : ∃ x ∈ l, g x = true ∧ f x = false) : (l.filter f).length < (l.filter g).length := by
  induction l with
  | nil =>
    obtain ⟨x, hx, _⟩ := s
    cases hx
  | cons a l ih =>
    have le : (l.filter f).length ≤ (l.filter g).length := by
      rw [← List.countP_eq_length_filter, ← List.countP_eq_length_filter]
      exact List.countP_mono_left fun x hx => i x (List.mem_cons_of_mem _ hx)
    obtain ⟨x, hx, gx, fx⟩ := s
    rcases List.mem_cons.mp hx with rfl | hx
    · rw [List.filter_cons, List.filter_cons, if_pos gx, if_neg (by rw [fx]; exact Bool.false_ne_true), List.length_cons]
      omega
    · have lt := ih (fun y hy => i y (List.mem_cons_of_mem _ hy)) ⟨x, hx, gx, fx⟩
      rw [List.filter_cons, List.filter_cons]
      by_cases fa : f a = true
      · rw [if_pos fa, if_pos (i a List.mem_cons_self fa), List.length_cons, List.length_cons]
        omega
      · rw [if_neg fa]
        by_cases ga : g a = true
        · rw [if_pos ga, List.length_cons]
          omega
        · rw [if_neg ga]
          exact lt
/-- a street whose ends are not joined without it: a part fewer with it -/
theorem parts_fewer (h : ¬ Way ps a b) (s : ∀ q, q ∈ qs ↔ q = (a, b) ∨ q ∈ ps) (ha : a < m) (hb : b < m) : (partsOf m qs).length < (partsOf m ps).length := by
  unfold partsOf
  rw [List.length_map, List.length_map]
  have up : ∀ {x y}, Way ps x y → Way qs x y := fun w => w.mono fun q hq => (s q).mpr (.inr hq)
  have ab : Way qs a b := .fwd (.stay _) ((s _).mpr (.inl rfl))
  refine filter_less (fun x _ hx => ?_) ?_
  · have l : Least qs x := (@decide_eq_true_iff _ (Classical.propDecidable _)).mp hx
    exact (@decide_eq_true_iff _ (Classical.propDecidable _)).mpr fun q hq w => l q hq (up w)
  · obtain ⟨la, a1, a2, a3⟩ := least_of ps a
    obtain ⟨lb, b1, b2, b3⟩ := least_of ps b
    have ne : la ≠ lb := fun e => h (a2.symm.trans (e ▸ b2))
    have both : Way qs la lb := ((up a2).trans ab).trans (up b2.symm)
    rcases Nat.lt_or_gt_of_ne ne with l | l
    · refine ⟨lb, List.mem_range.mpr (by omega), (@decide_eq_true_iff _ (Classical.propDecidable _)).mpr b3, (@decide_eq_false_iff_not _ (Classical.propDecidable _)).mpr fun z => z _ l both⟩
    · refine ⟨la, List.mem_range.mpr (by omega), (@decide_eq_true_iff _ (Classical.propDecidable _)).mpr a3, (@decide_eq_false_iff_not _ (Classical.propDecidable _)).mpr fun z => z _ l both.symm⟩
theorem parts_grow (s : ∀ q, q ∈ qs ↔ q = (a, b) ∨ q ∈ ps) (ha : a < m) (hb : b < m) : (partsOf m qs).length < (partsOf m ps).length ↔ ¬ Way ps a b := by
  refine ⟨fun l w => ?_, fun h => parts_fewer h s ha hb⟩
  have e : partsOf m ps = partsOf m qs := parts_congr fun x y => ⟨fun h => h.mono fun q hq => (s q).mpr (.inr hq), fun h => way_add w (fun q hq => (s q).mp hq) h⟩
  rw [e] at l
  omega
end
/-! ### lists in order -/
theorem up_uniq : ∀ {l1 l2 : List Nat}, l1.Pairwise (· < ·) → l2.Pairwise (· < ·) → (∀ x, x ∈ l1 ↔ x ∈ l2) → l1 = l2
  | [], [], _, _, _ => rfl
  | [], b :: l2, _, _, e => absurd ((e b).mpr List.mem_cons_self) (by simp)
  | a :: l1, [], _, _, e => absurd ((e a).mp List.mem_cons_self) (by simp)
  | a :: l1, b :: l2, p1, p2, e => by
    rw [List.pairwise_cons] at p1 p2
    have hab : a = b := by
      rcases List.mem_cons.mp ((e a).mp List.mem_cons_self) with h | h
      · exact h
      · rcases List.mem_cons.mp ((e b).mpr List.mem_cons_self) with k | k
        · exact k.symm
        · have := p2.1 a h
          have := p1.1 b k
          omega
    subst hab
    refine congrArg (a :: ·) (up_uniq p1.2 p2.2 fun x => ?_)
    constructor
    · intro h
      rcases List.mem_cons.mp ((e x).mp (List.mem_cons_of_mem _ h)) with k | k
      · have := p1.1 x h
        omega
      · exact k
    · intro h
      rcases List.mem_cons.mp ((e x).mpr (List.mem_cons_of_mem _ h)) with k | k
      · have := p2.1 x h
        omega
      · exact k
theorem nodup_le : ∀ {m : Nat} {xs : List Nat}, xs.Nodup → (∀ x ∈ xs, x < m) → xs.length ≤ m
  | 0, xs, _, h => by
    cases xs with
    | nil => exact Nat.le_refl _
    | cons a r => exact absurd (h a List.mem_cons_self) (by omega)
  | m + 1, xs, nd, h => by
    have ih := nodup_le (m := m) (xs := xs.erase m) (nd.erase _) (fun x hx => by
      have z := (nd.mem_erase_iff).mp hx
      have := h x z.2
      omega)
    have z : xs.length ≤ (xs.erase m).length + 1 := by
      by_cases hm : m ∈ xs
      · rw [List.length_erase_of_mem hm]
        omega
      · rw [List.erase_of_not_mem hm]
        omega
    omega
/-- sorted whole numbers that are these places -/
theorem sorted_cls {S : List Nat} {ys : List Int} {l : List Nat} (p : ys.Perm (S.map fun (q : Nat) => (q : Int))) (up : ys.Pairwise (· ≤ ·)) (nd : S.Nodup) (hl : l.Pairwise (· < ·)) (e : ∀ x, x ∈ S ↔ x ∈ l) : ys = l.map fun (q : Nat) => (q : Int) := by
  have nn : ∀ y ∈ ys, ∃ k : Nat, y = (k : Int) := fun y hy => by
    obtain ⟨k, _, rfl⟩ := List.mem_map.mp (p.mem_iff.mp hy)
    exact ⟨k, rfl⟩
  have back : ∃ zs : List Nat, ys = zs.map fun (q : Nat) => (q : Int) := by
    clear p up
    induction ys with
    | nil => exact ⟨[], rfl⟩
    | cons y ys ih =>
      obtain ⟨k, hk⟩ := nn y List.mem_cons_self
      obtain ⟨zs, hz⟩ := ih fun z hz => nn z (List.mem_cons_of_mem _ hz)
      exact ⟨k :: zs, by rw [hk, hz]; rfl⟩
  obtain ⟨zs, rfl⟩ := back
  have inj : Function.Injective (fun (q : Nat) => (q : Int)) := fun a b h => Int.ofNat.inj h
  have mem : ∀ x, x ∈ zs ↔ x ∈ S := fun x => by
    have z := p.mem_iff (a := (x : Int))
    constructor
    · intro h
      obtain ⟨k, hk, ek⟩ := List.mem_map.mp (z.mp (List.mem_map.mpr ⟨x, h, rfl⟩))
      have : k = x := Int.ofNat.inj ek
      exact this ▸ hk
    · intro h
      obtain ⟨k, hk, ek⟩ := List.mem_map.mp (z.mpr (List.mem_map.mpr ⟨x, h, rfl⟩))
      have : k = x := Int.ofNat.inj ek
      exact this ▸ hk
  have ndz : zs.Nodup := by
    have z : (S.map fun (q : Nat) => (q : Int)).Nodup := by
      rw [List.nodup_iff_pairwise_ne, List.pairwise_map]
      exact (List.nodup_iff_pairwise_ne.mp nd).imp fun h k => h (Int.ofNat.inj k)
    have y := (p.nodup_iff).mpr z
    rw [List.nodup_iff_pairwise_ne, List.pairwise_map] at y
    exact List.nodup_iff_pairwise_ne.mpr (y.imp fun h k => h (by rw [k]))
  have upz : zs.Pairwise (· < ·) := by
    rw [List.pairwise_map] at up
    have y := List.nodup_iff_pairwise_ne.mp ndz
    exact (up.and y).imp fun ⟨h, k⟩ => by omega
  rw [up_uniq upz hl fun x => (mem x).trans (e x)]
end Own

set_option Elab.async false
set_option linter.all false
set_option maxRecDepth 100000
set_option maxHeartbeats 4000000
/-! Steps, and the walks that are found by them: pure. -/
namespace Own
open L2
def natV (q : Nat) : V := .int (q : Int)
def ends (rows : List TRow) : Join := rows.map (·.2)
def normR (r : TRow) : TRow := (r.1, min r.2.1 r.2.2, max r.2.1 r.2.2)
def flipR (r : TRow) : TRow := (r.1, r.2.2, r.2.1)
theorem flipR_flipR (r : TRow) : flipR (flipR r) = r := rfl
theorem normR_flipR (r : TRow) : normR (flipR r) = normR r := by
  show (r.1, min r.2.2 r.2.1, max r.2.2 r.2.1) = (r.1, min r.2.1 r.2.2, max r.2.1 r.2.2)
  rw [Nat.min_comm, Nat.max_comm]
inductive Led (ws : Join) : Nat → Nat → Prop
  | stay (a : Nat) : Led ws a a
  | go {a b c : Nat} : Led ws a b → (b, c) ∈ ws → Led ws a c
section
variable {ws ws' : Join} {m a b c : Nat}
theorem Led.trans (h : Led ws a b) (k : Led ws b c) : Led ws a c := by
  induction k with
  | stay => exact h
  | go _ e ih => exact .go ih e
theorem Led.closed {S : Nat → Prop} (h : Led ws a b) (ha : S a) (cl : ∀ q ∈ ws, S q.1 → S q.2) : S b := by
  induction h with
  | stay => exact ha
  | go _ e ih => exact cl _ e ih
theorem Led.mono (s : ∀ q ∈ ws, q ∈ ws') (h : Led ws a b) : Led ws' a b := by
  induction h with
  | stay => exact .stay _
  | go _ e ih => exact .go ih (s _ e)
theorem Led.way (h : Led ws a b) : Way ws a b := by
  induction h with
  | stay => exact .stay _
  | go _ e ih => exact .fwd ih e
end
/-- both ways -/
def bothWays (rows : List TRow) : List TRow := rows.flatMap fun r => [r, flipR r]
theorem both_nil : bothWays [] = [] := rfl
theorem both_cons (r : TRow) (rows : List TRow) : bothWays (r :: rows) = r :: flipR r :: bothWays rows := rfl
theorem both_snoc (r : TRow) (rows : List TRow) : bothWays (rows ++ [r]) = bothWays rows ++ [r, flipR r] := by
  unfold bothWays
  rw [List.flatMap_append]
  rfl
theorem mem_both {rows : List TRow} {x : TRow} : x ∈ bothWays rows ↔ x ∈ rows ∨ flipR x ∈ rows := by
  unfold bothWays
  rw [List.mem_flatMap]
  constructor
  · rintro ⟨r, hr, h⟩
    simp only [List.mem_cons, List.not_mem_nil, or_false] at h
    rcases h with h | h
    · exact .inl (h ▸ hr)
    · right
      rw [h, flipR_flipR]
      exact hr
  · rintro (h | h)
    · exact ⟨x, h, List.mem_cons_self ..⟩
    · exact ⟨flipR x, h, by rw [flipR_flipR]; simp⟩
theorem both_len (rows : List TRow) : (bothWays rows).length = 2 * rows.length := by
  induction rows with
  | nil => rfl
  | cons r rows ih =>
    rw [both_cons, List.length_cons, List.length_cons, List.length_cons, ih]
    omega
theorem both_flip {rows : List TRow} {x : TRow} (h : x ∈ bothWays rows) : flipR x ∈ bothWays rows := by
  rw [mem_both] at h ⊢
  rw [flipR_flipR]
  exact h.symm
theorem both_filter (p : Nat → Bool) (rows : List TRow) : (bothWays rows).filter (fun x => p x.1) = bothWays (rows.filter fun x => p x.1) := by
  induction rows with
  | nil => rfl
  | cons r rows ih =>
    rw [both_cons]
    have f : (flipR r).1 = r.1 := rfl
    cases h : p r.1 with
    | true => rw [List.filter_cons, if_pos h, List.filter_cons, if_pos (by rw [f]; exact h), ih, List.filter_cons, if_pos h, both_cons]
    | false => rw [List.filter_cons, if_neg (by rw [h]; exact Bool.false_ne_true), List.filter_cons, if_neg (by rw [f, h]; exact Bool.false_ne_true), ih, List.filter_cons, if_neg (by rw [h]; exact Bool.false_ne_true)]
theorem both_filterP (p : Nat → Bool) (rows : List TRow) (h : ∀ r ∈ rows, p r.2.1 = p r.2.2) : (bothWays rows).filter (fun x => p x.2.1) = bothWays (rows.filter fun x => p x.2.1) := by
  induction rows with
  | nil => rfl
  | cons r rows ih =>
    have ih := ih fun x hx => h x (List.mem_cons_of_mem _ hx)
    have hr := h r (List.mem_cons_self ..)
    rw [both_cons]
    have f : (flipR r).2.1 = r.2.2 := rfl
    cases e : p r.2.1 with
    | true => rw [List.filter_cons, if_pos e, List.filter_cons, if_pos (by rw [f, ← hr]; exact e), ih, List.filter_cons, if_pos e, both_cons]
    | false => rw [List.filter_cons, if_neg (by rw [e]; exact Bool.false_ne_true), List.filter_cons, if_neg (by rw [f, ← hr, e]; exact Bool.false_ne_true), ih, List.filter_cons, if_neg (by rw [e]; exact Bool.false_ne_true)]
theorem both_in {m : Nat} {rows : List TRow} (inm : ∀ q ∈ ends rows, q.1 < m ∧ q.2 < m) : ∀ q ∈ ends (bothWays rows), q.1 < m ∧ q.2 < m := fun q hq => by
  obtain ⟨x, hx, rfl⟩ := List.mem_map.mp hq
  rcases mem_both.mp hx with h | h
  · exact inm _ (List.mem_map.mpr ⟨x, h, rfl⟩)
  · have z := inm _ (List.mem_map.mpr ⟨flipR x, h, rfl⟩)
    exact ⟨z.2, z.1⟩
theorem led_both {rows : List TRow} {a b : Nat} : Led (ends (bothWays rows)) a b ↔ Way (ends rows) a b := by
  constructor
  · intro h
    induction h with
    | stay => exact .stay _
    | @go b c _ e ih =>
      obtain ⟨x, hx, ex⟩ := List.mem_map.mp e
      have e1 : x.2.1 = b := congrArg Prod.fst ex
      have e2 : x.2.2 = c := congrArg Prod.snd ex
      rcases mem_both.mp hx with h | h
      · exact .fwd ih (List.mem_map.mpr ⟨x, h, ex⟩)
      · exact .bwd ih (List.mem_map.mpr ⟨flipR x, h, by rw [← e1, ← e2]; rfl⟩)
  · intro h
    induction h with
    | stay => exact .stay _
    | @fwd b c _ e ih =>
      obtain ⟨x, hx, ex⟩ := List.mem_map.mp e
      exact .go ih (List.mem_map.mpr ⟨x, mem_both.mpr (.inl hx), ex⟩)
    | @bwd b c _ e ih =>
      obtain ⟨x, hx, ex⟩ := List.mem_map.mp e
      have e1 : x.2.1 = c := congrArg Prod.fst ex
      have e2 : x.2.2 = b := congrArg Prod.snd ex
      exact .go ih (List.mem_map.mpr ⟨flipR x, mem_both.mpr (.inr hx), by rw [← e1, ← e2]; rfl⟩)
/-! ### walks as they are found -/
abbrev Walks := List (Nat × List TRow)
def wk (W : Walks) : List Nat := W.map (·.1)
def walkTo (W : Walks) (p : Nat) : List TRow := ((W.find? fun e => decide (e.1 = p)).map (·.2)).getD []
def stepW (a : Nat) (S : Walks × List Nat) (st : TRow) : Walks × List Nat :=
  if st.2.1 = a ∧ st.2.2 ∉ wk S.1 then (S.1 ++ [(st.2.2, walkTo S.1 a ++ [st])], S.2 ++ [st.2.2]) else S
def bfs (steps : List TRow) : Nat → Walks × List Nat → Walks
  | 0, S => S.1
  | _ + 1, (W, []) => W
  | n + 1, (W, a :: q) => bfs steps n (steps.foldl (stepW a) (W, q))
def walksF (steps : List TRow) (p : Nat) : Walks := bfs steps 16 ([(p, [])], [p])
theorem bfs_nil (steps : List TRow) (n : Nat) (W : Walks) : bfs steps n (W, []) = W := by
  cases n <;> rfl
theorem walkTo_mem {W : Walks} {k : Nat} (h : k ∈ wk W) : (k, walkTo W k) ∈ W := by
  obtain ⟨e, he, ek⟩ := List.mem_map.mp h
  unfold walkTo
  cases z : W.find? fun e => decide (e.1 = k) with
  | none =>
    have := List.find?_eq_none.mp z e he
    rw [decide_eq_true ek] at this
    exact (this rfl).elim
  | some x =>
    have h1 := List.find?_some z
    have h2 := List.mem_of_find?_eq_some z
    have h3 : x.1 = k := of_decide_eq_true h1
    show (k, x.2) ∈ W
    rw [← h3]
    exact h2
/-- how the walks hang together -/
inductive Tree (steps : List TRow) (p : Nat) : Walks → Prop
  | root : Tree steps p [(p, [])]
  | add {W : Walks} {a : Nat} {w0 : List TRow} {st : TRow} : Tree steps p W → (a, w0) ∈ W → st ∈ steps → st.2.1 = a → st.2.2 ∉ wk W → Tree steps p (W ++ [(st.2.2, w0 ++ [st])])
theorem wk_snoc (W : Walks) (k : Nat) (w : List TRow) : wk (W ++ [(k, w)]) = wk W ++ [k] := by
  unfold wk
  rw [List.map_append]
  rfl
/-- steps in a row from a to c -/
def Run : Nat → List TRow → Nat → Prop
  | a, [], c => a = c
  | a, st :: w, c => st.2.1 = a ∧ Run st.2.2 w c
theorem run_app : ∀ {u v : List TRow} {a c : Nat}, Run a (u ++ v) c ↔ ∃ b, Run a u b ∧ Run b v c
  | [], v, a, c => by
    constructor
    · exact fun h => ⟨a, rfl, h⟩
    · rintro ⟨b, h1, h2⟩
      have e : a = b := h1
      rw [List.nil_append, e]
      exact h2
  | st :: u, v, a, c => by
    show (st.2.1 = a ∧ Run st.2.2 (u ++ v) c) ↔ _
    rw [run_app]
    constructor
    · rintro ⟨e, b, h1, h2⟩
      exact ⟨b, ⟨e, h1⟩, h2⟩
    · rintro ⟨b, ⟨e, h1⟩, h2⟩
      exact ⟨e, b, h1, h2⟩
theorem run_snoc {u : List TRow} {st : TRow} {a : Nat} (h : Run a u st.2.1) : Run a (u ++ [st]) st.2.2 := run_app.mpr ⟨_, h, rfl, rfl⟩
theorem run_led : ∀ {w : List TRow} {a c : Nat}, Run a w c → Led (ends w) a c
  | [], a, c, h => by
    have e : a = c := h
    rw [e]
    exact .stay _
  | st :: w, a, c, ⟨e, h⟩ => by
    have l1 : Led (ends (st :: w)) a st.2.2 := .go (.stay a) (by rw [← e]; exact List.mem_cons_self ..)
    exact l1.trans ((run_led h).mono fun q hq => List.mem_cons_of_mem _ hq)
/-- each place on a run is led to, and leads on -/
theorem run_via : ∀ {w : List TRow} {a c : Nat}, Run a w c → ∀ st ∈ w, Led (ends w) a st.2.2 ∧ Led (ends w) st.2.2 c
  | st :: w, a, c, ⟨e, h⟩, x, hx => by
    have up : ∀ {u v : Nat}, Led (ends w) u v → Led (ends (st :: w)) u v := fun l => l.mono fun q hq => List.mem_cons_of_mem _ hq
    have l1 : Led (ends (st :: w)) a st.2.2 := .go (.stay a) (by rw [← e]; exact List.mem_cons_self ..)
    rcases List.mem_cons.mp hx with z | z
    · rw [z]
      exact ⟨l1, up (run_led h)⟩
    · have ih := run_via h x z
      exact ⟨l1.trans (up ih.1), up ih.2⟩
section
variable {steps : List TRow} {p m : Nat} {W : Walks}
theorem tree_root (T : Tree steps p W) : p ∈ wk W := by
  induction T with
  | root => exact List.mem_cons_self ..
  | add _ _ _ _ _ ih => rw [wk_snoc]; exact List.mem_append_left _ ih
theorem tree_nd (T : Tree steps p W) : (wk W).Nodup := by
  induction T with
  | root => exact (List.nodup_cons.mpr ⟨List.not_mem_nil, List.nodup_nil⟩)
  | add _ _ _ _ n ih =>
    rw [wk_snoc, List.nodup_append]
    refine ⟨ih, (List.nodup_cons.mpr ⟨List.not_mem_nil, List.nodup_nil⟩), fun x hx y hy e => ?_⟩
    rw [List.mem_singleton] at hy
    rw [hy] at e
    rw [e] at hx
    exact n hx
theorem tree_led (T : Tree steps p W) : ∀ k ∈ wk W, Led (ends steps) p k := by
  induction T with
  | root =>
    intro k hk
    rw [List.mem_singleton.mp hk]
    exact .stay _
  | @add W a w0 st T ha hs e n ih =>
    intro k hk
    rw [wk_snoc] at hk
    rcases List.mem_append.mp hk with z | z
    · exact ih k z
    · rw [List.mem_singleton.mp z]
      exact .go (ih a (List.mem_map.mpr ⟨_, ha, rfl⟩)) (List.mem_map.mpr ⟨st, hs, by rw [← e]⟩)
theorem tree_run (T : Tree steps p W) : ∀ e ∈ W, Run p e.2 e.1 ∧ (∀ st ∈ e.2, st ∈ steps ∧ st.2.1 ∈ wk W ∧ st.2.2 ∈ wk W) ∧ e.2.length < W.length := by
  induction T with
  | root =>
    intro e he
    rw [List.mem_singleton.mp he]
    exact ⟨rfl, fun st hst => absurd hst List.not_mem_nil, Nat.zero_lt_one⟩
  | @add W a w0 st T ha hs e n ih =>
    intro x hx
    have len : (W ++ [(st.2.2, w0 ++ [st])]).length = W.length + 1 := by rw [List.length_append]; rfl
    rcases List.mem_append.mp hx with z | z
    · obtain ⟨h1, h2, h3⟩ := ih x z
      refine ⟨h1, fun y hy => ?_, by omega⟩
      obtain ⟨g1, g2, g3⟩ := h2 y hy
      rw [wk_snoc]
      exact ⟨g1, List.mem_append_left _ g2, List.mem_append_left _ g3⟩
    · rw [List.mem_singleton.mp z]
      obtain ⟨h1, h2, h3⟩ := ih _ ha
      refine ⟨run_snoc (by rw [e]; exact h1), fun y hy => ?_, ?_⟩
      · rw [wk_snoc]
        rcases List.mem_append.mp hy with y1 | y1
        · obtain ⟨g1, g2, g3⟩ := h2 y y1
          exact ⟨g1, List.mem_append_left _ g2, List.mem_append_left _ g3⟩
        · rw [List.mem_singleton.mp y1]
          exact ⟨hs, List.mem_append_left _ (by rw [e]; exact List.mem_map.mpr ⟨_, ha, rfl⟩), List.mem_append_right _ (List.mem_singleton.mpr rfl)⟩
      · show (w0 ++ [st]).length < _
        rw [len, List.length_append]
        show w0.length + 1 < _
        have : w0.length < W.length := h3
        omega
/-- where a number has one street, no street is walked twice -/
theorem tree_nums (T : Tree steps p W) (u : ∀ x ∈ steps, ∀ y ∈ steps, x.1 = y.1 → y = x ∨ y = flipR x) : ∀ e ∈ W, (e.2.map (·.1)).Nodup := by
  induction T with
  | root =>
    intro e he
    rw [List.mem_singleton.mp he]
    exact List.nodup_nil
  | @add W a w0 st T ha hs e n ih =>
    intro x hx
    rcases List.mem_append.mp hx with z | z
    · exact ih x z
    · rw [List.mem_singleton.mp z]
      show ((w0 ++ [st]).map (·.1)).Nodup
      rw [List.map_append, List.nodup_append]
      refine ⟨ih _ ha, (List.nodup_cons.mpr ⟨List.not_mem_nil, List.nodup_nil⟩), fun i hi j hj ij => ?_⟩
      obtain ⟨y, hy, ey⟩ := List.mem_map.mp hi
      have hj : j = st.1 := List.mem_singleton.mp hj
      have g := (tree_run T _ ha).2.1 y hy
      rcases u y g.1 st hs (by rw [ey, ij, hj]) with s | s
      · rw [s] at n
        exact n g.2.2
      · rw [s] at n
        exact n g.2.1
/-- the search, in the midst -/
structure BfsI (steps : List TRow) (p m : Nat) (S : Walks × List Nat) : Prop where
  tree : Tree steps p S.1
  lt : ∀ k ∈ wk S.1, k < m
  sub : ∀ a ∈ S.2, a ∈ wk S.1
theorem bfsI_len {S : Walks × List Nat} (I : BfsI steps p m S) : S.1.length ≤ m := by
  have z := nodup_le (tree_nd I.tree) I.lt
  unfold wk at z
  rw [List.length_map] at z
  exact z
theorem stepW_yes {a : Nat} {S : Walks × List Nat} {st : TRow} (h1 : st.2.1 = a) (h2 : st.2.2 ∉ wk S.1) : stepW a S st = (S.1 ++ [(st.2.2, walkTo S.1 a ++ [st])], S.2 ++ [st.2.2]) := if_pos ⟨h1, h2⟩
theorem stepW_no {a : Nat} {S : Walks × List Nat} {st : TRow} (h : ¬ (st.2.1 = a ∧ st.2.2 ∉ wk S.1)) : stepW a S st = S := if_neg h
theorem stepW_I {S : Walks × List Nat} {a : Nat} {st : TRow} (I : BfsI steps p m S) (ha : a ∈ wk S.1) (hs : st ∈ steps) (b : st.2.2 < m) : BfsI steps p m (stepW a S st) := by
  by_cases h : st.2.1 = a ∧ st.2.2 ∉ wk S.1
  · rw [stepW_yes h.1 h.2]
    refine ⟨.add I.tree (walkTo_mem ha) hs h.1 h.2, fun k hk => ?_, fun x hx => ?_⟩
    · rw [wk_snoc] at hk
      rcases List.mem_append.mp hk with z | z
      · exact I.lt k z
      · rw [List.mem_singleton.mp z]
        exact b
    · show x ∈ wk (S.1 ++ [_])
      rw [wk_snoc]
      rcases List.mem_append.mp hx with z | z
      · exact List.mem_append_left _ (I.sub x z)
      · exact List.mem_append_right _ z
  · rw [stepW_no h]
    exact I
theorem stepW_keep {S : Walks × List Nat} {a : Nat} {st : TRow} {k : Nat} (h : k ∈ wk S.1) : k ∈ wk (stepW a S st).1 := by
  by_cases c : st.2.1 = a ∧ st.2.2 ∉ wk S.1
  · rw [stepW_yes c.1 c.2]
    show k ∈ wk (S.1 ++ [_])
    rw [wk_snoc]
    exact List.mem_append_left _ h
  · rw [stepW_no c]
    exact h
theorem stepW_put {S : Walks × List Nat} {a : Nat} {st : TRow} (h : st.2.1 = a) : st.2.2 ∈ wk (stepW a S st).1 := by
  by_cases c : st.2.2 ∈ wk S.1
  · exact stepW_keep c
  · rw [stepW_yes h c]
    show _ ∈ wk (S.1 ++ [_])
    rw [wk_snoc]
    exact List.mem_append_right _ (List.mem_singleton.mpr rfl)
/-- as much as the walks grow, so much longer those that wait; what is new waits -/
theorem stepW_size (S : Walks × List Nat) (a : Nat) (st : TRow) : (stepW a S st).2.length + S.1.length = S.2.length + (stepW a S st).1.length := by
  by_cases c : st.2.1 = a ∧ st.2.2 ∉ wk S.1
  · rw [stepW_yes c.1 c.2, List.length_append, List.length_append]
    show S.2.length + 1 + S.1.length = S.2.length + (S.1.length + 1)
    omega
  · rw [stepW_no c]
theorem stepW_new {S : Walks × List Nat} {a : Nat} {st : TRow} {k : Nat} (h : k ∈ wk (stepW a S st).1) : k ∈ wk S.1 ∨ k ∈ (stepW a S st).2 := by
  by_cases c : st.2.1 = a ∧ st.2.2 ∉ wk S.1
  · rw [stepW_yes c.1 c.2] at h ⊢
    have h : k ∈ wk (S.1 ++ [_]) := h
    rw [wk_snoc] at h
    rcases List.mem_append.mp h with z | z
    · exact .inl z
    · exact .inr (List.mem_append_right _ z)
  · rw [stepW_no c] at h
    exact .inl h
theorem stepW_wait {S : Walks × List Nat} {a : Nat} {st : TRow} {k : Nat} (h : k ∈ S.2) : k ∈ (stepW a S st).2 := by
  by_cases c : st.2.1 = a ∧ st.2.2 ∉ wk S.1
  · rw [stepW_yes c.1 c.2]
    exact List.mem_append_left _ h
  · rw [stepW_no c]
    exact h
/-- all steps of one place -/
structure FoldW (steps : List TRow) (p m a : Nat) (xs : List TRow) (S S' : Walks × List Nat) : Prop where
  I : BfsI steps p m S'
  keep : ∀ k ∈ wk S.1, k ∈ wk S'.1
  size : S'.2.length + S.1.length = S.2.length + S'.1.length
  new : ∀ k ∈ wk S'.1, k ∈ wk S.1 ∨ k ∈ S'.2
  wait : ∀ k ∈ S.2, k ∈ S'.2
  put : ∀ st ∈ xs, st.2.1 = a → st.2.2 ∈ wk S'.1
theorem fold_W {a : Nat} : ∀ {xs : List TRow} {S : Walks × List Nat}, BfsI steps p m S → a ∈ wk S.1 → (∀ st ∈ xs, st ∈ steps ∧ st.2.2 < m) → FoldW steps p m a xs S (xs.foldl (stepW a) S)
  | [], S, I, _, _ => ⟨I, fun _ h => h, rfl, fun _ h => .inl h, fun _ h => h, fun _ h => absurd h List.not_mem_nil⟩
  | x :: xs, S, I, ha, h => by
    have hx := h x (List.mem_cons_self ..)
    have F := fold_W (xs := xs) (S := stepW a S x) (stepW_I I ha hx.1 hx.2) (stepW_keep ha) fun st hst => h st (List.mem_cons_of_mem _ hst)
    have sz := stepW_size S a x
    have sz2 := F.size
    refine ⟨F.I, fun k hk => F.keep k (stepW_keep hk), ?_, fun k hk => ?_, fun k hk => F.wait k (stepW_wait hk), fun st hst e => ?_⟩
    · show (xs.foldl (stepW a) (stepW a S x)).2.length + S.1.length = _
      show _ = S.2.length + (xs.foldl (stepW a) (stepW a S x)).1.length
      omega
    · rcases F.new k hk with z | z
      · rcases stepW_new z with y | y
        · exact .inl y
        · exact .inr (F.wait k y)
      · exact .inr z
    · rcases List.mem_cons.mp hst with z | z
      · rw [z] at e ⊢
        exact F.keep _ (stepW_put e)
      · exact F.put st z e
theorem bfs_spec (inm : ∀ q ∈ ends steps, q.1 < m ∧ q.2 < m) : ∀ {n : Nat} {S : Walks × List Nat}, BfsI steps p m S → (∀ k ∈ wk S.1, k ∉ S.2 → ∀ st ∈ steps, st.2.1 = k → st.2.2 ∈ wk S.1) → S.2.length + (m - S.1.length) ≤ n →
    BfsI steps p m (bfs steps n S, []) ∧ ∀ k ∈ wk (bfs steps n S), ∀ st ∈ steps, st.2.1 = k → st.2.2 ∈ wk (bfs steps n S)
  | n, (W, []), I, cl, _ => by
    rw [bfs_nil]
    exact ⟨I, fun k hk => cl k hk List.not_mem_nil⟩
  | 0, (W, a :: q), I, cl, h => by
    have h : (q.length + 1) + (m - W.length) ≤ 0 := h
    omega
  | n + 1, (W, a :: q), I, cl, h => by
    have h : (q.length + 1) + (m - W.length) ≤ n + 1 := h
    have ha : a ∈ wk W := I.sub a (List.mem_cons_self ..)
    have I0 : BfsI steps p m (W, q) := ⟨I.tree, I.lt, fun x hx => I.sub x (List.mem_cons_of_mem _ hx)⟩
    have F := fold_W (a := a) (xs := steps) I0 ha fun st hst => ⟨hst, (inm _ (List.mem_map.mpr ⟨st, hst, rfl⟩)).2⟩
    have sz : (steps.foldl (stepW a) (W, q)).2.length + W.length = q.length + (steps.foldl (stepW a) (W, q)).1.length := F.size
    have l1 : (steps.foldl (stepW a) (W, q)).1.length ≤ m := bfsI_len F.I
    have l0 : W.length ≤ m := bfsI_len I0
    refine bfs_spec inm (n := n) F.I (fun k hk hn st hst e => ?_) (by omega)
    rcases F.new k hk with z | z
    · by_cases ka : k = a
      · exact F.put st hst (e.trans ka)
      · refine F.keep _ (cl k z (fun y => ?_) st hst e)
        rcases List.mem_cons.mp y with y | y
        · exact ka y
        · exact hn (F.wait k y)
    · exact (hn z).elim
theorem bfs_start (hp : p < m) : BfsI steps p m ([(p, [])], [p]) := ⟨.root, fun k hk => by rw [List.mem_singleton.mp hk]; exact hp, fun a ha => ha⟩
theorem walks_spec (inm : ∀ q ∈ ends steps, q.1 < m ∧ q.2 < m) (hp : p < m) (m16 : m ≤ 16) : Tree steps p (walksF steps p) ∧ (∀ k, k ∈ wk (walksF steps p) ↔ k < m ∧ Led (ends steps) p k) := by
  have z := bfs_spec inm (n := 16) (bfs_start (steps := steps) hp) (fun k hk hn => (hn hk).elim) (by show 1 + (m - 1) ≤ 16; omega)
  refine ⟨z.1.tree, fun k => ⟨fun hk => ⟨z.1.lt k hk, tree_led z.1.tree k hk⟩, fun hk => ?_⟩⟩
  refine hk.2.closed (S := fun k => k ∈ wk (walksF steps p)) (tree_root z.1.tree) fun q hq h1 => ?_
  obtain ⟨st, hst, e⟩ := List.mem_map.mp hq
  rw [← e]
  exact z.2 _ h1 st hst (by rw [← e])
theorem walks_len (inm : ∀ q ∈ ends steps, q.1 < m ∧ q.2 < m) (hp : p < m) (m16 : m ≤ 16) : (walksF steps p).length ≤ m := by
  have z := bfs_spec inm (n := 16) (bfs_start (steps := steps) hp) (fun k hk hn => (hn hk).elim) (by show 1 + (m - 1) ≤ 16; omega)
  exact bfsI_len z.1
end
end Own

set_option Elab.async false
set_option linter.all false
set_option maxRecDepth 100000
set_option maxHeartbeats 4000000
/-! Rows of steps out of a piece: each leads from what is had to what is had. -/
namespace Own
open L2
def rowF (steps : List TRow) (had : List Nat) : List TRow :=
  match steps.filter (fun st => decide (st.2.1 ∈ had)) with
  | [] => []
  | f :: _ =>
    match (wk (walksF (steps.filter fun st => decide (st.1 ≠ f.1)) f.2.2)).filter (fun k => decide (k ∈ had)) with
    | [] => []
    | k :: _ => f :: walkTo (walksF (steps.filter fun st => decide (st.1 ≠ f.1)) f.2.2) k
def leftF (steps row : List TRow) : List TRow := steps.filter fun st => decide (st.1 ∉ row.map (·.1))
def moreF (had : List Nat) (row : List TRow) : List Nat := had ++ row.dropLast.map (·.2.2)
def rowsF : Nat → List TRow → List Nat → List (List TRow)
  | 0, _, _ => []
  | n + 1, steps, had => if steps.isEmpty = true then [] else rowF steps had :: rowsF n (leftF steps (rowF steps had)) (moreF had (rowF steps had))
/-- where a row can be told -/
structure RowAt (steps : List TRow) (had : List Nat) (f : TRow) (fs : List TRow) (k : Nat) (ks : List Nat) : Prop where
  first : steps.filter (fun st => decide (st.2.1 ∈ had)) = f :: fs
  last : (wk (walksF (steps.filter fun st => decide (st.1 ≠ f.1)) f.2.2)).filter (fun k => decide (k ∈ had)) = k :: ks
theorem rowF_eq {steps : List TRow} {had : List Nat} {f : TRow} {fs : List TRow} {k : Nat} {ks : List Nat} (A : RowAt steps had f fs k ks) : rowF steps had = f :: walkTo (walksF (steps.filter fun st => decide (st.1 ≠ f.1)) f.2.2) k := by
  unfold rowF
  rw [A.first]
  dsimp only
  rw [A.last]
/-- a piece: joined, also without any one of its streets -/
structure PieceI (m : Nat) (E : List TRow) (pc : List Nat) : Prop where
  lt : ∀ x ∈ pc, x < m
  inE : ∀ r ∈ E, r.2.1 ∈ pc ∧ r.2.2 ∈ pc
  conn : ∀ x ∈ pc, ∀ y ∈ pc, Way (ends E) x y
  two : ∀ r ∈ E, Way (ends (E.filter fun q => decide (q.1 ≠ r.1))) r.2.1 r.2.2
  nums : ∀ x ∈ E, ∀ y ∈ E, x.1 = y.1 → x = y
structure RowsI (E : List TRow) (pc : List Nat) (steps : List TRow) (had : List Nat) (told : List TRow) : Prop where
  st : steps = bothWays (E.filter fun r => decide (r.1 ∉ told.map (·.1)))
  sub : ∀ x ∈ had, x ∈ pc
  one : had ≠ []
  used : ∀ r ∈ E, r.1 ∈ told.map (·.1) → r.2.1 ∈ had ∧ r.2.2 ∈ had
  strong : ∀ x ∈ had, ∀ y ∈ had, Led (ends told) x y
  mem : ∀ st ∈ told, st ∈ bothWays E
  nd : (told.map (·.1)).Nodup
theorem run_ends : ∀ {w : List TRow} {a c : Nat}, Run a w c → ∀ st ∈ w, (st.2.1 = a ∨ st.2.1 ∈ w.dropLast.map (·.2.2)) ∧ (st.2.2 = c ∨ st.2.2 ∈ w.dropLast.map (·.2.2))
  | [x], a, c, ⟨e, h⟩, st, hst => by
    rw [List.mem_singleton.mp hst]
    exact ⟨.inl e, .inl h⟩
  | x :: y :: w, a, c, ⟨e, h⟩, st, hst => by
    have d : (x :: y :: w).dropLast = x :: (y :: w).dropLast := rfl
    rw [d, List.map_cons]
    rcases List.mem_cons.mp hst with z | z
    · rw [z]
      exact ⟨.inl e, .inr (List.mem_cons_self ..)⟩
    · obtain ⟨h1, h2⟩ := run_ends h st z
      refine ⟨?_, ?_⟩
      · rcases h1 with h1 | h1
        · rw [h1]
          exact .inr (List.mem_cons_self ..)
        · exact .inr (List.mem_cons_of_mem _ h1)
      · rcases h2 with h2 | h2
        · exact .inl h2
        · exact .inr (List.mem_cons_of_mem _ h2)
section
variable {m : Nat} {E steps told : List TRow} {pc had : List Nat}
theorem filter_some {α : Type} {l : List α} {p : α → Bool} (h : ∃ x ∈ l, p x = true) : ∃ y ys, l.filter p = y :: ys := by
  obtain ⟨x, hx, px⟩ := h
  cases z : l.filter p with
  | nil => exact absurd (List.filter_eq_nil_iff.mp z x hx) (fun y => y px)
  | cons y ys => exact ⟨y, ys, rfl⟩
theorem filter_head {α : Type} {l : List α} {p : α → Bool} {y : α} {ys : List α} (h : l.filter p = y :: ys) : y ∈ l ∧ p y = true := List.mem_filter.mp (by rw [h]; exact List.mem_cons_self ..)
theorem rowsI_in (P : PieceI m E pc) (R : RowsI E pc steps had told) : ∀ st ∈ steps, st ∈ bothWays E ∧ st.1 ∉ told.map (·.1) := fun st hst => by
  rw [R.st] at hst
  rcases mem_both.mp hst with z | z
  · obtain ⟨z1, z2⟩ := List.mem_filter.mp z
    exact ⟨mem_both.mpr (.inl z1), of_decide_eq_true z2⟩
  · obtain ⟨z1, z2⟩ := List.mem_filter.mp z
    exact ⟨mem_both.mpr (.inr z1), (show (flipR st).1 ∉ _ from of_decide_eq_true z2)⟩
theorem both_pc (P : PieceI m E pc) {st : TRow} (h : st ∈ bothWays E) : st.2.1 ∈ pc ∧ st.2.2 ∈ pc := by
  rcases mem_both.mp h with z | z
  · exact P.inE st z
  · have := P.inE _ z
    exact ⟨this.2, this.1⟩
theorem both_two (P : PieceI m E pc) {st : TRow} (h : st ∈ bothWays E) : Way (ends (E.filter fun q => decide (q.1 ≠ st.1))) st.2.1 st.2.2 := by
  rcases mem_both.mp h with z | z
  · exact P.two st z
  · exact (P.two _ z).symm
theorem both_nums (P : PieceI m E pc) {x y : TRow} (hx : x ∈ bothWays E) (hy : y ∈ bothWays E) (e : x.1 = y.1) : y = x ∨ y = flipR x := by
  rcases mem_both.mp hx with a | a <;> rcases mem_both.mp hy with b | b
  · exact .inl (P.nums _ a _ b e).symm
  · have z : x = flipR y := P.nums _ a _ b e
    exact .inr (by rw [z]; rfl)
  · have z : flipR x = y := P.nums _ a _ b e
    exact .inr z.symm
  · have z : flipR x = flipR y := P.nums _ a _ b e
    exact .inl (by rw [← flipR_flipR y, ← z]; rfl)
theorem others_eq (R : RowsI E pc steps had told) (k : Nat) : (steps.filter fun st => decide (st.1 ≠ k)) = bothWays ((E.filter fun r => decide (r.1 ∉ told.map (·.1))).filter fun r => decide (r.1 ≠ k)) := by
  rw [R.st]
  exact both_filter (fun n => decide (n ≠ k)) _
theorem others_in (P : PieceI m E pc) (R : RowsI E pc steps had told) (k : Nat) : ∀ q ∈ ends (steps.filter fun st => decide (st.1 ≠ k)), q.1 < m ∧ q.2 < m := fun q hq => by
  obtain ⟨x, hx, rfl⟩ := List.mem_map.mp hq
  have z := both_pc P (rowsI_in P R x (List.mem_filter.mp hx).1).1
  exact ⟨P.lt _ z.1, P.lt _ z.2⟩
theorem row_at (P : PieceI m E pc) (m16 : m ≤ 16) (R : RowsI E pc steps had told) (ne : steps ≠ []) : ∃ f fs k ks, RowAt steps had f fs k ks := by
  obtain ⟨h, hh⟩ := List.exists_mem_of_ne_nil _ R.one
  have first : ∃ st ∈ steps, decide (st.2.1 ∈ had) = true := by
    refine Classical.byContradiction fun no => ?_
    have no' : ∀ st ∈ steps, st.2.1 ∉ had := fun st hst y => no ⟨st, hst, decide_eq_true y⟩
    obtain ⟨x, hx⟩ := List.exists_mem_of_ne_nil _ ne
    have px := both_pc P (rowsI_in P R x hx).1
    have w := P.conn h (R.sub h hh) x.2.1 px.1
    refine no' x hx (w.closed (S := fun q => q ∈ had) hh fun q hq => ?_)
    obtain ⟨e, he, rfl⟩ := List.mem_map.mp hq
    by_cases u : e.1 ∈ told.map (·.1)
    · have z := R.used e he u
      exact ⟨fun _ => z.2, fun _ => z.1⟩
    · have z : e ∈ E.filter fun r => decide (r.1 ∉ told.map (·.1)) := List.mem_filter.mpr ⟨he, decide_eq_true u⟩
      have e1 : e ∈ steps := by rw [R.st]; exact mem_both.mpr (.inl z)
      have e2 : flipR e ∈ steps := by rw [R.st]; exact mem_both.mpr (.inr z)
      exact ⟨fun y => (no' _ e1 y).elim, fun y => (no' _ e2 y).elim⟩
  obtain ⟨f, fs, hf⟩ := filter_some first
  obtain ⟨f1, f2⟩ := filter_head hf
  have f2 : f.2.1 ∈ had := of_decide_eq_true f2
  have f3 := (rowsI_in P R f f1).1
  have f4 := both_pc P f3
  have spec := walks_spec (others_in P R f.1) (P.lt _ f4.2) m16
  have last : ∃ k ∈ wk (walksF (steps.filter fun st => decide (st.1 ≠ f.1)) f.2.2), decide (k ∈ had) = true := by
    refine Classical.byContradiction fun no => ?_
    have oe := others_eq R f.1
    generalize (steps.filter fun st => decide (st.1 ≠ f.1)) = others at *
    have no' : ∀ x ∈ had, ¬ Way (ends ((E.filter fun r => decide (r.1 ∉ told.map (·.1))).filter fun r => decide (r.1 ≠ f.1))) f.2.2 x := fun x hx w => by
      refine no ⟨x, (spec.2 x).mpr ⟨P.lt _ (R.sub x hx), ?_⟩, decide_eq_true hx⟩
      rw [oe]
      exact led_both.mpr w
    refine no' f.2.1 f2 ((both_two P f3).symm.closed (S := fun x => Way (ends ((E.filter fun r => decide (r.1 ∉ told.map (·.1))).filter fun r => decide (r.1 ≠ f.1))) f.2.2 x) (.stay _) fun q hq => ?_)
    obtain ⟨e, he, rfl⟩ := List.mem_map.mp hq
    obtain ⟨he1, he2⟩ := List.mem_filter.mp he
    by_cases u : e.1 ∈ told.map (·.1)
    · have z := R.used e he1 u
      exact ⟨fun y => (no' _ z.1 y).elim, fun y => (no' _ z.2 y).elim⟩
    · have z : e ∈ (E.filter fun r => decide (r.1 ∉ told.map (·.1))).filter fun r => decide (r.1 ≠ f.1) := List.mem_filter.mpr ⟨List.mem_filter.mpr ⟨he1, decide_eq_true u⟩, he2⟩
      have ze : e.2 ∈ ends ((E.filter fun r => decide (r.1 ∉ told.map (·.1))).filter fun r => decide (r.1 ≠ f.1)) := List.mem_map.mpr ⟨e, z, rfl⟩
      exact ⟨fun y => .fwd y ze, fun y => .bwd y ze⟩
  obtain ⟨k, ks, hk⟩ := filter_some last
  exact ⟨f, fs, k, ks, hf, hk⟩
/-- what a row is -/
structure RowIs (steps : List TRow) (had : List Nat) (row : List TRow) : Prop where
  run : ∃ a ∈ had, ∃ c ∈ had, Run a row c
  mem : ∀ st ∈ row, st ∈ steps
  nd : (row.map (·.1)).Nodup
  ne : row ≠ []
  few : row.length ≤ 17
theorem row_is (P : PieceI m E pc) (m16 : m ≤ 16) (R : RowsI E pc steps had told) {f : TRow} {fs : List TRow} {k : Nat} {ks : List Nat} (A : RowAt steps had f fs k ks) : RowIs steps had (rowF steps had) := by
  rw [rowF_eq A]
  obtain ⟨f1, f2⟩ := filter_head A.first
  have f2 : f.2.1 ∈ had := of_decide_eq_true f2
  obtain ⟨k1, k2⟩ := filter_head A.last
  have k2 : k ∈ had := of_decide_eq_true k2
  have f3 := (rowsI_in P R f f1).1
  have spec := walks_spec (others_in P R f.1) (P.lt _ (both_pc P f3).2) m16
  have len := walks_len (others_in P R f.1) (P.lt _ (both_pc P f3).2) m16
  have u : ∀ x ∈ steps.filter (fun st => decide (st.1 ≠ f.1)), ∀ y ∈ steps.filter (fun st => decide (st.1 ≠ f.1)), x.1 = y.1 → y = x ∨ y = flipR x := fun x hx y hy e =>
    both_nums P (rowsI_in P R x (List.mem_filter.mp hx).1).1 (rowsI_in P R y (List.mem_filter.mp hy).1).1 e
  have km := walkTo_mem k1
  obtain ⟨r1, r2, r3⟩ := tree_run spec.1 _ km
  have r4 := tree_nums spec.1 u _ km
  have r1 : Run f.2.2 (walkTo (walksF (steps.filter fun st => decide (st.1 ≠ f.1)) f.2.2) k) k := r1
  generalize hw : walkTo (walksF (steps.filter fun st => decide (st.1 ≠ f.1)) f.2.2) k = w at *
  refine ⟨⟨f.2.1, f2, k, k2, rfl, r1⟩, fun st hst => ?_, ?_, by simp, ?_⟩
  · rcases List.mem_cons.mp hst with z | z
    · rw [z]
      exact f1
    · exact (List.mem_filter.mp (r2 st z).1).1
  · rw [List.map_cons, List.nodup_cons]
    refine ⟨fun z => ?_, r4⟩
    obtain ⟨x, hx, ex⟩ := List.mem_map.mp z
    exact of_decide_eq_true (List.mem_filter.mp (r2 x hx).1).2 ex
  · show w.length + 1 ≤ 17
    have r3 : w.length < _ := r3
    omega
theorem nots (a : Nat) (A B : List Nat) : (decide (a ∉ A) && decide (a ∉ B)) = decide (a ∉ B ++ A) := by
  by_cases h1 : a ∈ A
  · rw [decide_eq_false (p := a ∉ A) (fun z => z h1), decide_eq_false (p := a ∉ B ++ A) (fun z => z (List.mem_append_right _ h1))]
    rfl
  · by_cases h2 : a ∈ B
    · rw [decide_eq_false (p := a ∉ B) (fun z => z h2), decide_eq_false (p := a ∉ B ++ A) (fun z => z (List.mem_append_left _ h2)), Bool.and_false]
    · rw [decide_eq_true h1, decide_eq_true h2, decide_eq_true (p := a ∉ B ++ A) (fun z => (List.mem_append.mp z).elim h2 h1)]
      rfl
theorem row_next (P : PieceI m E pc) (R : RowsI E pc steps had told) {row : List TRow} (I : RowIs steps had row) : RowsI E pc (leftF steps row) (moreF had row) (told ++ row) := by
  obtain ⟨a, ha, c, hc, run⟩ := I.run
  have inBoth : ∀ st ∈ row, st ∈ bothWays E := fun st hst => (rowsI_in P R st (I.mem st hst)).1
  have hadUp : ∀ x ∈ had, x ∈ moreF had row := fun x hx => List.mem_append_left _ hx
  have ledUp : ∀ {x y : Nat}, Led (ends told) x y → Led (ends (told ++ row)) x y := fun l => l.mono fun q hq => by
    unfold ends at hq ⊢
    rw [List.map_append]
    exact List.mem_append_left _ hq
  have ledRow : ∀ {x y : Nat}, Led (ends row) x y → Led (ends (told ++ row)) x y := fun l => l.mono fun q hq => by
    unfold ends at hq ⊢
    rw [List.map_append]
    exact List.mem_append_right _ hq
  have near : ∀ x ∈ moreF had row, (∃ h ∈ had, Led (ends (told ++ row)) h x) ∧ ∃ h ∈ had, Led (ends (told ++ row)) x h := fun x hx => by
    rcases List.mem_append.mp hx with z | z
    · exact ⟨⟨x, z, .stay _⟩, x, z, .stay _⟩
    · obtain ⟨st, hst, rfl⟩ := List.mem_map.mp z
      have v := run_via run st (List.dropLast_subset _ hst)
      exact ⟨⟨a, ha, ledRow v.1⟩, c, hc, ledRow v.2⟩
  refine ⟨?_, fun x hx => ?_, ?_, fun r hr hu => ?_, fun x hx y hy => ?_, fun st hst => ?_, ?_⟩
  · unfold leftF
    rw [R.st]
    have e := both_filter (fun n => decide (n ∉ row.map (·.1))) (E.filter fun r => decide (r.1 ∉ told.map (·.1)))
    rw [e, List.filter_filter]
    refine congrArg bothWays (List.filter_congr fun r _ => ?_)
    rw [List.map_append]
    exact nots _ _ _
  · rcases List.mem_append.mp hx with z | z
    · exact R.sub x z
    · obtain ⟨st, hst, rfl⟩ := List.mem_map.mp z
      exact (both_pc P (inBoth st (List.dropLast_subset _ hst))).2
  · intro z
    exact R.one (List.append_eq_nil_iff.mp z).1
  · rw [List.map_append] at hu
    rcases List.mem_append.mp hu with z | z
    · have y := R.used r hr z
      exact ⟨hadUp _ y.1, hadUp _ y.2⟩
    · obtain ⟨st, hst, e⟩ := List.mem_map.mp z
      have en := run_ends run st hst
      have s1 : st.2.1 ∈ moreF had row := by
        rcases en.1 with y | y
        · rw [y]
          exact hadUp _ ha
        · exact List.mem_append_right _ y
      have s2 : st.2.2 ∈ moreF had row := by
        rcases en.2 with y | y
        · rw [y]
          exact hadUp _ hc
        · exact List.mem_append_right _ y
      rcases both_nums P (inBoth st hst) (mem_both.mpr (.inl hr)) e with y | y
      · rw [y]
        exact ⟨s1, s2⟩
      · rw [y]
        exact ⟨s2, s1⟩
  · obtain ⟨_, h, hh, l1⟩ := near x hx
    obtain ⟨⟨h', hh', l2⟩, _⟩ := near y hy
    exact (l1.trans (ledUp (R.strong h hh h' hh'))).trans l2
  · rcases List.mem_append.mp hst with z | z
    · exact R.mem st z
    · exact inBoth st z
  · rw [List.map_append, List.nodup_append]
    refine ⟨R.nd, I.nd, fun x hx y hy e => ?_⟩
    obtain ⟨st, hst, ey⟩ := List.mem_map.mp hy
    have z := (rowsI_in P R st (I.mem st hst)).2
    rw [ey, ← e] at z
    exact z hx
theorem left_less {row : List TRow} (I : RowIs steps had row) : (leftF steps row).length < steps.length := by
  obtain ⟨st, hst⟩ := List.exists_mem_of_ne_nil _ I.ne
  have z := filter_less (l := steps) (f := fun st => decide (st.1 ∉ row.map (·.1))) (g := fun _ => true) (fun _ _ _ => rfl) ⟨st, I.mem st hst, rfl, decide_eq_false fun y => y (List.mem_map.mpr ⟨st, hst, rfl⟩)⟩
  have e : steps.filter (fun _ => true) = steps := List.filter_eq_self.mpr fun _ _ => rfl
  rw [e] at z
  exact z
/-- at the end -/
theorem rows_all (P : PieceI m E pc) (m16 : m ≤ 16) : ∀ {n : Nat} {steps : List TRow} {had : List Nat} {told : List TRow}, RowsI E pc steps had told → steps.length ≤ n → ∃ had', RowsI E pc [] had' (told ++ (rowsF n steps had).flatten)
  | 0, steps, had, told, R, h => by
    have e : steps = [] := List.length_eq_zero_iff.mp (Nat.le_zero.mp h)
    subst e
    refine ⟨had, ?_⟩
    show RowsI E pc [] had (told ++ [])
    rw [List.append_nil]
    exact R
  | n + 1, steps, had, told, R, h => by
    unfold rowsF
    by_cases e : steps.isEmpty = true
    · rw [if_pos e]
      have e := List.isEmpty_iff.mp e
      subst e
      refine ⟨had, ?_⟩
      show RowsI E pc [] had (told ++ [])
      rw [List.append_nil]
      exact R
    · rw [if_neg e]
      have ne : steps ≠ [] := fun z => e (List.isEmpty_iff.mpr z)
      obtain ⟨f, fs, k, ks, A⟩ := row_at P m16 R ne
      have I := row_is P m16 R A
      have z := rows_all P m16 (n := n) (row_next P R I) (by have := left_less I; omega)
      rw [List.flatten_cons, ← List.append_assoc]
      exact z
theorem rows_start (P : PieceI m E pc) {h : Nat} (hh : h ∈ pc) : RowsI E pc (bothWays E) [h] [] where
  st := by
    congr 1
    exact (List.filter_eq_self.mpr fun r _ => rfl).symm
  sub := fun x hx => by rw [List.mem_singleton.mp hx]; exact hh
  one := by simp
  used := fun r _ hu => absurd hu (by simp)
  strong := fun x hx y hy => by
    rw [List.mem_singleton.mp hx, List.mem_singleton.mp hy]
    exact .stay _
  mem := fun st hst => absurd hst List.not_mem_nil
  nd := List.nodup_nil
/-- when no step is left, each place of the piece is had, each street told -/
theorem rows_done (P : PieceI m E pc) {had' : List Nat} {T : List TRow} (R : RowsI E pc [] had' T) : (∀ r ∈ E, r.1 ∈ T.map (·.1)) ∧ ∀ x ∈ pc, ∀ y ∈ pc, Led (ends T) x y := by
  have all : ∀ r ∈ E, r.1 ∈ T.map (·.1) := fun r hr => by
    refine Classical.byContradiction fun no => ?_
    have z : r ∈ bothWays (E.filter fun r => decide (r.1 ∉ T.map (·.1))) := mem_both.mpr (.inl (List.mem_filter.mpr ⟨hr, decide_eq_true no⟩))
    rw [← R.st] at z
    exact absurd z List.not_mem_nil
  obtain ⟨h, hh⟩ := List.exists_mem_of_ne_nil _ R.one
  have full : ∀ x ∈ pc, x ∈ had' := fun x hx => (P.conn h (R.sub h hh) x hx).closed (S := fun q => q ∈ had') hh fun q hq => by
    obtain ⟨e, he, rfl⟩ := List.mem_map.mp hq
    have z := R.used e he (all e he)
    exact ⟨fun _ => z.2, fun _ => z.1⟩
  exact ⟨all, fun x hx y hy => R.strong x (full x hx) y (full y hy)⟩
end
end Own

set_option Elab.async false
set_option linter.all false
set_option maxRecDepth 100000
set_option maxHeartbeats 4000000
/-! Good ways: pure. -/
namespace Own
open L2
noncomputable def ledOf (m : Nat) (ws : Join) (p : Nat) : List Nat := (List.range m).filter fun q => @decide (Led ws p q) (Classical.propDecidable _)
theorem mem_led {m p q : Nat} {ws : Join} : q ∈ ledOf m ws p ↔ q < m ∧ Led ws p q := by
  unfold ledOf
  rw [List.mem_filter, List.mem_range]
  exact and_congr_right fun _ => @decide_eq_true_iff _ (Classical.propDecidable _)
theorem led_up {m p : Nat} {ws : Join} : (ledOf m ws p).Pairwise (· < ·) := (range_up m).filter _
theorem led_len {m p : Nat} {ws : Join} : (ledOf m ws p).length ≤ m := by
  have z := List.length_filter_le (fun q => @decide (Led ws p q) (Classical.propDecidable _)) (List.range m)
  rw [List.length_range] at z
  exact z
/-- all places are led to just if as many are -/
theorem led_all {m p : Nat} {ws : Join} : (ledOf m ws p).length = m ↔ ∀ q, q < m → Led ws p q := by
  constructor
  · intro h q hq
    have e : ledOf m ws p = List.range m := List.filter_eq_self.mpr (by
      refine List.length_filter_eq_length_iff.mp ?_
      rw [List.length_range]
      exact h)
    exact (mem_led.mp (e ▸ List.mem_range.mpr hq)).2
  · intro h
    have e : ledOf m ws p = List.range m := List.filter_eq_self.mpr fun q hq => (@decide_eq_true_iff _ (Classical.propDecidable _)).mpr (h q (List.mem_range.mp hq))
    rw [e, List.length_range]
/-- without the street its ends are apart -/
noncomputable def bridge (rows : List TRow) (r : TRow) : Bool := @decide (¬ Way (ends (rows.filter fun q => decide (q.1 ≠ r.1))) r.2.1 r.2.2) (Classical.propDecidable _)
noncomputable def piecesOf (m : Nat) (rows : List TRow) : List (List Nat) := partsOf m (ends (rows.filter fun q => decide (q ∉ rows.filter (bridge rows))))
noncomputable def goodB (m : Nat) (rows ways : List TRow) : Bool := decide (ways.map normR = rows.map normR) && (decide ((ledOf m (ends ways) 0).length = m) && decide ((ledOf m (ends (ways.map flipR)) 0).length = m))
/-! ### ways by which each step comes back are good ways -/
theorem led_of_way {ws : Join} {a b : Nat} (back : ∀ q ∈ ws, Led ws q.2 q.1) (w : Way ws a b) : Led ws a b := by
  induction w with
  | stay => exact .stay _
  | fwd _ e ih => exact .go ih e
  | bwd _ e ih => exact ih.trans (back _ e)
theorem way_of_led {ws : Join} {a b : Nat} (l : Led ws a b) : Way ws a b := by
  induction l with
  | stay => exact .stay _
  | go _ e ih => exact .fwd ih e
def swapJ (ws : Join) : Join := ws.map fun q => (q.2, q.1)
theorem led_swap {ws : Join} {a b : Nat} (l : Led ws a b) : Led (swapJ ws) b a := by
  induction l with
  | stay => exact .stay _
  | @go b c l e ih => exact (Led.go (.stay c) (List.mem_map.mpr ⟨(b, c), e, rfl⟩)).trans ih
theorem ends_flip (ws : List TRow) : ends (ws.map flipR) = swapJ (ends ws) := by
  unfold ends swapJ
  rw [List.map_map, List.map_map]
  rfl
/-- the same streets, whichever way -/
theorem way_norm {rows ws : List TRow} (e : ws.map normR = rows.map normR) {a b : Nat} (w : Way (ends rows) a b) : Way (ends ws) a b := by
  have key : ∀ q ∈ ends rows, (q.1, q.2) ∈ ends ws ∨ (q.2, q.1) ∈ ends ws := fun q hq => by
    obtain ⟨r, hr, rfl⟩ := List.mem_map.mp hq
    have mem : normR r ∈ ws.map normR := e ▸ List.mem_map.mpr ⟨r, hr, rfl⟩
    obtain ⟨y, hy, ey⟩ := List.mem_map.mp mem
    have e1 : min y.2.1 y.2.2 = min r.2.1 r.2.2 := congrArg (fun z : TRow => z.2.1) ey
    have e2 : max y.2.1 y.2.2 = max r.2.1 r.2.2 := congrArg (fun z : TRow => z.2.2) ey
    have cases2 : (y.2.1 = r.2.1 ∧ y.2.2 = r.2.2) ∨ (y.2.1 = r.2.2 ∧ y.2.2 = r.2.1) := by omega
    rcases cases2 with ⟨h1, h2⟩ | ⟨h1, h2⟩
    · exact .inl (List.mem_map.mpr ⟨y, hy, Prod.ext h1 h2⟩)
    · exact .inr (List.mem_map.mpr ⟨y, hy, Prod.ext h1 h2⟩)
  induction w with
  | stay => exact .stay _
  | fwd _ h ih =>
    rcases key _ h with k | k
    · exact .fwd ih k
    · exact .bwd ih k
  | bwd _ h ih =>
    rcases key _ h with k | k
    · exact .bwd ih k
    · exact .fwd ih k
/-- one part: each place is joined to the first -/
theorem one_part {m : Nat} {ps : Join} (h : (partsOf m ps).length = 1) (m1 : 1 ≤ m) {q : Nat} (hq : q < m) : Way ps 0 q := by
  obtain ⟨k, h1, h2, h3⟩ := least_of ps q
  have l0 : Least ps 0 := fun x hx => absurd hx (Nat.not_lt_zero x)
  have i0 : 0 ∈ heads m ps := mem_heads.mpr ⟨by omega, l0⟩
  have ik : k ∈ heads m ps := mem_heads.mpr ⟨by omega, h3⟩
  unfold partsOf at h
  rw [List.length_map] at h
  obtain ⟨x, hx⟩ := List.length_eq_one_iff.mp h
  rw [hx, List.mem_singleton] at i0 ik
  rw [i0, ← ik]
  exact h2
theorem good_of {m : Nat} {rows ws : List TRow} (e : ws.map normR = rows.map normR) (one : (partsOf m (ends rows)).length = 1) (m1 : 1 ≤ m) (back : ∀ q ∈ ends ws, Led (ends ws) q.2 q.1) : goodB m rows ws = true := by
  have all : ∀ q, q < m → Led (ends ws) 0 q := fun q hq => led_of_way back (way_norm e (one_part one m1 hq))
  have home : ∀ q, q < m → Led (ends ws) q 0 := fun q hq => led_of_way back (way_norm e (one_part one m1 hq)).symm
  have h2 : ∀ q, q < m → Led (ends (ws.map flipR)) 0 q := fun q hq => by
    rw [ends_flip]
    exact led_swap (home q hq)
  unfold goodB
  rw [decide_eq_true e, decide_eq_true (led_all.mpr all), decide_eq_true (led_all.mpr h2)]
  rfl
/-- and no others are: of good ways each step comes back -/
theorem back_of {m : Nat} {rows ws : List TRow} (h : goodB m rows ws = true) {a b : Nat} (ha : a < m) (hb : b < m) : Led (ends ws) a b := by
  unfold goodB at h
  rw [Bool.and_eq_true, Bool.and_eq_true] at h
  have l1 := led_all.mp (of_decide_eq_true h.2.1) b hb
  have l2 := led_all.mp (of_decide_eq_true h.2.2) a ha
  rw [ends_flip] at l2
  have l3 := led_swap l2
  have twice : swapJ (swapJ (ends ws)) = ends ws := by
    unfold swapJ
    rw [List.map_map]
    have e : ((fun q : Nat × Nat => (q.2, q.1)) ∘ fun q : Nat × Nat => (q.2, q.1)) = id := funext fun q => rfl
    rw [e, List.map_id]
  rw [twice] at l3
  exact l3.trans l1
noncomputable def canB (m : Nat) (rows : List TRow) : Bool := decide ((partsOf m (ends rows)).length = 1) && (rows.filter (bridge rows)).isEmpty
/-- what one_way tells where it can -/
structure Ways (fW : Nat → List TRow → List TRow) : Prop where
  good : ∀ m rows n, RowsOk m rows n → 1 ≤ m → m ≤ 16 → canB m rows = true → goodB m rows (fW m rows) = true
theorem norm_flip (ws : List TRow) : (ws.map flipR).map normR = ws.map normR := by
  rw [List.map_map]
  refine List.map_congr_left fun r _ => ?_
  show (r.1, min r.2.2 r.2.1, max r.2.2 r.2.1) = (r.1, min r.2.1 r.2.2, max r.2.1 r.2.2)
  rw [Nat.min_comm, Nat.max_comm]
theorem flip_flip (ws : List TRow) : (ws.map flipR).map flipR = ws := by
  rw [List.map_map]
  have e : (flipR ∘ flipR) = id := funext fun r => rfl
  rw [e, List.map_id]
theorem good_flip {m : Nat} {rows ws : List TRow} (h : goodB m rows ws = true) : goodB m rows (ws.map flipR) = true := by
  unfold goodB at h ⊢
  rw [norm_flip, flip_flip]
  rw [Bool.and_eq_true, Bool.and_eq_true] at h ⊢
  exact ⟨h.1, h.2.2, h.2.1⟩
theorem good_len {m : Nat} {rows ws : List TRow} (h : goodB m rows ws = true) : ws.length = rows.length := by
  unfold goodB at h
  rw [Bool.and_eq_true] at h
  have e := congrArg List.length (of_decide_eq_true h.1)
  rw [List.length_map, List.length_map] at e
  exact e
theorem good_in {m : Nat} {rows ws : List TRow} (h : goodB m rows ws = true) (inm : ∀ q ∈ ends rows, q.1 < m ∧ q.2 < m) : ∀ q ∈ ends ws, q.1 < m ∧ q.2 < m := fun q hq => by
  unfold goodB at h
  rw [Bool.and_eq_true] at h
  have e := of_decide_eq_true h.1
  obtain ⟨r, hr, rfl⟩ := List.mem_map.mp hq
  have mem : normR r ∈ rows.map normR := e ▸ List.mem_map.mpr ⟨r, hr, rfl⟩
  obtain ⟨y, hy, ey⟩ := List.mem_map.mp mem
  have b := inm _ (List.mem_map.mpr ⟨y, hy, rfl⟩)
  have e1 : min y.2.1 y.2.2 = min r.2.1 r.2.2 := congrArg (fun z : TRow => z.2.1) ey
  have e2 : max y.2.1 y.2.2 = max r.2.1 r.2.2 := congrArg (fun z : TRow => z.2.2) ey
  have b1 : y.2.1 < m := b.1
  have b2 : y.2.2 < m := b.2
  show r.2.1 < m ∧ r.2.2 < m
  constructor <;> omega
/-! ### streets that don't part -/
noncomputable def solid (rows : List TRow) : List TRow := rows.filter fun r => !bridge rows r
theorem bridge_true {rows : List TRow} {r : TRow} : bridge rows r = true ↔ ¬ Way (ends (rows.filter fun q => decide (q.1 ≠ r.1))) r.2.1 r.2.2 := by
  unfold bridge
  exact @decide_eq_true_iff _ (Classical.propDecidable _)
theorem bridge_false {rows : List TRow} {r : TRow} : bridge rows r = false ↔ Way (ends (rows.filter fun q => decide (q.1 ≠ r.1))) r.2.1 r.2.2 := by
  rw [← Bool.not_eq_true, bridge_true]
  exact Classical.not_not
def OneNum (rows : List TRow) : Prop := ∀ x ∈ rows, ∀ y ∈ rows, x.1 = y.1 → x = y
theorem rise_one {rows : List TRow} (h : rows.Pairwise fun a b => a.1 < b.1) : OneNum rows := by
  induction h with
  | nil => exact fun x hx => absurd hx List.not_mem_nil
  | @cons a l h1 _ ih =>
    intro x hx y hy e
    rcases List.mem_cons.mp hx with hx | hx <;> rcases List.mem_cons.mp hy with hy | hy
    · rw [hx, hy]
    · have := h1 y hy
      rw [hx] at e
      omega
    · have := h1 x hx
      rw [hy] at e
      omega
    · exact ih x hx y hy e
theorem solid_in {rows : List TRow} {r : TRow} : r ∈ solid rows ↔ r ∈ rows ∧ bridge rows r = false := by
  unfold solid
  rw [List.mem_filter]
  exact and_congr_right fun _ => by cases bridge rows r <;> simp
theorem solid_kept (rows : List TRow) (u : OneNum rows) : (rows.filter fun q => decide (q ∉ rows.filter (bridge rows))) = solid rows ∧ (rows.filter fun q => decide (q.1 ∉ (rows.filter (bridge rows)).map (·.1))) = solid rows := by
  have key : ∀ q ∈ rows, (decide (q ∉ rows.filter (bridge rows)) = !bridge rows q) ∧ (decide (q.1 ∉ (rows.filter (bridge rows)).map (·.1)) = !bridge rows q) := fun q hq => by
    cases h : bridge rows q with
    | true =>
      have z : q ∈ rows.filter (bridge rows) := List.mem_filter.mpr ⟨hq, h⟩
      exact ⟨decide_eq_false fun y => y z, decide_eq_false fun y => y (List.mem_map.mpr ⟨q, z, rfl⟩)⟩
    | false =>
      refine ⟨decide_eq_true fun y => ?_, decide_eq_true fun y => ?_⟩
      · have := (List.mem_filter.mp y).2
        rw [h] at this
        cases this
      · obtain ⟨x, hx, e⟩ := List.mem_map.mp y
        obtain ⟨x1, x2⟩ := List.mem_filter.mp hx
        rw [u x x1 q hq e, h] at x2
        cases x2
  exact ⟨List.filter_congr fun q hq => (key q hq).1, List.filter_congr fun q hq => (key q hq).2⟩
/-- a set of streets: those for which p holds -/
def Sub (rows : List TRow) (p : TRow → Prop) : Join → Prop := fun J => ∀ q, q ∈ J ↔ ∃ r ∈ rows, p r ∧ r.2 = q
theorem mem_ends_filter {rows : List TRow} {f : TRow → Bool} {q : Nat × Nat} : q ∈ ends (rows.filter f) ↔ ∃ r ∈ rows, f r = true ∧ r.2 = q := by
  unfold ends
  rw [List.mem_map]
  constructor
  · rintro ⟨r, hr, e⟩
    obtain ⟨h1, h2⟩ := List.mem_filter.mp hr
    exact ⟨r, h1, h2, e⟩
  · rintro ⟨r, h1, h2, e⟩
    exact ⟨r, List.mem_filter.mpr ⟨h1, h2⟩, e⟩
theorem way_sub {A B : Join} {a b : Nat} (w : Way A a b) (h : ∀ q ∈ A, q ∈ B) : Way B a b := w.mono h
/-- streets that part, taken away: what didn't part doesn't -/
theorem two_left {rows : List TRow} (u : OneNum rows) {r : TRow} (hr : r ∈ rows) (hb : bridge rows r = false) : ∀ bs : List TRow, (∀ b ∈ bs, b ∈ rows ∧ bridge rows b = true) → Way (ends (rows.filter fun q => decide (q.1 ∉ bs.map (·.1) ∧ q.1 ≠ r.1))) r.2.1 r.2.2
  | [], _ => by
    refine (bridge_false.mp hb).mono fun q hq => ?_
    obtain ⟨x, h1, h2, e⟩ := mem_ends_filter.mp hq
    exact mem_ends_filter.mpr ⟨x, h1, decide_eq_true ⟨List.not_mem_nil, of_decide_eq_true h2⟩, e⟩
  | b :: bs, hbs => by
    have ih := two_left u hr hb bs fun x hx => hbs x (List.mem_cons_of_mem _ hx)
    obtain ⟨hb1, hb2⟩ := hbs b (List.mem_cons_self ..)
    have rb : ∀ x : TRow, x ∈ rows → bridge rows x = true → r.1 ≠ x.1 := fun x hx h e => by
      rw [u r hr x hx e, h] at hb
      cases hb
    have rbs : r.1 ∉ bs.map (·.1) := fun y => by
      obtain ⟨x, hx, e⟩ := List.mem_map.mp y
      have z := hbs x (List.mem_cons_of_mem _ hx)
      exact rb x z.1 z.2 e.symm
    by_cases inb : b.1 ∈ bs.map (·.1)
    · refine ih.mono fun q hq => ?_
      obtain ⟨x, h1, h2, e⟩ := mem_ends_filter.mp hq
      have h2 := of_decide_eq_true h2
      refine mem_ends_filter.mpr ⟨x, h1, decide_eq_true ⟨fun y => ?_, h2.2⟩, e⟩
      rcases List.mem_cons.mp y with y | y
      · exact h2.1 (y ▸ inb)
      · exact h2.1 y
    · -- the streets behind, and b
      generalize hA : ends (rows.filter fun q => decide (q.1 ∉ (b :: bs).map (·.1) ∧ q.1 ≠ r.1)) = A
      have split : ∀ q ∈ ends (rows.filter fun q => decide (q.1 ∉ bs.map (·.1) ∧ q.1 ≠ r.1)), q ∈ A ++ [b.2] := fun q hq => by
        obtain ⟨x, h1, h2, e⟩ := mem_ends_filter.mp hq
        have h2 := of_decide_eq_true h2
        by_cases xb : x.1 = b.1
        · rw [u x h1 b hb1 xb] at e
          exact List.mem_append_right _ (List.mem_singleton.mpr e.symm)
        · refine List.mem_append_left _ ?_
          rw [← hA]
          refine mem_ends_filter.mpr ⟨x, h1, decide_eq_true ⟨fun y => ?_, h2.2⟩, e⟩
          rcases List.mem_cons.mp y with y | y
          · exact xb y
          · exact h2.1 y
      have upA : ∀ q ∈ A, q ∈ ends (rows.filter fun q => decide (q.1 ≠ b.1)) := fun q hq => by
        rw [← hA] at hq
        obtain ⟨x, h1, h2, e⟩ := mem_ends_filter.mp hq
        have h2 := of_decide_eq_true h2
        exact mem_ends_filter.mpr ⟨x, h1, decide_eq_true fun y => h2.1 (y ▸ List.mem_cons_self ..), e⟩
      have rIn : r.2 ∈ ends (rows.filter fun q => decide (q.1 ≠ b.1)) := mem_ends_filter.mpr ⟨r, hr, decide_eq_true (rb b hb1 hb2), rfl⟩
      have no := bridge_true.mp hb2
      have w := ih.mono split
      rcases way_snoc.mp w with h | ⟨h1, h2⟩ | ⟨h1, h2⟩
      · exact h
      · refine (no ?_).elim
        exact ((h1.mono upA).symm.trans (.fwd (.stay _) rIn)).trans (h2.mono upA).symm
      · refine (no ?_).elim
        exact ((h2.mono upA).trans (.bwd (.stay _) rIn)).trans (h1.mono upA)
theorem two_solid {rows : List TRow} (u : OneNum rows) {r : TRow} (h : r ∈ solid rows) : Way (ends ((solid rows).filter fun q => decide (q.1 ≠ r.1))) r.2.1 r.2.2 := by
  obtain ⟨hr, hb⟩ := solid_in.mp h
  have w := two_left u hr hb (rows.filter (bridge rows)) fun b hb => List.mem_filter.mp hb
  refine w.mono fun q hq => ?_
  obtain ⟨x, h1, h2, e⟩ := mem_ends_filter.mp hq
  have h2 := of_decide_eq_true h2
  refine mem_ends_filter.mpr ⟨x, ?_, decide_eq_true h2.2, e⟩
  rw [← (solid_kept rows u).2]
  exact List.mem_filter.mpr ⟨h1, decide_eq_true h2.1⟩
/-- a walk stays within -/
theorem way_within {G G' : List TRow} {S : Nat → Prop} {a b : Nat} (w : Way (ends G) a b) (ha : S a) (h : ∀ e ∈ G, S e.2.1 ∨ S e.2.2 → S e.2.1 ∧ S e.2.2 ∧ e ∈ G') : S b ∧ Way (ends G') a b := by
  induction w with
  | stay => exact ⟨ha, .stay _⟩
  | fwd _ e ih =>
    obtain ⟨s, w⟩ := ih
    obtain ⟨x, hx, ex⟩ := List.mem_map.mp e
    have e1 := congrArg Prod.fst ex
    have e2 := congrArg Prod.snd ex
    dsimp only at e1 e2
    obtain ⟨_, s2, x2⟩ := h x hx (.inl (by rw [e1]; exact s))
    exact ⟨e2 ▸ s2, .fwd w (List.mem_map.mpr ⟨x, x2, ex⟩)⟩
  | bwd _ e ih =>
    obtain ⟨s, w⟩ := ih
    obtain ⟨x, hx, ex⟩ := List.mem_map.mp e
    have e1 := congrArg Prod.fst ex
    have e2 := congrArg Prod.snd ex
    dsimp only at e1 e2
    obtain ⟨s1, _, x2⟩ := h x hx (.inr (by rw [e2]; exact s))
    exact ⟨e1 ▸ s1, .bwd w (List.mem_map.mpr ⟨x, x2, ex⟩)⟩
def pieceE (rows : List TRow) (pc : List Nat) : List TRow := rows.filter fun r => decide (r.2.1 ∈ pc)
theorem cls_ends {m h : Nat} {G : List TRow} (inm : ∀ q ∈ ends G, q.1 < m ∧ q.2 < m) {r : TRow} (hr : r ∈ G) : r.2.1 ∈ cls m (ends G) h ↔ r.2.2 ∈ cls m (ends G) h := by
  have e : r.2 ∈ ends G := List.mem_map.mpr ⟨r, hr, rfl⟩
  have b := inm _ e
  rw [mem_cls, mem_cls]
  exact ⟨fun z => ⟨b.2, .fwd z.2 e⟩, fun z => ⟨b.1, .bwd z.2 e⟩⟩
theorem piece_I {m : Nat} {rows : List TRow} (u : OneNum rows) (inm : ∀ q ∈ ends rows, q.1 < m ∧ q.2 < m) (h : Nat) : PieceI m (pieceE (solid rows) (cls m (ends (solid rows)) h)) (cls m (ends (solid rows)) h) := by
  have inS : ∀ q ∈ ends (solid rows), q.1 < m ∧ q.2 < m := fun q hq => by
    obtain ⟨x, hx, e⟩ := List.mem_map.mp hq
    exact inm q (List.mem_map.mpr ⟨x, (solid_in.mp hx).1, e⟩)
  have ce := fun {r : TRow} (hr : r ∈ solid rows) => cls_ends (h := h) inS hr
  have inE : ∀ {r : TRow}, r ∈ pieceE (solid rows) (cls m (ends (solid rows)) h) ↔ r ∈ solid rows ∧ r.2.1 ∈ cls m (ends (solid rows)) h := fun {r} => by
    unfold pieceE
    rw [List.mem_filter, decide_eq_true_iff]
  refine ⟨fun x hx => (mem_cls.mp hx).1, fun r hr => ?_, fun x hx y hy => ?_, fun r hr => ?_, fun x hx y hy e => ?_⟩
  · obtain ⟨h1, h2⟩ := inE.mp hr
    exact ⟨h2, (ce h1).mp h2⟩
  · have w := (mem_cls.mp hx).2.symm.trans (mem_cls.mp hy).2
    exact (way_within (S := fun q => q ∈ cls m (ends (solid rows)) h) w hx fun e he s => by
      have z : e.2.1 ∈ cls m (ends (solid rows)) h := s.elim id (ce he).mpr
      exact ⟨z, (ce he).mp z, inE.mpr ⟨he, z⟩⟩).2
  · obtain ⟨h1, h2⟩ := inE.mp hr
    exact (way_within (S := fun q => q ∈ cls m (ends (solid rows)) h) (two_solid u h1) h2 fun e he s => by
      obtain ⟨he1, he2⟩ := List.mem_filter.mp he
      have z : e.2.1 ∈ cls m (ends (solid rows)) h := s.elim id (ce he1).mpr
      exact ⟨z, (ce he1).mp z, List.mem_filter.mpr ⟨inE.mpr ⟨he1, z⟩, he2⟩⟩).2
  · exact u x (solid_in.mp (inE.mp hx).1).1 y (solid_in.mp (inE.mp hy).1).1 e
/-! ### what handles tells, what one_way tells -/
def pieceRows (rows : List TRow) (pc : List Nat) : List (List TRow) := rowsF (bothWays (pieceE rows pc)).length (bothWays (pieceE rows pc)) (pc.take 1)
noncomputable def handlesF (m : Nat) (rows : List TRow) : List (List TRow) := (piecesOf m rows).flatMap (pieceRows (solid rows))
noncomputable def fW (m : Nat) (rows : List TRow) : List TRow := rows.map fun r => if r ∈ (handlesF m rows).flatten then r else flipR r
theorem norm_fW (m : Nat) (rows : List TRow) : (fW m rows).map normR = rows.map normR := by
  unfold fW
  rw [List.map_map]
  refine List.map_congr_left fun r _ => ?_
  show normR (if r ∈ (handlesF m rows).flatten then r else flipR r) = normR r
  split
  · rfl
  · exact normR_flipR r
theorem pieces_eq (m : Nat) {rows : List TRow} (u : OneNum rows) : piecesOf m rows = (heads m (ends (solid rows))).map (cls m (ends (solid rows))) := by
  unfold piecesOf partsOf
  rw [(solid_kept rows u).1]
theorem cls_take {m h : Nat} {ps : Join} (hm : h < m) (l : Least ps h) : (cls m ps h).take 1 = [h] := by
  have hin : h ∈ cls m ps h := mem_cls.mpr ⟨hm, .stay _⟩
  have up : (cls m ps h).Pairwise (· < ·) := cls_up
  have least : ∀ x ∈ cls m ps h, h ≤ x := fun x hx => by
    refine Classical.byContradiction fun n => ?_
    exact l x (by omega) (mem_cls.mp hx).2.symm
  cases e : cls m ps h with
  | nil =>
    rw [e] at hin
    exact absurd hin List.not_mem_nil
  | cons y ys =>
    rw [e] at hin up least
    have y1 := least y (List.mem_cons_self ..)
    rcases List.mem_cons.mp hin with z | z
    · rw [z]
      rfl
    · have := (List.pairwise_cons.mp up).1 h z
      omega
/-- the rows of one piece, all told -/
theorem piece_done {m h : Nat} {rows : List TRow} (u : OneNum rows) (inm : ∀ q ∈ ends rows, q.1 < m ∧ q.2 < m) (m16 : m ≤ 16) (hm : h < m) (l : Least (ends (solid rows)) h) :
    ∃ had', RowsI (pieceE (solid rows) (cls m (ends (solid rows)) h)) (cls m (ends (solid rows)) h) [] had' (pieceRows (solid rows) (cls m (ends (solid rows)) h)).flatten := by
  have P := piece_I u inm h
  have s := rows_start P (mem_cls.mpr ⟨hm, .stay h⟩ : h ∈ cls m (ends (solid rows)) h)
  obtain ⟨had', R⟩ := rows_all P m16 s (Nat.le_refl _)
  unfold pieceRows
  rw [cls_take hm l]
  exact ⟨had', R⟩
/-- in a town that can be made one-way there is one piece, and all streets are in it -/
theorem can_facts {m : Nat} {rows : List TRow} (u : OneNum rows) (inm : ∀ q ∈ ends rows, q.1 < m ∧ q.2 < m) (m1 : 1 ≤ m) (can : canB m rows = true) :
    solid rows = rows ∧ heads m (ends rows) = [0] ∧ (∀ q, q < m → q ∈ cls m (ends rows) 0) ∧ pieceE rows (cls m (ends rows) 0) = rows ∧ (partsOf m (ends rows)).length = 1 := by
  unfold canB at can
  rw [Bool.and_eq_true] at can
  have one := of_decide_eq_true can.1
  have none := List.isEmpty_iff.mp can.2
  have sol : solid rows = rows := List.filter_eq_self.mpr fun r hr => by
    cases z : bridge rows r with
    | false => rfl
    | true => exact absurd z (List.filter_eq_nil_iff.mp none r hr)
  have all : ∀ q, q < m → q ∈ cls m (ends rows) 0 := fun q hq => mem_cls.mpr ⟨hq, one_part one m1 hq⟩
  have hd : heads m (ends rows) = [0] := by
    have i0 : 0 ∈ heads m (ends rows) := mem_heads.mpr ⟨by omega, fun x hx => absurd hx (Nat.not_lt_zero x)⟩
    have len : (heads m (ends rows)).length = 1 := by
      unfold partsOf at one
      rw [List.length_map] at one
      exact one
    obtain ⟨x, hx⟩ := List.length_eq_one_iff.mp len
    rw [hx, List.mem_singleton] at i0
    rw [hx, ← i0]
  exact ⟨sol, hd, all, List.filter_eq_self.mpr fun r hr => decide_eq_true (all _ (inm _ (List.mem_map.mpr ⟨r, hr, rfl⟩)).1), one⟩
theorem can_told {m : Nat} {rows : List TRow} (u : OneNum rows) (inm : ∀ q ∈ ends rows, q.1 < m ∧ q.2 < m) (m1 : 1 ≤ m) (m16 : m ≤ 16) (can : canB m rows = true) :
    ((∀ st ∈ (handlesF m rows).flatten, st ∈ bothWays rows) ∧ ((handlesF m rows).flatten.map (·.1)).Nodup ∧ (∀ r ∈ rows, r.1 ∈ (handlesF m rows).flatten.map (·.1)) ∧ ∀ x, x < m → ∀ y, y < m → Led (ends (handlesF m rows).flatten) x y) := by
  obtain ⟨sol, hd, all, pe, _⟩ := can_facts u inm m1 can
  have l0 : Least (ends (solid rows)) 0 := fun x hx => absurd hx (Nat.not_lt_zero x)
  obtain ⟨had', R⟩ := piece_done u inm m16 (h := 0) m1 l0
  have P := piece_I u inm 0
  have hF : (handlesF m rows).flatten = (pieceRows (solid rows) (cls m (ends (solid rows)) 0)).flatten := by
    unfold handlesF
    rw [pieces_eq m u, sol, hd]
    show (pieceRows rows (cls m (ends rows) 0) ++ []).flatten = _
    rw [List.append_nil]
  rw [hF]
  have D := rows_done P R
  rw [sol] at R D ⊢
  rw [pe] at R D
  exact ⟨R.mem, R.nd, D.1, fun x hx y hy => D.2 x (all x hx) y (all y hy)⟩
theorem mem_fW {m : Nat} {rows : List TRow} (u : OneNum rows) (inm : ∀ q ∈ ends rows, q.1 < m ∧ q.2 < m) (m1 : 1 ≤ m) (m16 : m ≤ 16) (can : canB m rows = true) {x : TRow} : x ∈ fW m rows ↔ x ∈ (handlesF m rows).flatten := by
  obtain ⟨h1, h2, h3, h4⟩ := can_told u inm m1 m16 can
  unfold fW
  rw [List.mem_map]
  generalize (handlesF m rows).flatten = T at *
  have oneT : ∀ a ∈ T, ∀ b ∈ T, a.1 = b.1 → a = b := by
    clear h1 h3 h4
    induction T with
    | nil => exact fun a ha => absurd ha List.not_mem_nil
    | cons t T ih =>
      rw [List.map_cons, List.nodup_cons] at h2
      intro a ha b hb e
      rcases List.mem_cons.mp ha with ha | ha <;> rcases List.mem_cons.mp hb with hb | hb
      · rw [ha, hb]
      · exact (h2.1 (List.mem_map.mpr ⟨b, hb, by rw [← e, ha]⟩)).elim
      · exact (h2.1 (List.mem_map.mpr ⟨a, ha, by rw [e, hb]⟩)).elim
      · exact ih h2.2 a ha b hb e
  constructor
  · rintro ⟨r, hr, e⟩
    by_cases ht : r ∈ T
    · rw [if_pos ht] at e
      exact e ▸ ht
    · rw [if_neg ht] at e
      obtain ⟨st, hst, es⟩ := List.mem_map.mp (h3 r hr)
      rcases mem_both.mp (h1 st hst) with z | z
      · exact (ht (u st z r hr es ▸ hst)).elim
      · have ef : flipR st = r := u _ z r hr es
        have e2 : flipR r = st := by rw [← ef]; rfl
        rw [← e, e2]
        exact hst
  · intro hx
    rcases mem_both.mp (h1 x hx) with z | z
    · exact ⟨x, z, if_pos hx⟩
    · refine ⟨flipR x, z, ?_⟩
      by_cases ht : flipR x ∈ T
      · rw [if_pos ht]
        exact oneT _ ht _ hx rfl
      · rw [if_neg ht]
        rfl
theorem ways_fW : Ways fW where
  good := fun m rows n R m1 m16 can => by
    have u := rise_one R.rise
    have inm : ∀ q ∈ ends rows, q.1 < m ∧ q.2 < m := fun q hq => by
      obtain ⟨r, hr, rfl⟩ := List.mem_map.mp hq
      have z := R.ends r hr
      exact ⟨z.1, z.2.1⟩
    have T := can_told u inm m1 m16 can
    have M := fun {x : TRow} => mem_fW (x := x) u inm m1 m16 can
    refine good_of (norm_fW m rows) (can_facts u inm m1 can).2.2.2.2 m1 fun q hq => ?_
    have up : ∀ q ∈ ends (handlesF m rows).flatten, q ∈ ends (fW m rows) := fun q hq => by
      obtain ⟨x, hx, e⟩ := List.mem_map.mp hq
      exact List.mem_map.mpr ⟨x, M.mpr hx, e⟩
    obtain ⟨x, hx, rfl⟩ := List.mem_map.mp hq
    have b : x.2.1 < m ∧ x.2.2 < m := both_in inm _ (List.mem_map.mpr ⟨x, T.1 x (M.mp hx), rfl⟩)
    exact (T.2.2.2 _ b.2 _ b.1).mono up
theorem fW_rise {m : Nat} {rows : List TRow} (h : rows.Pairwise fun a b => a.1 < b.1) : (fW m rows).Pairwise fun a b => a.1 < b.1 := by
  unfold fW
  rw [List.pairwise_map]
  refine h.imp fun {a b} ab => ?_
  have f : ∀ r : TRow, (if r ∈ (handlesF m rows).flatten then r else flipR r).1 = r.1 := fun r => by split <;> rfl
  rw [f, f]
  exact ab
/-- lists that rise by numbers and hold the same are one -/
theorem rise_uniq : ∀ {l1 l2 : List TRow}, l1.Pairwise (fun a b => a.1 < b.1) → l2.Pairwise (fun a b => a.1 < b.1) → (∀ x, x ∈ l1 ↔ x ∈ l2) → l1 = l2
  | [], [], _, _, _ => rfl
  | [], y :: _, _, _, h => absurd ((h y).mpr (List.mem_cons_self ..)) List.not_mem_nil
  | x :: _, [], _, _, h => absurd ((h x).mp (List.mem_cons_self ..)) List.not_mem_nil
  | x :: xs, y :: ys, p1, p2, h => by
    obtain ⟨a1, a2⟩ := List.pairwise_cons.mp p1
    obtain ⟨b1, b2⟩ := List.pairwise_cons.mp p2
    have e : x = y := by
      rcases List.mem_cons.mp ((h x).mp (List.mem_cons_self ..)) with z | z
      · exact z
      · rcases List.mem_cons.mp ((h y).mpr (List.mem_cons_self ..)) with w | w
        · exact w.symm
        · have h1 := b1 x z
          have h2 := a1 y w
          omega
    subst e
    rw [rise_uniq a2 b2 fun z => ?_]
    constructor
    · intro hz
      rcases List.mem_cons.mp ((h z).mp (List.mem_cons_of_mem _ hz)) with w | w
      · have := a1 z hz
        rw [w] at this
        omega
      · exact w
    · intro hz
      rcases List.mem_cons.mp ((h z).mpr (List.mem_cons_of_mem _ hz)) with w | w
      · have := b1 z hz
        rw [w] at this
        omega
      · exact w
end Own

set_option Elab.async false
set_option linter.all false
set_option maxRecDepth 100000
set_option maxHeartbeats 4000000
/-! Types compared by !=. -/
namespace Own
open PySem PySem.Spec PyProof.Rows L2
theorem ne_slot {f : Str} (e : f = "__ne__") : Slot "type" f "object.__ne__" := by
  subst e
  refine Slot.of (owner := "object") (n := "__ne__") ?a ?b ?c ?d ?e ?f
  case a =>
    rw [typeLookup_type]
    rw [builtinLookup_eq_fast]
    kernel_rfl
  case f =>
    rw [isSubtype_type]
    kernel_rfl
  case e => first | exact .inl (by decide +kernel) | exact .inr (by decide +kernel)
  all_goals decide +kernel
theorem slot_eq : Slot "type" (Str.ofString "__eq__") "object.__eq__" := TypeEq.slot_type_eq
theorem ne_gives_same {X : String} (hX : ∀ s' : Shared, s'.TypeIs (.type X) "type") : Gives (Builtin.«object.__ne__» ⟨[.type X, .type X], []⟩) (.val (.bool false)) := fun prog w A R s hq => by
  unfold Builtin.«object.__ne__»
  repeat (first
    | with_reducible refine wpAny_cRoomFor_or (.inl rfl) ?_
    | (refine wpAny_bind (m := callSpecialIfBound? (.type X) (Str.ofString "__eq__") [.type X])
        (wpAny_callSpecialIfBound?_slot (hX _) slot_eq (call_gives slot_eq (hX _) F.entry_object_eq (F.args_object_eq_2 _ _) (TypeEq.object_eq_same rfl (by simp)) ?_)))
    | exact hq
    | exact wpAny_pure hq | exact wpAny_truthy_bool hq | (refine wpAny_bind (m := truthy (.bool _)) (wpAny_truthy_bool ?_))
    | wp_step)
theorem ne_gives_other {X Y : String} (hX : ∀ s' : Shared, s'.TypeIs (.type X) "type") (hne : (Value.type X == Value.type Y) = false) : Gives (Builtin.«object.__ne__» ⟨[.type X, .type Y], []⟩) (.val .notImplemented) := fun prog w A R s hq => by
  unfold Builtin.«object.__ne__»
  repeat (first
    | with_reducible refine wpAny_cRoomFor_or (.inl rfl) ?_
    | (refine wpAny_bind (m := callSpecialIfBound? (.type X) (Str.ofString "__eq__") [.type Y])
        (wpAny_callSpecialIfBound?_slot (hX _) slot_eq (call_gives slot_eq (hX _) F.entry_object_eq (F.args_object_eq_2 _ _) (TypeEq.object_eq_other rfl hne) ?_)))
    | exact hq
    | exact wpAny_pure hq
    | wp_step)
section
variable {prog : Program} {w : World} {A : Around} {E : Value → Shared → Prop} {s : Shared} {Q : Value → Shared → Prop}
theorem ne_same {a : String} (h1 : ∀ s' : Shared, s'.TypeIs (.type a) "type") (h : Q (.bool false) s) : wpAny (model prog w) A (compareOp .NotEq (.type a) (.type a)) Q E s := by
  show wpAny _ A (richCompare .NotEq _ _) Q E s
  refine wpAny_richCompare_same (T := "type") (h1 s) (h1 s) (ne_slot rfl) ?_
  exact call_gives (ne_slot (f := (cmpInfo .NotEq).2.1) rfl) (h1 s) F.cmpEntry_ne (F.cmpArgs_ne _ _) (ne_gives_same h1) ⟨(by intro e; cases e), h⟩
theorem ne_other {a b : String} (h1 : ∀ s' : Shared, s'.TypeIs (.type a) "type") (h2 : ∀ s' : Shared, s'.TypeIs (.type b) "type") (ne : a ≠ b) (h : Q (.bool true) s) : wpAny (model prog w) A (compareOp .NotEq (.type a) (.type b)) Q E s := by
  have e1 : (Value.type a == Value.type b) = false := Bool.eq_false_iff.mpr fun z => ne (Value.type.inj (beq_iff_eq.mp z))
  have e2 : (Value.type b == Value.type a) = false := Bool.eq_false_iff.mpr fun z => ne (Value.type.inj (beq_iff_eq.mp z)).symm
  show wpAny _ A (richCompare .NotEq _ _) Q E s
  have c1 := call_gives (prog := prog) (w := w) (A := A) (E := E) (s := s) (Q := fun v s1 => v = .notImplemented ∧ wpAny (model prog w) A (call (.builtin "object.__ne__") [.type b, .type a]) (fun v s2 => v = .notImplemented ∧ Q (.bool true) s2) E s1) (ne_slot (f := "__ne__") rfl) (h1 s) F.cmpEntry_ne (F.cmpArgs_ne _ _) (ne_gives_other h1 e1)
    ⟨rfl, call_gives (ne_slot (f := "__ne__") rfl) (h2 s) F.cmpEntry_ne (F.cmpArgs_ne _ _) (ne_gives_other h2 e2) ⟨rfl, h⟩⟩
  unfold richCompare
  rw [(h1 s).oneThing_none]
  refine wpAny_holding ?_
  refine wpAny_bind (wpAny_cRoomFor_or (.inl rfl) ?_)
  rw [cmpInfo_NotEq]
  dsimp only
  refine wpAny_bind (wpAny_typeOf (h1 s) ?_)
  refine wpAny_bind (wpAny_typeOf (h2 s) ?_)
  have tt : (Value.type "type" != Value.type "type") = false := by simp
  rw [tt]
  simp only [Bool.false_eq_true, if_false, pure_bind, Bool.not_false, if_true]
  refine wpAny_bind (m := tryCompare _ _ _) (wpAny_tryCompare_declines (h1 s) (ne_slot rfl) (wpAny_mono c1 (fun v s1 z => ⟨z.1, ?_⟩) fun _ _ x => x))
  refine wpAny_bind (m := tryCompare _ _ _) (wpAny_tryCompare_declines (h2 s1) (ne_slot rfl) (wpAny_mono z.2 (fun v s2 y => ⟨y.1, ?_⟩) fun _ _ x => x))
  refine wpAny_bind (wpAny_rule ?_)
  have e9 : isSame (Value.type a) (Value.type b) = pure false := by rw [isSame_plain rfl, e1]
  exact wpAny_bind (wpAny_of_eq e9 (wpAny_pure y.2))
end
section
variable {X : Cx}
theorem op_neTy : OpR X (compareOp .NotEq) (fun x y H Q => ∃ m n, x = .ty m ∧ y = .ty n ∧ metaOk m ∧ metaOk n ∧ Q (.bl (decide (m ≠ n))) H) := by
  rintro pins s σ H _ _ a b Q I ra rb ⟨m, n, rfl, rfl, hm, hn, q⟩
  obtain rfl : a = .type m := ra
  obtain rfl : b = .type n := rb
  rcases Decidable.em (m = n) with rfl | ne
  · exact ne_same hm (fin_bl I q (by simp))
  · exact ne_other hm hn ne (fin_bl I q (decide_eq_true ne))
end
end Own
namespace Own
open PySem PySem.Spec PyProof.Rows L2
section
variable {X : Cx}
/-- not in a tuple of data -/
def rNotInDT (K : PySem.W.Frag) : R2 := fun x y H Q => ∃ d ds, Dp K H x d ∧ Dp K H y (.tuple ds) ∧ SeqAt.shaped d = true ∧ SeqAt.shaped (.tuple ds) = true ∧ Q (.bl (!ds.any fun z => PyData.eqv z d)) H
theorem op_notInDT (hu : X.A.units + 65 < cLine) : OpR X (compareOp .NotIn) (rNotInDT X.K) := by
  rintro pins s σ H thing row v u Q I rv ru ⟨d, ds, dv, dt, sv, st, q⟩
  have read1 := Dp.reads I d thing v dv rv
  have read2 := Dp.reads I (.tuple ds) row u dt ru
  exact SeqAt.notIn_tuple_reads read2.choose_spec read1.choose_spec (SeqAt.canLay_of_shaped st) (SeqAt.canLay_of_shaped sv) (room_in_shaped sv hu) (fin_bl I q rfl)
end
end Own


set_option Elab.async false
set_option linter.all false
set_option maxRecDepth 100000
set_option maxHeartbeats 4000000
namespace K06
open PySem PySem.Spec PyProof.Rows L2 Own
def top (i : Nat) : Stmt := PySem.Challenge.pw_onewaytown_k06_ways_looked_at.main.body.getD i (.Pass ⟨0, 0, 0, 0⟩)
/-! ### what the top has written -/
abbrev gA (K : PySem.W.Frag) (x : Str) : Addr := He.ga K x
/-- an error class without a body of its own -/
structure ErrT (K : PySem.W.Frag) (mg : Str → Option Value) (y : Str) : Prop where
  m : mg y = some (.ref (gA K y))
  x : PySem.W.excIn K (gA K y) He.veBase "ValueError.__new__" = true
  k : PySem.W.keepIn K (.ref (gA K y)) = true
  b : PySem.W.subIn K (.ref (gA K y)) (.type "BaseException") = some true
  t : PySem.W.typeIn K (.ref (gA K y)) = some (.type "type")
structure Txt (K : PySem.W.Frag) (mg : Str → Option Value) : Prop where
  f_type : mg "type" = none
  f_int : mg "int" = none
  f_len : mg "len" = none
  g_MOST_PLACES : ∃ u, mg "MOST_PLACES" = some u ∧ RelV (.int 16) u
  g_MOST_STREETS : ∃ u, mg "MOST_STREETS" = some u ∧ RelV (.int 60) u
  cl : Cls K (gA K "Town")
  nMany : NoAttr K (gA K "Town") "_many"
  nEnds : NoAttr K (gA K "Town") "_ends"
  nBuilt : NoAttr K (gA K "Town") "_built"
  BadCount : ErrT K mg "BadCount"
  BadPlace : ErrT K mg "BadPlace"
  BadStreet : ErrT K mg "BadStreet"
  TooMany : ErrT K mg "TooMany"
abbrev FnP (K : PySem.W.Frag) (x q : Str) (st : Stmt) (f : Addr) (fd : FuncData) : Prop := FunD K x q (defArgs st) (defBody st) (defScope st) [] [] f fd
/-! ### the program: is_whole and Town -/
def spWhole : Sp := fun vs H Q _ => ∃ (x : V) (lo hi : Int), vs = [x, .int lo, .int hi] ∧ (∃ n, tyName x H = some n) ∧ Q (.bl (isW x lo hi)) H
abbrev s_is_whole : Stmt := top 7
abbrev N_is_whole : List Str := ["thing", "least", "most"]
theorem sc_is_whole : FnScope N_is_whole ["thing", "least", "most"] (defScope s_is_whole) := ⟨rfl, rfl, rfl, by decide +kernel, rfl, by decide +kernel, by decide +kernel⟩
section
variable {P : Program} {w : World} {K : PySem.W.Frag} {mg : Str → Option Value} {base : Heap} {f : Addr} {fd : FuncData}
theorem ok_is_whole (T : Txt K mg) (D : FnP K "is_whole" "is_whole" s_is_whole f fd) : FnOk P w K mg base (L2.CX P w) 1 f fd ["thing", "least", "most"] spWhole := by
  have nd := sc_is_whole.nd
  refine D.ok sc_is_whole (fun vs H Q E h => ?_) (fun cdv A outer s H vs Q E hr h => ?_)
  · obtain ⟨x, lo, hi, rfl, _⟩ := h
    rfl
  · obtain ⟨x, lo, hi, rfl, ⟨n, hn⟩, k⟩ := h
    have hu := hu_of hr
    refine ⟨_, (pss_one (ps_ret (pe_and (pe_cmpR op_eqTy (pe_callTy call_tyOf rfl T.f_type (by decide +kernel) (pa_cons (pv 0) pa_nil)) (pe_bltn (v := .ty "int") (u := .type "int") rfl T.f_int (by decide +kernel) rfl) (nomark _)) (pe_one (pe_chain op_le op_le (pv 1) (pv 0) (pv 2)))))), ?_⟩
    refine ⟨_, rfl, x, n, rfl, hn, n, "int", rfl, rfl, tyName_meta hn, meta_all.2.2.1, _, rfl, ?_⟩
    refine if_both (fun e => ?_) (fun e => ?_)
    · have en := of_decide_eq_true e
      rw [en] at hn
      obtain ⟨i, rfl⟩ := tyName_int hn
      refine ⟨_, rfl, _, rfl, _, _, rfl, rfl, _, rfl, ?_⟩
      refine if_both (fun e1 => ?_) (fun e1 => ?_)
      · refine ⟨_, rfl, _, _, rfl, rfl, ?_⟩
        have z : isW (.int i) lo hi = decide (i ≤ hi) := by
          show (decide (lo ≤ i) && decide (i ≤ hi)) = decide (i ≤ hi)
          rw [e1]
          rfl
        rw [z] at k
        exact k
      · have z : isW (.int i) lo hi = false := by
          show (decide (lo ≤ i) && decide (i ≤ hi)) = false
          rw [e1]
          rfl
        rw [z] at k
        exact k
    · have z : isW x lo hi = false := by
        cases x with
        | int i =>
          exfalso
          cases hn
          cases e
        | _ => rfl
      rw [z] at k
      exact k
end
def spInit (K : PySem.W.Frag) (C : Addr) : Sp := fun vs H Q E => ∃ (p dx : Addr) (x : V), vs = [.ref p, x] ∧ H p = some (.ins C dx []) ∧ (∃ n, tyName x H = some n) ∧
  (isW x 1 16 = false → E (.ref (gA K "BadCount")) none H) ∧
  (∀ (m : Nat), x = .int (m : Int) → 1 ≤ m → m ≤ 16 → ∀ (d : Addr) (H' : Hp), H d = none → TownAt C H' p d m [] 0 → (∀ b o, H b = some o → b ≠ p → H' b = some o) → Q .non H')
def spPlaces (C : Addr) : Sp := fun vs H Q _ => ∃ (p d : Addr) (m : Nat) (rows : List TRow) (n : Nat), vs = [.ref p] ∧ TownAt C H p d m rows n ∧ Q (.int (m : Int)) H
/-- build: refused as it says, in its order; else a row more -/
def spBuild (K : PySem.W.Frag) (C : Addr) : Sp := fun vs H Q E => ∃ (p d : Addr) (m : Nat) (rows : List TRow) (n : Nat) (x y : V), vs = [.ref p, x, y] ∧ TownAt C H p d m rows n ∧ (∃ t, tyName x H = some t) ∧ (∃ t, tyName y H = some t) ∧
  ((isW x 0 ((m : Int) - 1) = false ∨ isW y 0 ((m : Int) - 1) = false ∨ x = y) → E (.ref (gA K "BadPlace")) none H) ∧
  (∀ a b : Nat, x = .int (a : Int) → y = .int (b : Int) → a < m → b < m → a ≠ b → 60 ≤ rows.length → E (.ref (gA K "TooMany")) none H) ∧
  (∀ a b : Nat, x = .int (a : Int) → y = .int (b : Int) → a < m → b < m → a ≠ b → rows.length < 60 → ∀ H', TownAt C H' p d m (rows ++ [(n, a, b)]) (n + 1) → Keeps H H' p d → Q (.int (n : Int)) H')
/-- dig: a street that is there goes, anything else is refused -/
def spDig (K : PySem.W.Frag) (C : Addr) : Sp := fun vs H Q E => ∃ (p d : Addr) (m : Nat) (rows : List TRow) (n : Nat) (x : V), vs = [.ref p, x] ∧ TownAt C H p d m rows n ∧ (∃ t, tyName x H = some t) ∧
  ((¬ ∃ s : Nat, x = .int (s : Int) ∧ s ∈ rows.map (·.1)) → E (.ref (gA K "BadStreet")) none H) ∧
  (∀ s : Nat, x = .int (s : Int) → s ∈ rows.map (·.1) → ∀ H', TownAt C H' p d m (rows.filter fun r => decide (r.1 ≠ s)) n → Keeps H H' p d → Q .non H')
def spStreets (C : Addr) : Sp := fun vs H Q _ => ∃ (p d : Addr) (m : Nat) (rows : List TRow) (n : Nat), vs = [.ref p] ∧ TownAt C H p d m rows n ∧
  ∀ (l : Addr) (H' : Hp), H l = none → Same H H' → TL H' l (rows.map rowV) → Q (.ref l) H'
abbrev s_Town_init : Stmt := inClass (top 15) 0
abbrev N_Town_init : List Str := ["self", "many"]
theorem sc_Town_init : FnScope N_Town_init ["self", "many"] (defScope s_Town_init) := ⟨rfl, rfl, rfl, by decide +kernel, rfl, by decide +kernel, by decide +kernel⟩
abbrev s_Town_places : Stmt := inClass (top 15) 1
abbrev N_Town_places : List Str := ["self"]
theorem sc_Town_places : FnScope N_Town_places ["self"] (defScope s_Town_places) := ⟨rfl, rfl, rfl, by decide +kernel, rfl, by decide +kernel, by decide +kernel⟩
abbrev s_Town_build : Stmt := inClass (top 15) 2
abbrev N_Town_build : List Str := ["self", "one", "other", "street"]
theorem sc_Town_build : FnScope N_Town_build ["self", "one", "other"] (defScope s_Town_build) := ⟨rfl, rfl, rfl, by decide +kernel, rfl, by decide +kernel, by decide +kernel⟩
abbrev s_Town_dig : Stmt := inClass (top 15) 3
abbrev N_Town_dig : List Str := ["self", "street"]
theorem sc_Town_dig : FnScope N_Town_dig ["self", "street"] (defScope s_Town_dig) := ⟨rfl, rfl, rfl, by decide +kernel, rfl, by decide +kernel, by decide +kernel⟩
abbrev s_Town_streets : Stmt := inClass (top 15) 4
abbrev N_Town_streets : List Str := ["self", "street", "one", "other"]
theorem sc_Town_streets : FnScope N_Town_streets ["self"] (defScope s_Town_streets) := ⟨rfl, rfl, rfl, by decide +kernel, rfl, by decide +kernel, by decide +kernel⟩
section
variable {P : Program} {w : World} {K : PySem.W.Frag} {mg : Str → Option Value} {base : Heap} {f : Addr} {fd : FuncData}
theorem ok_init (T : Txt K mg) (D : FnP K "__init__" "Town.__init__" s_Town_init f fd) (c_is_whole : CalX P w K mg base 1 "is_whole" spWhole) : FnOk P w K mg base (L2.CX P w) 2 f fd ["self", "many"] (spInit K (gA K "Town")) := by
  have nd := sc_Town_init.nd
  refine D.ok sc_Town_init (fun vs H Q E h => ?_) (fun cdv A outer s H vs Q E hr h => ?_)
  · obtain ⟨p, dx, x, rfl, _⟩ := h
    rfl
  · obtain ⟨p, dx, x, rfl, hp, ⟨n, hn⟩, no, yes⟩ := h
    have hu := hu_of hr
    obtain ⟨f_is_whole, fd_is_whole, ps_is_whole, F_is_whole, m_is_whole, k_is_whole, b_is_whole⟩ := c_is_whole.ex
    refine ⟨_, (pss_cons (ps_if (pt_not (pt_val (pe_call F_is_whole (hr.mono (by decide)) rfl m_is_whole k_is_whole b_is_whole .nil passF (pa_cons (pv 1) (pa_cons pe_int (pa_cons (C8.pe_gc rfl T.g_MOST_PLACES) pa_nil)))))) (pss_one (ps_raise rfl (takes_of rfl rfl rfl rfl) (pmk_own PySem.F.excBase_ValueError T.BadCount.x T.BadCount.m T.BadCount.k (raises_own T.BadCount.b T.BadCount.t) rfl))) pss_nil)
      (pss_cons (ps_fld (pv 0) (pv 1) rfl)
      (pss_cons (ps_fld (pv 0) pe_dnewK rfl)
      (pss_one (ps_fld (pv 0) pe_int rfl))))), ?_⟩
    refine ⟨_, rfl, x, 1, 16, rfl, ⟨n, hn⟩, _, rfl, ?_⟩
    refine if_both (fun e => ?_) (fun e => ?_)
    · exact no (by simpa using e)
    · obtain ⟨i, rfl, h1, h2⟩ := isW_int (show isW x 1 16 = true by simpa using e)
      obtain ⟨m, rfl⟩ : ∃ m : Nat, i = (m : Int) := ⟨i.toNat, (Int.toNat_of_nonneg (by omega)).symm⟩
      refine ⟨_, rfl, _, rfl, p, gA K "Town", dx, [], rfl, hp, T.cl, T.nMany, (by show 0 < 1000; decide), ?_⟩
      intro d hd
      obtain ⟨ndp, hd0⟩ := upd_none hd
      refine ⟨_, rfl, p, gA K "Town", dx, _, rfl, (by rw [upd_ne ndp.symm]; exact upd_same), T.cl, T.nEnds, (by show 1 < 1000; decide), ?_⟩
      refine ⟨_, rfl, p, gA K "Town", dx, _, rfl, upd_same, T.cl, T.nBuilt, (by show 2 < 1000; decide), ?_⟩
      refine yes m rfl (by omega) (by omega) d _ hd0 ⟨⟨dx, Eq.trans upd_same (congrArg (fun l => some (HO.ins (gA K "Town") dx l)) (tF_new m d))⟩, ⟨[], by rw [upd_ne ndp, upd_ne ndp, upd_same], .nil⟩, ⟨List.Pairwise.nil, fun r hr => (nomatch hr), fun r hr => (nomatch hr), (by show 0 ≤ 60; decide)⟩, by omega⟩ fun b o e hb => ?_
      rw [upd_ne hb, upd_ne hb, upd_ne (ne_of_none e hd0), upd_ne hb]
      exact e
theorem ok_places (T : Txt K mg) (D : FnP K "places" "Town.places" s_Town_places f fd) : FnOk P w K mg base (L2.CX P w) 1 f fd ["self"] (spPlaces (gA K "Town")) := by
  have nd := sc_Town_places.nd
  refine D.ok sc_Town_places (fun vs H Q E h => ?_) (fun cdv A outer s H vs Q E hr h => ?_)
  · obtain ⟨p, d, m, rows, n, rfl, _⟩ := h
    rfl
  · obtain ⟨p, d, m, rows, n, rfl, W, k⟩ := h
    obtain ⟨dx, h1⟩ := W.ob
    refine ⟨_, (pss_one (ps_ret (pe_fld (pv 0) rfl))), ?_⟩
    exact ⟨_, rfl, p, _, dx, _, _, rfl, h1, T.cl, T.nMany, tF_many _ _ _, k⟩
theorem ok_build (T : Txt K mg) (D : FnP K "build" "Town.build" s_Town_build f fd) (c_is_whole : CalX P w K mg base 1 "is_whole" spWhole) : FnOk P w K mg base (L2.CX P w) 2 f fd ["self", "one", "other"] (spBuild K (gA K "Town")) := by
  have nd := sc_Town_build.nd
  refine D.ok sc_Town_build (fun vs H Q E h => ?_) (fun cdv A outer s H vs Q E hr h => ?_)
  · obtain ⟨p, d, m, rows, n, x, y, rfl, _⟩ := h
    rfl
  · obtain ⟨p, d, m, rows, n, x, y, rfl, W, hx, hy, bad, many, good⟩ := h
    have hu := hu_of hr
    obtain ⟨dx, h1⟩ := W.ob
    obtain ⟨kvs, h2, ents⟩ := W.dc
    have npd := W.pd
    obtain ⟨f_is_whole, fd_is_whole, ps_is_whole, F_is_whole, m_is_whole, k_is_whole, b_is_whole⟩ := c_is_whole.ex
    refine ⟨_, (pss_cons (ps_if (pt_not (pt_val (pe_call F_is_whole (hr.mono (by decide)) rfl m_is_whole k_is_whole b_is_whole .nil passF (pa_cons (pv 1) (pa_cons pe_int (pa_cons (pe_op op_sub (pe_fld (pv 0) rfl) pe_int) pa_nil)))))) (pss_one (ps_raise rfl (takes_of rfl rfl rfl rfl) (pmk_own PySem.F.excBase_ValueError T.BadPlace.x T.BadPlace.m T.BadPlace.k (raises_own T.BadPlace.b T.BadPlace.t) rfl))) pss_nil)
      (pss_cons (ps_if (pt_not (pt_val (pe_call F_is_whole (hr.mono (by decide)) rfl m_is_whole k_is_whole b_is_whole .nil passF (pa_cons (pv 2) (pa_cons pe_int (pa_cons (pe_op op_sub (pe_fld (pv 0) rfl) pe_int) pa_nil)))))) (pss_one (ps_raise rfl (takes_of rfl rfl rfl rfl) (pmk_own PySem.F.excBase_ValueError T.BadPlace.x T.BadPlace.m T.BadPlace.k (raises_own T.BadPlace.b T.BadPlace.t) rfl))) pss_nil)
      (pss_cons (ps_if (pt_cmpR op_eq (pv 1) (pv 2) (nomark _)) (pss_one (ps_raise rfl (takes_of rfl rfl rfl rfl) (pmk_own PySem.F.excBase_ValueError T.BadPlace.x T.BadPlace.m T.BadPlace.k (raises_own T.BadPlace.b T.BadPlace.t) rfl))) pss_nil)
      (pss_cons (ps_if (pt_cmpR op_ge (pe_callB call_lenD rfl T.f_len PySem.boot_len (pa_cons (pe_fld (pv 0) rfl) pa_nil)) (C8.pe_gc rfl T.g_MOST_STREETS) (nomark _)) (pss_one (ps_raise rfl (takes_of rfl rfl rfl rfl) (pmk_own PySem.F.excBase_ValueError T.TooMany.x T.TooMany.m T.TooMany.k (raises_own T.TooMany.b T.TooMany.t) rfl))) pss_nil)
      (pss_cons (ps_set (i := 3) nd rfl (Or.inl rfl) (pe_fld (pv 0) rfl))
      (pss_cons (ps_dput hu (pe_fld (pv 0) rfl) (pv 3) (pe_tup (pa_cons (pv 1) (pa_cons (pv 2) pa_nil))) rfl)
      (pss_cons (ps_fld (pv 0) (pe_op op_add (pv 3) pe_int) rfl)
      (pss_one (ps_ret (pv 3)))))))))), ?_⟩
    refine ⟨_, rfl, _, rfl, p, _, dx, _, _, rfl, h1, T.cl, T.nMany, tF_many _ _ _, _, _, rfl, rfl, x, 0, _, rfl, hx, _, rfl, ?_⟩
    refine if_both (fun e => bad (.inl (by simpa using e))) (fun e => ?_)
    refine ⟨_, rfl, _, rfl, p, _, dx, _, _, rfl, h1, T.cl, T.nMany, tF_many _ _ _, _, _, rfl, rfl, y, 0, _, rfl, hy, _, rfl, ?_⟩
    refine if_both (fun e2 => bad (.inr (.inl (by simpa using e2)))) (fun e2 => ?_)
    obtain ⟨a, rfl, ha⟩ := isW_nat (show isW x 0 ((m : Int) - 1) = true by simpa using e)
    obtain ⟨b, rfl, hb⟩ := isW_nat (show isW y 0 ((m : Int) - 1) = true by simpa using e2)
    refine ⟨_, rfl, _, rfl, rfl, _, rfl, ?_⟩
    refine if_both (fun e3 => bad (.inr (.inr (by simpa using e3)))) (fun e3 => ?_)
    have ne : a ≠ b := by
      intro z
      rw [z] at e3
      simp at e3
    refine ⟨_, rfl, p, _, dx, _, _, rfl, h1, T.cl, T.nEnds, tF_ends _ _ _, d, kvs, rfl, h2, _, _, rfl, rfl, _, rfl, ?_⟩
    refine if_both (fun e4 => ?_) (fun e4 => ?_)
    · refine many a b rfl rfl ha hb ne ?_
      have z := of_decide_eq_true e4
      rw [ents_len ents] at z
      omega
    · have few : rows.length < 60 := by
        have z := of_decide_eq_false e4
        rw [ents_len ents] at z
        omega
      refine ⟨_, rfl, p, _, dx, _, _, rfl, h1, T.cl, T.nBuilt, tF_built _ _ _, ?_⟩
      refine ⟨_, rfl, _, rfl, (by show 2 ≤ sizeLine; decide), fun t ht => ?_⟩
      have npt : p ≠ t := ne_of_none h1 ht
      have ndt : d ≠ t := ne_of_none h2 ht
      have newKey : valV kvs (Sum.inl (n : Int) : Key) = none := by
        have z := ents_has n ents
        cases q : valV kvs (Sum.inl (n : Int) : Key) with
        | none => rfl
        | some v =>
          rw [q] at z
          have z2 := of_decide_eq_true z.symm
          obtain ⟨r, hr1, hr2⟩ := List.mem_map.mp z2
          have := W.ok.below r hr1
          omega
      refine ⟨_, rfl, p, _, dx, _, _, rfl, (by rw [upd_ne npt]; exact h1), T.cl, T.nEnds, tF_ends _ _ _, _, rfl, d, _, rfl, DPut.k (k := Sum.inl (n : Int)) (by rw [upd_ne ndt]; exact h2) (by rw [ents_len ents]; exact Nat.lt_of_lt_of_le few (by rw [sizeLine_eq]; decide)), ?_⟩
      refine ⟨_, rfl, _, _, rfl, rfl, _, rfl, p, _, dx, _, rfl, (by rw [upd_ne npd, upd_ne npt]; exact h1), T.cl, T.nBuilt, (by show 3 < 1000; decide), ?_⟩
      refine ⟨_, rfl, ?_⟩
      refine good a b rfl rfl ha hb ne few _ ⟨⟨dx, Eq.trans upd_same (congrArg (fun l => some (HO.ins (gA K "Town") dx l)) (tF_put m d n (n + 1)))⟩, ⟨_, by rw [upd_ne npd.symm]; exact upd_same, ?_⟩, W.ok.snoc few ha hb ne, W.pm⟩ fun c o hc hcp hcd => ?_
      · rw [putK_new _ newKey]
        refine ents_snoc (r := (n, a, b)) (t := t) ?_ (ents_ext (fun t2 xs e5 => ?_) ents)
        · rw [upd_ne npt.symm, upd_ne ndt.symm]
          exact upd_same
        · rw [upd_ne (ne_of e5 h1 (by intro z; cases z)), upd_ne (ne_of e5 h2 (by intro z; cases z)), upd_ne (ne_of_none e5 ht)]
          exact e5
      · rw [upd_ne hcp, upd_ne hcd, upd_ne (ne_of_none hc ht)]
        exact hc
theorem ok_dig (T : Txt K mg) (D : FnP K "dig" "Town.dig" s_Town_dig f fd) (c_is_whole : CalX P w K mg base 1 "is_whole" spWhole) : FnOk P w K mg base (L2.CX P w) 2 f fd ["self", "street"] (spDig K (gA K "Town")) := by
  have nd := sc_Town_dig.nd
  refine D.ok sc_Town_dig (fun vs H Q E h => ?_) (fun cdv A outer s H vs Q E hr h => ?_)
  · obtain ⟨p, d, m, rows, n, x, rfl, _⟩ := h
    rfl
  · obtain ⟨p, d, m, rows, n, x, rfl, W, hx, bad, good⟩ := h
    have hu := hu_of hr
    obtain ⟨dx, h1⟩ := W.ob
    obtain ⟨kvs, h2, ents⟩ := W.dc
    have npd := W.pd
    obtain ⟨f_is_whole, fd_is_whole, ps_is_whole, F_is_whole, m_is_whole, k_is_whole, b_is_whole⟩ := c_is_whole.ex
    refine ⟨_, (pss_cons (ps_if (PW.pt (pw_or (pt_not (pt_val (pe_call F_is_whole (hr.mono (by decide)) rfl m_is_whole k_is_whole b_is_whole .nil passF (pa_cons (pv 1) (pa_cons pe_int (pa_cons (pe_op op_sub (pe_fld (pv 0) rfl) pe_int) pa_nil)))))) (pw_or1 (pt_cmp (pc_dnotin hu (pv 1) (pe_fld (pv 0) rfl)))))) (pss_one (ps_raise rfl (takes_of rfl rfl rfl rfl) (pmk_own PySem.F.excBase_ValueError T.BadStreet.x T.BadStreet.m T.BadStreet.k (raises_own T.BadStreet.b T.BadStreet.t) rfl))) pss_nil)
      (pss_one (ps_ddel (pe_fld (pv 0) rfl) (pv 1)))), ?_⟩
    refine ⟨_, rfl, _, rfl, p, _, dx, _, _, rfl, h1, T.cl, T.nBuilt, tF_built _ _ _, _, _, rfl, rfl, x, 0, _, rfl, hx, _, rfl, ?_⟩
    refine if_both (fun e => ?_) (fun e => ?_)
    · refine if_yes rfl (bad fun ⟨s, e1, e2⟩ => ?_)
      obtain ⟨r, hr1, hr2⟩ := List.mem_map.mp e2
      have lt := W.ok.below r hr1
      rw [e1, isW_true (by omega) (by omega)] at e
      cases e
    · obtain ⟨s, rfl, hs⟩ := isW_nat (show isW x 0 ((n : Int) - 1) = true by simpa using e)
      refine ⟨_, rfl, _, rfl, p, _, dx, _, _, rfl, h1, T.cl, T.nEnds, tF_ends _ _ _, d, _, rfl, DGet.k (k := Sum.inl (s : Int)) h2, _, rfl, ?_⟩
      refine if_both (fun e1 => ?_) (fun e1 => ?_)
      · refine bad fun ⟨s2, e2, e3⟩ => ?_
        have es : s2 = s := (Int.ofNat.inj (V.int.inj e2)).symm
        rw [es] at e3
        have z := ents_has s ents
        rw [decide_eq_true e3] at z
        rw [z] at e1
        cases e1
      · have there : (valV kvs (Sum.inl (s : Int) : Key)).isSome = true := by
          cases q : valV kvs (Sum.inl (s : Int) : Key) with
          | none => rw [q] at e1; cases e1
          | some v => rfl
        have hin : s ∈ rows.map (·.1) := by
          rw [ents_has s ents] at there
          exact of_decide_eq_true there
        refine ⟨_, rfl, p, _, dx, _, _, rfl, h1, T.cl, T.nEnds, tF_ends _ _ _, _, rfl, d, kvs, Sum.inl (s : Int), rfl, h2, rfl, there, ?_⟩
        refine good s rfl hin _ ⟨⟨dx, by rw [upd_ne npd]; exact h1⟩, ⟨_, upd_same, ents_ext (fun t xs e5 => ?_) (ents_drop s ents)⟩, W.ok.drop _, W.pm⟩ fun c o hc hcp hcd => ?_
        · rw [upd_ne (ne_of e5 h2 (by intro z; cases z))]
          exact e5
        · rw [upd_ne hcd]
          exact hc
end
section
variable {P : Program} {w : World} {K : PySem.W.Frag} {mg : Str → Option Value} {base : Heap} {f : Addr} {fd : FuncData}
theorem ok_streets (T : Txt K mg) (D : FnP K "streets" "Town.streets" s_Town_streets f fd) : FnOk P w K mg base (L2.CX P w) 1 f fd ["self"] (spStreets (gA K "Town")) := by
  have nd := sc_Town_streets.nd
  refine D.ok sc_Town_streets (fun vs H Q E h => ?_) (fun cdv A outer s H vs Q E hr h => ?_)
  · obtain ⟨p, d, m, rows, n, rfl, _⟩ := h
    rfl
  · obtain ⟨p, d, m, rows, n, rfl, W, k⟩ := h
    obtain ⟨dx, h1⟩ := W.ob
    obtain ⟨kvs, h2, ents⟩ := W.dc
    have npd := W.pd
    refine ⟨_, (pss_one (ps_ret (pe_lock (pe_lc (own := [("street", 1), ("one", 2), ("other", 3)]) (g := (gTup K 2 (gCons (gName 1) (gCons (gTup K 2 (gCons (gName 2) (gCons (gName 3) gNil))) gNil)))) rfl nd (pi_items (pe_fld (pv 0) rfl)) (blkOk_by (own := [("street", 1), ("one", 2), ("other", 3)]) (N := N_Town_streets) (sc := defScope s_Town_streets) (by decide +kernel)) (fun _ _ _ _ _ => (pg_tup rfl (pgs_cons (pg_name (i := 1) nd rfl (Or.inl rfl)) (pgs_cons (pg_tup rfl (pgs_cons (pg_name (i := 2) nd rfl (Or.inl rfl)) (pgs_cons (pg_name (i := 3) nd rfl (Or.inl rfl)) pgs_nil))) pgs_nil)))) (fun _ _ _ _ _ => pts_nil) (fun _ _ _ _ _ => (pe_tup (pa_cons (pv 1) (pa_cons (pv 2) (pa_cons (pv 3) pa_nil))))))))), ?_⟩
    refine ⟨d, .dK kvs, h2, trivial, fun od => ?_⟩
    refine ⟨_, rfl, p, _, dx, _, _, rfl, (by rw [upd_ne npd]; exact h1), T.cl, T.nEnds, tF_ends _ _ _, d, od, kvs, rfl, upd_same, ?_⟩
    intro D hD
    obtain ⟨nDd, hD0⟩ := upd_none hD
    have len := ents_len ents
    have small : rows.length < sizeLine := Nat.lt_of_le_of_lt W.ok.few (by rw [sizeLine_eq]; decide)
    refine lc_it walk_items (fun i H' => ∃ vs, H' D = some (.lst vs) ∧ Tups H' vs ((rows.take i).map rowV) ∧ H' d = some (.frz od (.dK kvs)) ∧ ∀ b o, b ≠ d → H b = some o → H' b = some o)
      ⟨[], upd_same, .nil, (by rw [upd_ne nDd.symm]; exact upd_same), fun b o hb e => by rw [upd_ne (ne_of_none e hD0), upd_ne hb]; exact e⟩ (fun i H' _ ⟨_, _, _, z, _⟩ => z) ?_ ?_
    · rintro i x H1 H2 hi ⟨vs, e1, e2, e3, e4⟩ ⟨t, kk, v, rfl, ht, rfl, hk, hv⟩
      obtain ⟨kv, hkv⟩ : ∃ kv, kvs[i]? = some kv := ⟨_, List.getElem?_eq_getElem hi⟩
      obtain ⟨r, t2, hr1, rfl, hr2⟩ := ents_get ents hkv
      dsimp only at hk hv
      rw [hkv] at hk hv
      cases hk
      cases hv
      have ntd : t2 ≠ d := by
        intro z
        rw [z, h2] at hr2
        cases hr2
      have nDt : D ≠ t := ne_of_none e1 ht
      have hr3 := e4 _ _ ntd hr2
      refine ⟨t, _, rfl, SqT.of upd_same, rfl, _, _, rfl, _, _, rfl, t2, _, rfl, SqT.of (by rw [upd_ne (ne_of_none hr3 ht)]; exact hr3), rfl, _, _, rfl, _, _, rfl, rfl, rfl, rfl, ?_⟩
      refine ⟨_, rfl, _, rfl, _, rfl, (by show 3 ≤ sizeLine; decide), fun q hq => ?_⟩
      obtain ⟨nqt, hq0⟩ := upd_none hq
      have nDq : D ≠ q := ne_of_none e1 hq0
      have keep : ∀ b o, b ≠ D → H1 b = some o → upd (upd (upd H1 t (.tup [.int (r.1 : Int), V.ref t2])) q (.tup (rowV r))) D (.lst (vs ++ [V.ref q])) b = some o := fun b o nb e => by
        rw [upd_ne nb, upd_ne (ne_of_none e hq0), upd_ne (ne_of_none e ht)]
        exact e
      refine ⟨vs, by rw [upd_ne nDq, upd_ne nDt]; exact e1, ?_, vs ++ [V.ref q], upd_same, ?_, ?_, ?_⟩
      · rw [tups_len e2, List.length_map, List.length_take]
        omega
      · rw [take_snoc hr1, List.map_append]
        refine tups_snoc (by rw [upd_ne nDq.symm]; exact upd_same) (tups_ext (fun b xs e => keep b _ (fun z => ?_) e) e2)
        rw [z, e1] at e
        cases e
      · exact keep _ _ nDd.symm e3
      · intro b o hb e
        exact keep b o (ne_of_none e hD0) (e4 b o hb e)
    · rintro H1 ⟨vs, e1, e2, e3, e4⟩
      rw [len, List.take_length] at e2
      refine ⟨e3, k D _ hD0 (fun b o e => ?_) ⟨vs, by rw [upd_ne nDd]; exact e1, tups_ext (fun b xs e => ?_) e2⟩⟩
      · by_cases hb : b = d
        · rw [hb, h2] at e
          cases e
          rw [hb]
          exact upd_same
        · rw [upd_ne hb]
          exact e4 b o hb e
      · rw [upd_ne (fun z => by rw [z, e3] at e; cases e)]
        exact e
end
end K06

set_option Elab.async false
set_option linter.all false
set_option maxRecDepth 100000
set_option maxHeartbeats 4000000
namespace K06
open PySem PySem.Spec PyProof.Rows L2 Own
/-! ### the law's helpers: mixed, seed, ends, pairs, many -/
def spMixed : Sp := fun vs H Q _ => ∃ (c k : Int), vs = [.int c, .int k] ∧ Fit c ∧ 0 ≤ k ∧ k ≤ 1000 ∧ ∀ r : Int, 0 ≤ r → r < 2147483629 → Q (.int r) H
def spSeed (K : PySem.W.Frag) : Sp := fun vs H Q _ => ∃ (a : Addr) (ns : List Int), vs = [.ref a] ∧ SqL K H a (ns.map V.int) ∧ (∀ z ∈ ns, Fit z) ∧ ∀ (r : Int) (H' : Hp), 0 ≤ r → r < 2147483629 → Same H H' → Q (.int r) H'
def spEnds : Sp := fun vs H Q _ => ∃ (m : Nat) (way k num : Int), vs = [.int (m : Int), .int way, .int k, .int num] ∧ 2 ≤ m ∧ m ≤ 16 ∧ 0 ≤ k ∧ 0 ≤ num ∧
  ∀ (p : Addr) (H' : Hp) (q : Pair), H p = none → Same H H' → H' p = some (.tup (pairV q)) → PairOk m q → Q (.ref p) H'
def spPairs (K : PySem.W.Frag) : Sp := fun vs H Q _ => ∃ (a : Addr) (ns : List Int) (seed : Int) (m most : Nat), vs = [.ref a, .int seed, .int (m : Int), .int (most : Int)] ∧ SqL K H a (ns.map V.int) ∧ (∀ z ∈ ns, Fit z) ∧ Fit seed ∧ 1 ≤ m ∧ m ≤ 16 ∧ ns.length ≤ 63 ∧ most ≤ 60 ∧
  ∀ (l : Addr) (H' : Hp) (ps : List Pair), H l = none → Same H H' → TL H' l (ps.map pairV) → (∀ q ∈ ps, PairOk m q) → ps.length ≤ most → (m = 1 → ps = []) → Q (.ref l) H'
def spMany : Sp := fun vs H Q _ => ∃ (seed : Int) (most : Nat), vs = [.int seed, .int (most : Int)] ∧ Fit seed ∧ 1 ≤ most ∧ ∀ (m : Nat) (H' : Hp), 1 ≤ m → m ≤ most → Same H H' → Q (.int (m : Int)) H'
abbrev s_law_mixed : Stmt := top 17
abbrev N_law_mixed : List Str := ["_law_cell", "_law_k"]
theorem sc_law_mixed : FnScope N_law_mixed ["_law_cell", "_law_k"] (defScope s_law_mixed) := ⟨rfl, rfl, rfl, by decide +kernel, rfl, by decide +kernel, by decide +kernel⟩
abbrev s_law_seed : Stmt := top 18
abbrev N_law_seed : List Str := ["_law_script", "_law_found", "_law_k", "_law_cell"]
theorem sc_law_seed : FnScope N_law_seed ["_law_script"] (defScope s_law_seed) := ⟨rfl, rfl, rfl, by decide +kernel, rfl, by decide +kernel, by decide +kernel⟩
abbrev s_law_ends : Stmt := top 19
abbrev N_law_ends : List Str := ["_law_many_here", "_law_way", "_law_k", "_law_number", "_law_one", "_law_other", "_law_same", "_law_place"]
theorem sc_law_ends : FnScope N_law_ends ["_law_many_here", "_law_way", "_law_k", "_law_number"] (defScope s_law_ends) := ⟨rfl, rfl, rfl, by decide +kernel, rfl, by decide +kernel, by decide +kernel⟩
abbrev s_law_pairs : Stmt := top 20
abbrev N_law_pairs : List Str := ["_law_script", "_law_seed_here", "_law_many_here", "_law_most", "_law_way", "_law_far", "_law_found", "_law_k", "_law_cell"]
theorem sc_law_pairs : FnScope N_law_pairs ["_law_script", "_law_seed_here", "_law_many_here", "_law_most"] (defScope s_law_pairs) := ⟨rfl, rfl, rfl, by decide +kernel, rfl, by decide +kernel, by decide +kernel⟩
abbrev s_law_many : Stmt := top 21
abbrev N_law_many : List Str := ["_law_seed_here", "_law_most"]
theorem sc_law_many : FnScope N_law_many ["_law_seed_here", "_law_most"] (defScope s_law_many) := ⟨rfl, rfl, rfl, by decide +kernel, rfl, by decide +kernel, by decide +kernel⟩
structure TxtL (mg : Str → Option Value) : Prop where
  f_enumerate : mg "enumerate" = none
  f_min : mg "min" = none
  f_len : mg "len" = none
  f_range : mg "range" = none
theorem min_nat (x y : Nat) : (if (y : Int) < (x : Int) then (y : Int) else (x : Int)) = ((min x y : Nat) : Int) := by
  split <;> omega
theorem max_nat (x y : Nat) : (if (y : Int) > (x : Int) then (y : Int) else (x : Int)) = ((max x y : Nat) : Int) := by
  split <;> omega
structure TxtM (mg : Str → Option Value) : Prop extends TxtL mg where
  f_list : mg "list" = none
  f_max : mg "max" = none
section
variable {P : Program} {w : World} {K : PySem.W.Frag} {mg : Str → Option Value} {base : Heap} {f : Addr} {fd : FuncData}
theorem ok_mixed (D : FnP K "_law_mixed" "_law_mixed" s_law_mixed f fd) : FnOk P w K mg base (L2.CX P w) 1 f fd ["_law_cell", "_law_k"] spMixed := by
  have nd := sc_law_mixed.nd
  refine D.ok sc_law_mixed (fun vs H Q E h => ?_) (fun cdv A outer s H vs Q E hr h => ?_)
  · obtain ⟨c, j, rfl, _⟩ := h
    rfl
  · obtain ⟨c, j, rfl, fc, j0, j1, k⟩ := h
    have sq : 0 ≤ 2 * j * j ∧ 2 * j * j ≤ 2000000 := by
      have a1 : 0 ≤ j * j := Int.mul_nonneg j0 j0
      have a2 : j * j ≤ 1000 * 1000 := Int.mul_le_mul j1 j1 j0 (by omega)
      have a3 : 2 * j * j = 2 * (j * j) := Int.mul_assoc 2 j j
      omega
    refine ⟨_, (pss_one (ps_ret (pe_op op_mod (pe_op op_mulG (pe_op op_mod (pe_op op_add (pe_op op_add (pe_op op_mulG (pv 0) (pe_op op_add pe_int (pe_op op_mulG (pe_op op_mulG pe_int (pv 1)) (pv 1)))) (pe_op op_mulG pe_int (pv 1))) pe_int) pe_int) pe_int) pe_int))), ?_⟩
    refine ⟨_, rfl, _, rfl, _, _, rfl, rfl, mul_fit (fit_range (by omega) (by omega)) (fit_range (by omega) (by omega)), _, rfl, _, _, rfl, rfl, mul_fit (fit_range (by omega) (by omega)) (fit_range (by omega) (by omega)), _, _, rfl, rfl,
      _, _, rfl, rfl, mul_fit fc (fit_range (by omega) (by omega)), _, rfl, _, _, rfl, rfl, mul_fit (fit_range (by omega) (by omega)) (fit_range (by omega) (by omega)), _, _, rfl, rfl, _, _, rfl, rfl, _, _, rfl, rfl, (by show (0 : Int) < 2147483647; decide),
      _, _, rfl, rfl, ?_, _, _, rfl, rfl, (by show (0 : Int) < 2147483629; decide), ?_⟩
    · have z := emod_lt (i := c * (48271 + 2 * j * j) + 69621 * j + 11) (m := 2147483647) (by decide)
      exact mul_fit (fit_range z.1 (by omega)) (fit_range (by omega) (by omega))
    · have z := emod_lt (i := (c * (48271 + 2 * j * j) + 69621 * j + 11) % 2147483647 * 69621) (m := 2147483629) (by decide)
      exact k _ z.1 z.2
theorem ok_seed (T : TxtL mg) (D : FnP K "_law_seed" "_law_seed" s_law_seed f fd) (c_law_mixed : CalX P w K mg base 1 "_law_mixed" spMixed) : FnOk P w K mg base (L2.CX P w) 2 f fd ["_law_script"] (spSeed K) := by
  have nd := sc_law_seed.nd
  refine D.ok sc_law_seed (fun vs H Q E h => ?_) (fun cdv A outer s H vs Q E hr h => ?_)
  · obtain ⟨a, ns, rfl, _⟩ := h
    rfl
  · obtain ⟨a, ns, rfl, hS, fits, k⟩ := h
    obtain ⟨f_law_mixed, fd_law_mixed, ps_law_mixed, F_law_mixed, m_law_mixed, k_law_mixed, b_law_mixed⟩ := c_law_mixed.ex
    refine ⟨_, (pss_cons (ps_set (i := 1) nd rfl (Or.inl rfl) pe_int)
      (pss_cons (ps_for (passes_of rfl) rfl (pi_enum rfl T.f_enumerate (pa_cons (pv 0) pa_nil)) (pg_tup rfl (pgs_cons (pg_name (i := 2) nd rfl (Or.inl rfl)) (pgs_cons (pg_name (i := 3) nd rfl (Or.inl rfl)) pgs_nil))) (pss_one (ps_set (i := 1) nd rfl (Or.inl rfl) (pe_op op_mod (pe_op op_add (pe_op op_mulG (pv 1) pe_int) (pe_call F_law_mixed (hr.mono (by decide)) rfl m_law_mixed k_law_mixed b_law_mixed .nil passF (pa_cons (pv 3) (pa_cons (pe_op op_mod (pv 2) pe_int) pa_nil)))) pe_int))))
      (pss_one (ps_ret (pv 1))))), ?_⟩
    refine ⟨_, rfl, a, _, rfl, hS, for_it walk_enum (fun i σ H' => ∃ (g : Int) (u v : Option V), σ = [some (.ref a), some (.int g), u, v] ∧ 0 ≤ g ∧ g < 2147483629 ∧ Same H H') ⟨7, none, none, rfl, by decide, by decide, Same.refl H⟩ (fun i σ H' _ ⟨_, _, _, _, _, _, sm⟩ => sm.seq hS) ?_ ?_⟩
    · rintro i x σ H1 H2 hi ⟨g, u, v, rfl, g0, g1, sm⟩ ⟨t, y, z, rfl, ht, rfl, hy, hz⟩
      cases hy
      obtain ⟨c, hc, rfl⟩ := int_item hz
      have sm2 : Same H (upd H1 t (.tup [.int (i : Int), .int c])) := sm.trans (same_new ht)
      have r60 := emod_lt (i := (i : Int)) (m := 60) (by decide)
      refine ⟨t, _, rfl, SqT.of upd_same, rfl, _, _, rfl, _, _, rfl, rfl, ?_⟩
      refine ⟨_, rfl, _, _, rfl, rfl, mul_fit (fit_range g0 (by omega)) (fit_range (by omega) (by omega)), _, rfl, _, rfl, _, _, rfl, rfl, (by show (0 : Int) < 60; decide), c, _, rfl, fits c (List.mem_of_getElem? hc), r60.1, by omega, fun r r0 r1 => ?_⟩
      refine ⟨_, _, rfl, rfl, _, _, rfl, rfl, (by show (0 : Int) < 2147483629; decide), ?_⟩
      have z := emod_lt (i := g * 999983 + r) (m := 2147483629) (by decide)
      exact ⟨_, some (.int (i : Int)), some (.int c), rfl, z.1, z.2, sm2⟩
    · rintro σ H1 ⟨g, u, v, rfl, g0, g1, sm⟩
      exact ⟨_, rfl, k g H1 g0 g1 sm⟩
theorem ok_many (T : TxtL mg) (D : FnP K "_law_many" "_law_many" s_law_many f fd) (c_law_mixed : CalX P w K mg base 1 "_law_mixed" spMixed) : FnOk P w K mg base (L2.CX P w) 2 f fd ["_law_seed_here", "_law_most"] spMany := by
  have nd := sc_law_many.nd
  refine D.ok sc_law_many (fun vs H Q E h => ?_) (fun cdv A outer s H vs Q E hr h => ?_)
  · obtain ⟨a, m, rfl, _⟩ := h
    rfl
  · obtain ⟨seed, most, rfl, fs, hm, k⟩ := h
    obtain ⟨f_law_mixed, fd_law_mixed, ps_law_mixed, F_law_mixed, m_law_mixed, k_law_mixed, b_law_mixed⟩ := c_law_mixed.ex
    refine ⟨_, (pss_one (ps_ret (pe_callB (call_min2 rfl) rfl T.f_min (by decide +kernel) (pa_cons (pv 1) (pa_cons (pe_ix ix_list (pe_lst (pa_cons pe_int (pa_cons pe_int (pa_cons pe_int (pa_cons pe_int (pa_cons pe_int (pa_cons pe_int (pa_cons pe_int (pa_cons pe_int (pa_cons pe_int (pa_cons pe_int pa_nil))))))))))) (pe_op op_mod (pe_call F_law_mixed (hr.mono (by decide)) rfl m_law_mixed k_law_mixed b_law_mixed .nil passF (pa_cons (pv 0) (pa_cons pe_int pa_nil))) pe_int) (fun _ _ => rfl)) pa_nil))))), ?_⟩
    refine ⟨_, rfl, (by show 10 ≤ sizeLine; decide), fun l hl => ?_⟩
    refine ⟨_, rfl, seed, 60, rfl, fs, by decide, by decide, fun r r0 r1 => ?_⟩
    refine ⟨_, _, rfl, rfl, (by show (0 : Int) < 10; decide), ?_⟩
    have z := emod_lt (i := r) (m := 10) (by decide)
    obtain ⟨v, hv, hin⟩ := at_lt (xs := [V.int 1, V.int 2, V.int 3, V.int 4, V.int 5, V.int 6, V.int 7, V.int 9, V.int 12, V.int 16]) z.1 z.2
    obtain ⟨j, rfl, j0⟩ : ∃ j : Nat, v = V.int (j : Int) ∧ 1 ≤ j := by
      simp only [List.mem_cons, List.not_mem_nil, or_false] at hin
      rcases hin with h | h | h | h | h | h | h | h | h | h <;> rw [h]
      · exact ⟨1, rfl, by decide⟩
      · exact ⟨2, rfl, by decide⟩
      · exact ⟨3, rfl, by decide⟩
      · exact ⟨4, rfl, by decide⟩
      · exact ⟨5, rfl, by decide⟩
      · exact ⟨6, rfl, by decide⟩
      · exact ⟨7, rfl, by decide⟩
      · exact ⟨9, rfl, by decide⟩
      · exact ⟨12, rfl, by decide⟩
      · exact ⟨16, rfl, by decide⟩
    refine ⟨l, _, _, _, rfl, rfl, SqL.of upd_same, hv, _, _, rfl, ?_⟩
    by_cases lt : (j : Int) < (most : Int)
    · rw [if_pos lt]
      exact k j _ j0 (by omega) (same_new hl)
    · rw [if_neg lt]
      exact k most _ hm (Nat.le_refl _) (same_new hl)
end
end K06

set_option Elab.async false
set_option linter.all false
set_option maxRecDepth 100000
set_option maxHeartbeats 4000000
namespace K06
open PySem PySem.Spec PyProof.Rows L2 Own
section
variable {P : Program} {w : World} {K : PySem.W.Frag} {mg : Str → Option Value} {base : Heap} {f : Addr} {fd : FuncData}
theorem ok_ends (T : TxtL mg) (D : FnP K "_law_ends" "_law_ends" s_law_ends f fd) : FnOk P w K mg base (L2.CX P w) 1 f fd ["_law_many_here", "_law_way", "_law_k", "_law_number"] spEnds := by
  have nd := sc_law_ends.nd
  refine D.ok sc_law_ends (fun vs H Q E h => ?_) (fun cdv A outer s H vs Q E hr h => ?_)
  · obtain ⟨m, way, j, num, rfl, _⟩ := h
    rfl
  · obtain ⟨m, way, j, num, rfl, hm, hm2, j0, n0, k⟩ := h
    refine ⟨_, (pss_cons (ps_set (i := 4) nd rfl (Or.inr rfl) (pe_op op_mod (pv 3) (pv 0)))
      (pss_cons (ps_set (i := 5) nd rfl (Or.inl rfl) (pe_op op_mod (pe_op op_add (pe_op op_add (pv 4) pe_int) (pe_op op_mod (pe_op op_fdiv (pv 3) pe_int) (pe_op op_sub (pv 0) pe_int))) (pv 0)))
      (pss_cons (ps_if (PW.pt (pw_and (pt_cmpR op_eq (pv 1) pe_int (nomark _)) (pw_and1 (pt_cmpR op_lt (pe_op op_add (pv 2) pe_int) (pv 0) (nomark _))))) (pss_one (ps_ret (pe_tup (pa_cons (pe_op op_add (pv 2) pe_int) (pa_cons (pe_op op_mod (pv 3) (pe_op op_add (pv 2) pe_int)) pa_nil))))) pss_nil)
      (pss_cons (ps_if (pt_cmpR op_eq (pv 1) pe_int (nomark _)) (pss_cons (ps_setLc (own := [("_law_place", 7)]) (g := (gName 7)) (i := 6) rfl nd rfl rfl (sw_true rfl rfl rfl (by decide +kernel)) (pi_range1 rfl T.f_range (pa_cons (pv 0) pa_nil)) (blkOk_by (own := [("_law_place", 7)]) (N := N_law_ends) (sc := defScope s_law_ends) (by decide +kernel)) (fun _ _ _ _ _ => (pg_name (i := 7) nd rfl (Or.inl rfl))) (fun _ _ _ _ _ => (pts_one (PW.pt (pw_and (pt_cmpR op_eq (pe_op op_mod (pv 7) pe_int) (pe_op op_mod (pv 4) pe_int) (nomark _)) (pw_and1 (pt_cmpR op_ne (pv 7) (pv 4) (nomark _))))))) (fun _ _ _ _ _ => (pv 7)))
      (pss_one (ps_ret (pe_ifExp (pt_cmpR (op_neD hr.units) (pv 6) (pe_lst pa_nil) (nomark _)) (pe_tup (pa_cons (pv 4) (pa_cons (pe_ix ix_list (pv 6) (pe_op op_mod (pe_op op_fdiv (pv 3) pe_int) (pe_callB call_len_seq rfl T.f_len PySem.boot_len (pa_cons (pv 6) pa_nil))) (fun _ _ => rfl)) pa_nil))) (pe_tup (pa_cons (pv 4) (pa_cons (pv 5) pa_nil))))))) pss_nil)
      (pss_cons (ps_if (pt_cmpR op_eq (pv 1) pe_int (nomark _)) (pss_one (ps_ret (pe_tup (pa_cons (pv 4) (pa_cons (pe_op op_mod (pe_op op_add (pe_op op_add (pv 4) pe_int) (pe_op op_mulG (pe_op op_mod (pe_op op_fdiv (pv 3) pe_int) pe_int) (pe_op op_sub (pv 0) pe_int))) (pv 0)) pa_nil))))) pss_nil)
      (pss_one (ps_ret (pe_tup (pa_cons (pv 4) (pa_cons (pv 5) pa_nil)))))))))), ?_⟩
    obtain ⟨o0, o1⟩ := emod_lt (i := num) (m := (m : Int)) (by omega)
    obtain ⟨s0, s1, s2⟩ := step_ends (m := m) (one := num % (m : Int)) (num := num / 20) hm o0 o1
    have plain : ∀ {p : Addr} {H1 H2 : Hp} {u v : Int}, Same H H1 → H1 p = none → Same H1 H2 → H2 p = some (.tup [.int u, .int v]) → 0 ≤ u → u < m → 0 ≤ v → v < m → u ≠ v → Q (.ref p) H2 := by
      intro p H1 H2 u v sm hp sm2 e u0 u1 v0 v1 ne
      exact k p H2 _ (sm.free hp) (sm.trans sm2) (by rw [pair_nat u0 v0]; exact e) (pair_ok u0 u1 v0 v1 ne)
    refine ⟨_, rfl, _, rfl, _, _, rfl, rfl, (by show (0 : Int) < (m : Int); omega), ?_⟩
    refine ⟨_, rfl, _, _, rfl, rfl, _, rfl, _, _, rfl, rfl, ⟨by decide, by decide⟩, _, rfl, _, _, rfl, rfl, _, _, rfl, rfl, (by show (0 : Int) < (m : Int) - 1; omega), _, _, rfl, rfl, _, rfl, _, _, rfl, rfl, (by show (0 : Int) < (m : Int); omega), ?_⟩
    refine (fun rest => ⟨_, rfl, rfl, _, rfl, if_both (fun e1 => ⟨_, rfl, _, _, rfl, rfl, _, rfl, _, _, rfl, rfl, _, rfl, if_both (fun e2 => ?new) (fun _ => rest)⟩) (fun _ => rest)⟩) ?rest
    case new =>
      -- a new place
      have lt := of_decide_eq_true e2
      obtain ⟨z0, z1⟩ := emod_lt (i := num) (m := j + 1) (by omega)
      exact ⟨_, rfl, _, _, rfl, rfl, _, rfl, _, rfl, _, _, rfl, rfl, _, _, rfl, rfl, (by show (0 : Int) < j + 1; omega), (by show 2 ≤ sizeLine; decide), fun p hp => plain (Same.refl H) hp (same_new hp) upd_same (by omega) lt z0 (by omega) (by omega)⟩
    case rest =>
      refine ⟨_, rfl, rfl, _, rfl, if_both (fun e1 => ?_) (fun _ => ?_)⟩
      · -- every second place
        refine ⟨_, rfl, (m : Int), rfl, by omega, by omega, fun L hL => ?_⟩
        refine lc_it walk_range (fun i H' => ∃ js : List Int, H' L = some (.lst (js.map V.int)) ∧ (∀ z ∈ js, 0 ≤ z ∧ z < m ∧ z ≠ num % (m : Int)) ∧ js.length ≤ i ∧ Same H H') ⟨[], upd_same, fun z hz => (nomatch hz), Nat.le_refl _, same_new hL⟩ (fun _ _ _ _ => trivial) ?_ ?_
        · rintro i x H1 H2 hi ⟨js, e2, e3, e4, sm⟩ ⟨rfl, rfl⟩
          have skip : ∃ js : List Int, H2 L = some (.lst (js.map V.int)) ∧ (∀ z ∈ js, 0 ≤ z ∧ z < m ∧ z ≠ num % (m : Int)) ∧ js.length ≤ i + 1 ∧ Same H H2 := ⟨js, e2, e3, Nat.le_succ_of_le e4, sm⟩
          refine ⟨rfl, _, rfl, _, _, rfl, rfl, (by show (0 : Int) < 2; decide), _, rfl, _, _, rfl, rfl, (by show (0 : Int) < 2; decide), rfl, _, rfl, if_both (fun _ => ⟨_, rfl, _, rfl, rfl, _, rfl, if_both (fun c2 => ?_) (fun _ => skip)⟩) (fun _ => skip)⟩
          refine ⟨_, rfl, _, e2, ?_, js ++ [0 + (i : Int)], by rw [List.map_append]; exact upd_same, fun z hz => ?_, by rw [List.length_append]; show js.length + 1 ≤ i + 1; omega, fun b o e => ?_⟩
          · rw [List.length_map, sizeLine_eq]
            omega
          · rcases List.mem_append.mp hz with h | h
            · exact e3 z h
            · rw [List.mem_singleton] at h
              have ne : ¬ (0 + (i : Int) = num % (m : Int)) := by
                intro y
                have c3 : (!decide (V.int (0 + (i : Int)) = V.int (num % (m : Int)))) = true := c2
                rw [y] at c3
                simp at c3
              have : (i : Int) < (m : Int) := by omega
              rw [h]
              omega
          · rw [upd_ne (ne_of_none e hL)]
            exact sm b o e
        · rintro H1 ⟨js, e2, e3, e4, sm⟩
          refine ⟨_, rfl, (by show 0 ≤ sizeLine; decide), fun L2 hL2 => ?_⟩
          have nLL : L ≠ L2 := ne_of_none e2 hL2
          have at2 : upd H1 L2 (.lst []) L = some (.lst (js.map V.int)) := by
            rw [upd_ne nLL]
            exact e2
          refine ⟨_, _, .lst (SqL.of at2) (dp_ints js), .lst (SqL.of upd_same) .nil, (lay_ints js).shaped (by decide), (lay_ints []).shaped (by decide), _, rfl, ?_⟩
          have sm2 : Same H (upd H1 L2 (.lst [])) := sm.trans (same_new hL2)
          cases js with
          | nil =>
            rw [show PyData.eqv (.list (([] : List Int).map PyData.int)) (.list []) = true from eqv_nil_nil]
            refine ⟨_, rfl, _, rfl, (by show 2 ≤ sizeLine; decide), fun p hp => plain sm2 hp (same_new hp) upd_same o0 o1 s0 s1 (Ne.symm s2)⟩
          | cons j1 js =>
            rw [show PyData.eqv (.list ((j1 :: js).map PyData.int)) (.list []) = false from eqv_cons_nil _ _]
            have pos : (0 : Int) < (((j1 :: js).map V.int).length : Int) := by
              rw [List.length_map, List.length_cons]
              omega
            obtain ⟨v, hv, hin⟩ := at_mod (xs := (j1 :: js).map V.int) (i := num / 20) (by simp)
            obtain ⟨z, hz, rfl⟩ := List.mem_map.mp hin
            obtain ⟨b0, b1, b2⟩ := e3 z hz
            exact ⟨_, rfl, _, rfl, _, rfl, _, _, rfl, rfl, ⟨by decide, by decide⟩, _, rfl, L, _, rfl, .inl (SqL.of at2), _, _, rfl, rfl, pos, L, _, _, _, rfl, rfl, SqL.of at2, hv, (by show 2 ≤ sizeLine; decide), fun p hp => plain sm2 hp (same_new hp) upd_same o0 o1 b0 b1 (Ne.symm b2)⟩
      · refine ⟨_, rfl, rfl, _, rfl, if_both (fun e1 => ?_) (fun _ => ?_)⟩
        · -- neighbours
          obtain ⟨t0, t1, t2⟩ : 0 ≤ (num % (m : Int) + 1 + num / 20 % 2 * ((m : Int) - 2)) % m ∧ (num % (m : Int) + 1 + num / 20 % 2 * ((m : Int) - 2)) % m < m ∧ (num % (m : Int) + 1 + num / 20 % 2 * ((m : Int) - 2)) % m ≠ num % (m : Int) := by
            have half : num / 20 % 2 = 0 ∨ num / 20 % 2 = 1 := by omega
            rcases half with z | z <;> rw [z]
            · rw [Int.zero_mul, Int.add_zero]
              have q := step_ends (m := m) (one := num % (m : Int)) (num := 0) hm o0 o1
              rw [Int.zero_emod, Int.add_zero] at q
              exact q
            · rw [Int.one_mul]
              have q := step_ends (m := m) (one := num % (m : Int)) (num := (m : Int) - 2) hm o0 o1
              have same : ((m : Int) - 2) % ((m : Int) - 1) = (m : Int) - 2 := Int.emod_eq_of_lt (by omega) (by omega)
              rw [same] at q
              exact q
          exact ⟨_, rfl, _, rfl, _, _, rfl, rfl, _, rfl, _, _, rfl, rfl, ⟨by decide, by decide⟩, _, _, rfl, rfl, (by show (0 : Int) < 2; decide), _, rfl, _, _, rfl, rfl, _, _, rfl, rfl, mul_fit (fit_range (by omega) (by omega)) (fit_range (by omega) (by omega)), _, _, rfl, rfl, _, rfl, _, _, rfl, rfl, (by show (0 : Int) < (m : Int); omega), (by show 2 ≤ sizeLine; decide), fun p hp => plain (Same.refl H) hp (same_new hp) upd_same o0 o1 t0 t1 (Ne.symm t2)⟩
        · exact ⟨_, rfl, _, rfl, (by show 2 ≤ sizeLine; decide), fun p hp => plain (Same.refl H) hp (same_new hp) upd_same o0 o1 s0 s1 (Ne.symm s2)⟩
theorem ok_pairs (T : TxtL mg) (D : FnP K "_law_pairs" "_law_pairs" s_law_pairs f fd) (c_law_mixed : CalX P w K mg base 1 "_law_mixed" spMixed) (c_law_ends : CalX P w K mg base 1 "_law_ends" spEnds) : FnOk P w K mg base (L2.CX P w) 2 f fd ["_law_script", "_law_seed_here", "_law_many_here", "_law_most"] (spPairs K) := by
  have nd := sc_law_pairs.nd
  refine D.ok sc_law_pairs (fun vs H Q E h => ?_) (fun cdv A outer s H vs Q E hr h => ?_)
  · obtain ⟨a, ns, seed, m, most, rfl, _⟩ := h
    rfl
  · obtain ⟨a, ns, seed, m, most, rfl, hS, fits, fs, m1, m2, hl, hmost, k⟩ := h
    obtain ⟨f_law_mixed, fd_law_mixed, ps_law_mixed, F_law_mixed, m_law_mixed, k_law_mixed, b_law_mixed⟩ := c_law_mixed.ex
    obtain ⟨f_law_ends, fd_law_ends, ps_law_ends, F_law_ends, m_law_ends, k_law_ends, b_law_ends⟩ := c_law_ends.ex
    refine ⟨_, (pss_cons (ps_if (pt_cmpR op_eq (pv 2) pe_int (nomark _)) (pss_one (ps_ret (pe_lst pa_nil))) pss_nil)
      (pss_cons (ps_set (i := 4) nd rfl (Or.inl rfl) (pe_op op_mod (pe_call F_law_mixed (hr.mono (by decide)) rfl m_law_mixed k_law_mixed b_law_mixed .nil passF (pa_cons (pv 1) (pa_cons pe_int pa_nil))) pe_int))
      (pss_cons (ps_set (i := 5) nd rfl (Or.inl rfl) (pe_ix ix_list (pe_lst (pa_cons (pv 2) (pa_cons (pe_op op_add (pv 2) pe_int) (pa_cons (pv 3) (pa_cons (pe_op op_mulG pe_int (pv 2)) pa_nil))))) (pe_op op_mod (pe_call F_law_mixed (hr.mono (by decide)) rfl m_law_mixed k_law_mixed b_law_mixed .nil passF (pa_cons (pv 1) (pa_cons pe_int pa_nil))) pe_int) (fun _ _ => rfl)))
      (pss_cons (ps_set (i := 6) nd rfl (Or.inl rfl) (pe_lst pa_nil))
      (pss_cons (ps_for (passes_of rfl) rfl (pi_enum rfl T.f_enumerate (pa_cons (pe_slice sl_list (pv 0) po_none (po_some (pe_callB (call_min2 rfl) rfl T.f_min (by decide +kernel) (pa_cons (pv 5) (pa_cons (pv 3) pa_nil))))) pa_nil)) (pg_tup rfl (pgs_cons (pg_name (i := 7) nd rfl (Or.inl rfl)) (pgs_cons (pg_name (i := 8) nd rfl (Or.inl rfl)) pgs_nil))) (pss_one (ps_expr (pe_bm PySem.F.plainAttrs_list PySem.F.slot_list_append PySem.F.type_list_append mt_append (pv 6) (pa_cons (pe_call F_law_ends (hr.mono (by decide)) rfl m_law_ends k_law_ends b_law_ends .nil passF (pa_cons (pv 2) (pa_cons (pv 4) (pa_cons (pv 7) (pa_cons (pe_call F_law_mixed (hr.mono (by decide)) rfl m_law_mixed k_law_mixed b_law_mixed .nil passF (pa_cons (pv 8) (pa_cons (pe_op op_add pe_int (pe_op op_mod (pv 7) pe_int)) pa_nil))) pa_nil))))) pa_nil)))))
      (pss_one (ps_ret (pv 6)))))))), ?_⟩
    refine ⟨_, rfl, rfl, _, rfl, if_both (fun e1 => ?_) (fun e1 => ?_)⟩
    · exact ⟨(by show 0 ≤ sizeLine; decide), fun l hl => k l _ [] hl (same_new hl) ⟨[], upd_same, .nil⟩ (fun q hq => (nomatch hq)) (Nat.zero_le _) (fun _ => rfl)⟩
    · have big : 2 ≤ m := by
        by_cases h : m = 1
        · exfalso
          rw [h] at e1
          simp at e1
        · omega
      refine ⟨_, rfl, seed, 1, rfl, fs, by decide, by decide, fun r r0 r1 => ?_⟩
      refine ⟨_, _, rfl, rfl, (by show (0 : Int) < 5; decide), ?_⟩
      refine ⟨_, rfl, _, rfl, _, _, rfl, rfl, _, rfl, _, rfl, _, _, rfl, rfl, mul_fit (fit_range (by decide) (by decide)) (fit_range (by omega) (by omega)), (by show 4 ≤ sizeLine; decide), fun L hL => ?_⟩
      refine ⟨_, rfl, seed, 2, rfl, fs, by decide, by decide, fun r2 r20 r21 => ?_⟩
      refine ⟨_, _, rfl, rfl, (by show (0 : Int) < 4; decide), ?_⟩
      have z := emod_lt (i := r2) (m := 4) (by decide)
      obtain ⟨v, hv, hin⟩ := at_lt (xs := [V.int (m : Int), V.int ((m : Int) + 3), V.int (most : Int), V.int (2 * (m : Int))]) z.1 z.2
      obtain ⟨far, rfl⟩ : ∃ far : Nat, v = V.int (far : Int) := by
        simp only [List.mem_cons, List.not_mem_nil, or_false] at hin
        rcases hin with h | h | h | h
        · exact ⟨m, h⟩
        · exact ⟨m + 3, by rw [h]; simp⟩
        · exact ⟨most, h⟩
        · exact ⟨2 * m, by rw [h]; simp⟩
      refine ⟨L, _, _, _, rfl, rfl, SqL.of upd_same, hv, ?_⟩
      have smL : Same H (upd H L (.lst [V.int (m : Int), V.int ((m : Int) + 3), V.int (most : Int), V.int (2 * (m : Int))])) := same_new hL
      refine ⟨(by show 0 ≤ sizeLine; decide), fun F hF => ?_⟩
      have smF := smL.trans (same_new (o := .lst []) hF)
      obtain ⟨cut, hcut⟩ : ∃ cut : Nat, (if (most : Int) < (far : Int) then (most : Int) else (far : Int)) = (cut : Int) ∧ cut ≤ most := by
        by_cases h : (most : Int) < (far : Int)
        · exact ⟨most, by rw [if_pos h], Nat.le_refl _⟩
        · exact ⟨far, by rw [if_neg h], by omega⟩
      refine ⟨_, rfl, _, rfl, _, rfl, _, _, rfl, _, rfl, a, _, rfl, smF.seq hS, fun S hS2 => ?_⟩
      rw [hcut.1, cut_take, ← List.map_take]
      have nFS : F ≠ S := ne_of_none upd_same hS2
      have smS := smF.trans (same_new (o := .lst ((ns.take cut).map V.int)) hS2)
      have hF0 : H F = none := smL.free hF
      have len : ((ns.take cut).map V.int).length ≤ 63 := by
        rw [List.length_map, List.length_take]
        omega
      have lenc : ((ns.take cut).map V.int).length ≤ most := by
        rw [List.length_map, List.length_take]
        omega
      refine ⟨S, _, rfl, SqL.of upd_same, for_it walk_enum (fun i σ H' => ∃ (ps : List Pair) (u v : Option V), σ = [some (.ref a), some (.int seed), some (.int (m : Int)), some (.int (most : Int)), some (.int (r % 5)), some (.int (far : Int)), some (.ref F), u, v] ∧ TL H' F (ps.map pairV) ∧ ps.length = i ∧ (∀ q ∈ ps, PairOk m q) ∧ Same H H' ∧ H' S = some (.lst ((ns.take cut).map V.int)))
        ⟨[], none, none, rfl, ⟨[], by rw [upd_ne nFS]; exact upd_same, .nil⟩, rfl, fun q hq => (nomatch hq), smS, upd_same⟩ (fun i σ H' _ ⟨_, _, _, _, _, _, _, _, e⟩ => SqL.of e) ?_ ?_⟩
      · rintro i x σ H1 H2 hi ⟨ps, u, v, rfl, ⟨vs, e1, e2⟩, e3, e4, sm, e5⟩ ⟨t, y, zz, rfl, ht, rfl, hy, hz⟩
        cases hy
        obtain ⟨c, hc, rfl⟩ := int_item hz
        have fc : Fit c := fits c (List.mem_of_mem_take (List.mem_of_getElem? hc))
        have r50 := emod_lt (i := (i : Int)) (m := 50) (by decide)
        have nFt : F ≠ t := ne_of_none e1 ht
        refine ⟨t, _, rfl, SqT.of upd_same, rfl, _, _, rfl, _, _, rfl, rfl, ?_⟩
        refine ⟨_, rfl, .inl ⟨rfl, _, SqL.of (by rw [upd_ne nFt]; exact e1)⟩, _, rfl, _, rfl, _, rfl, _, rfl, _, rfl, _, _, rfl, rfl, (by show (0 : Int) < 50; decide), _, _, rfl, rfl, c, _, rfl, fc, by omega, by omega, fun rr rr0 rr1 => ?_⟩
        refine ⟨m, _, _, _, rfl, big, m2, by omega, rr0, fun p H3 q hp sm3 e6 okq => ?_⟩
        have keep : ∀ b o, H1 b = some o → H3 b = some o := fun b o e => sm3 b o (by rw [upd_ne (ne_of_none e ht)]; exact e)
        have nFp : F ≠ p := ne_of_none (show upd H1 t _ F = some _ by rw [upd_ne nFt]; exact e1) hp
        refine ⟨F, _, _, rfl, rfl, keep _ _ e1, ?_, ps ++ [q], some (.int (i : Int)), some (.int c), rfl, ⟨vs ++ [V.ref p], upd_same, ?_⟩, by rw [List.length_append, e3]; rfl, fun q2 hq2 => ?_, fun b o e => ?_, ?_⟩
        · rw [tups_len e2, List.length_map, e3, sizeLine_eq]
          omega
        · rw [List.map_append]
          refine tups_snoc (by rw [upd_ne nFp.symm]; exact e6) (tups_ext (fun b xs e => ?_) e2)
          rw [upd_ne (fun z => by rw [z, e1] at e; cases e)]
          exact keep b _ e
        · rcases List.mem_append.mp hq2 with h | h
          · exact e4 q2 h
          · rw [List.mem_singleton] at h
            rw [h]
            exact okq
        · rw [upd_ne (ne_of_none e hF0)]
          exact keep b o (sm b o e)
        · rw [upd_ne nFS.symm]
          exact keep _ _ e5
      · rintro σ H1 ⟨ps, u, v, rfl, e1, e3, e4, sm, e5⟩
        refine ⟨_, rfl, k F H1 ps hF0 sm e1 e4 (by omega) (fun h => by omega)⟩
end
end K06

set_option Elab.async false
set_option linter.all false
set_option maxRecDepth 100000
set_option maxHeartbeats 4000000
namespace K06
open PySem PySem.Spec PyProof.Rows L2 Own
def spMade (C : Addr) : Sp := fun vs H Q _ => ∃ (m : Nat) (pl : Addr) (seed : Int) (ps : List Pair), vs = [.int (m : Int), .ref pl, .int seed] ∧ 1 ≤ m ∧ m ≤ 16 ∧ TL H pl (ps.map pairV) ∧ (∀ q ∈ ps, PairOk m q) ∧ ps.length ≤ 60 ∧ Fit seed ∧
  ∀ (q p d l : Addr) (H' : Hp) (rows : List TRow) (n : Nat), H q = none → H p = none → H d = none → H l = none → Same H H' → H' q = some (.tup [.ref p, .ref l]) → TownAt C H' p d m rows n → TL H' l (rows.map rowV) → rows.map (·.2) = ps → n ≤ 2 * ps.length → (∀ i r, rows[i]? = some r → r.1 ≤ 2 * i + 1) → Q (.ref q) H'
abbrev s_law_made : Stmt := top 22
abbrev N_law_made : List Str := ["_law_many_here", "_law_pairs_here", "_law_seed_here", "_law_town", "_law_rows", "_law_k", "_law_one", "_law_other"]
theorem sc_law_made : FnScope N_law_made ["_law_many_here", "_law_pairs_here", "_law_seed_here"] (defScope s_law_made) := ⟨rfl, rfl, rfl, by decide +kernel, rfl, by decide +kernel, by decide +kernel⟩
section
variable {P : Program} {w : World} {K : PySem.W.Frag} {mg : Str → Option Value} {base : Heap} {f : Addr} {fd : FuncData}
theorem ok_made (T : TxtL mg) (D : FnP K "_law_made" "_law_made" s_law_made f fd) (c_law_mixed : CalX P w K mg base 1 "_law_mixed" spMixed) (c_Town : MakX P w K mg base 2 "Town" (gA K "Town") (spInit K (gA K "Town"))) (c_Town_build : MetX P w K mg base 2 (gA K "Town") "build" (spBuild K (gA K "Town"))) (c_Town_dig : MetX P w K mg base 2 (gA K "Town") "dig" (spDig K (gA K "Town"))) :
    FnOk P w K mg base (L2.CX P w) 4 f fd ["_law_many_here", "_law_pairs_here", "_law_seed_here"] (spMade (gA K "Town")) := by
  have nd := sc_law_made.nd
  refine D.ok sc_law_made (fun vs H Q E h => ?_) (fun cdv A outer s H vs Q E hr h => ?_)
  · obtain ⟨m, pl, seed, ps, rfl, _⟩ := h
    rfl
  · obtain ⟨m, pl, seed, ps, rfl, m1, m2, hP, okp, hlen, fs, k⟩ := h
    obtain ⟨f_law_mixed, fd_law_mixed, ps_law_mixed, F_law_mixed, m_law_mixed, k_law_mixed, b_law_mixed⟩ := c_law_mixed.ex
    obtain ⟨f_Town, fd_Town, ps_Town, M_Town, F_Town, m_Town, b_Town⟩ := c_Town.ex
    obtain ⟨f_Town_build, fd_Town_build, ps_Town_build, c_Town_build, M_Town_build, F_Town_build, b_Town_build⟩ := c_Town_build.ex
    obtain ⟨f_Town_dig, fd_Town_dig, ps_Town_dig, c_Town_dig, M_Town_dig, F_Town_dig, b_Town_dig⟩ := c_Town_dig.ex
    refine ⟨_, (pss_cons (ps_set (i := 3) nd rfl (Or.inl rfl) (pe_make M_Town F_Town (hr.mono (by decide)) rfl m_Town b_Town .nil passF (pa_cons (pv 0) pa_nil)))
      (pss_cons (ps_set (i := 4) nd rfl (Or.inl rfl) (pe_lst pa_nil))
      (pss_cons (ps_for (passes_of rfl) rfl (pi_enum rfl T.f_enumerate (pa_cons (pv 1) pa_nil)) (pg_tup rfl (pgs_cons (pg_name (i := 5) nd rfl (Or.inl rfl)) (pgs_cons (pg_tup rfl (pgs_cons (pg_name (i := 6) nd rfl (Or.inl rfl)) (pgs_cons (pg_name (i := 7) nd rfl (Or.inl rfl)) pgs_nil))) pgs_nil))) (pss_cons (ps_if (pt_cmpR op_eq (pe_op op_mod (pe_call F_law_mixed (hr.mono (by decide)) rfl m_law_mixed k_law_mixed b_law_mixed .nil passF (pa_cons (pv 2) (pa_cons (pe_op op_add pe_int (pe_op op_mod (pv 5) pe_int)) pa_nil))) pe_int) pe_int (nomark _)) (pss_one (ps_expr (pe_meth (pv 3) c_Town_dig M_Town_dig F_Town_dig (hr.mono (by decide)) b_Town_dig .nil passF (pa_cons (pe_meth (pv 3) c_Town_build M_Town_build F_Town_build (hr.mono (by decide)) b_Town_build .nil passF (pa_cons (pv 7) (pa_cons (pv 6) pa_nil))) pa_nil)))) pss_nil)
      (pss_one (ps_expr (pe_bm PySem.F.plainAttrs_list PySem.F.slot_list_append PySem.F.type_list_append mt_append (pv 4) (pa_cons (pe_tup (pa_cons (pe_meth (pv 3) c_Town_build M_Town_build F_Town_build (hr.mono (by decide)) b_Town_build .nil passF (pa_cons (pv 6) (pa_cons (pv 7) pa_nil))) (pa_cons (pv 6) (pa_cons (pv 7) pa_nil)))) pa_nil))))))
      (pss_one (ps_ret (pe_tup (pa_cons (pv 3) (pa_cons (pv 4) pa_nil)))))))), ?_⟩
    refine ⟨_, rfl, fun p dx np ndx nep => ?_⟩
    refine ⟨p, dx, _, rfl, upd_same, ⟨"int", rfl⟩, fun z => ?_, fun m' em _ _ d H1 hd W kp => ⟨rfl, ?_⟩⟩
    · rw [isW_true (by omega) (by omega)] at z
      cases z
    have em' : m' = m := (Int.ofNat.inj (V.int.inj em)).symm
    subst em'
    obtain ⟨ndp, hd1⟩ := upd_none hd
    obtain ⟨_, hd0⟩ := upd_none hd1
    have sm1 : Same H H1 := Same.made np ndx kp
    refine ⟨(by show 0 ≤ sizeLine; decide), fun L hL => ?_⟩
    have hL0 : H L = none := sm1.free hL
    obtain ⟨pvs, hpl, tp⟩ := hP
    have tpl := tups_len tp
    rw [List.length_map] at tpl
    have nLp : L ≠ p := by
      obtain ⟨dy, z⟩ := W.ob
      exact (ne_of_none z hL).symm
    have nLd : L ≠ d := by
      obtain ⟨kvs, z, _⟩ := W.dc
      exact (ne_of_none z hL).symm
    refine ⟨_, rfl, pl, pvs, rfl, (sm1.trans (same_new hL)).seq (SqL.of hpl), for_it walk_enum (fun i σ H' => ∃ (rows : List TRow) (n : Nat) (u v x : Option V), σ = [some (.int (m' : Int)), some (.ref pl), some (.int seed), some (.ref p), some (.ref L), u, v, x] ∧ TownAt (gA K "Town") H' p d m' rows n ∧ TL H' L (rows.map rowV) ∧ rows.map (·.2) = ps.take i ∧ n ≤ 2 * i ∧ Same H H' ∧ ∀ j r, rows[j]? = some r → r.1 ≤ 2 * j + 1)
      ⟨[], 0, none, none, none, rfl, W.same (same_new hL), ⟨[], upd_same, .nil⟩, rfl, Nat.le_refl _, sm1.trans (same_new hL), fun j r h => by simp at h⟩ (fun i σ H' _ ⟨_, _, _, _, _, _, _, _, _, _, sm, _⟩ => sm.seq (SqL.of hpl)) ?_ ?_⟩
    · rintro i x σ H2 H3 hi ⟨rows, n, u, v, y, rfl, W2, ⟨vs, e1, e2⟩, e3, nb, sm2, lo⟩ ⟨t, ka, za, rfl, ht, rfl, hk, hz⟩
      cases hk
      obtain ⟨tq, xs, rfl, hxs, htq⟩ := tups_get tp hz
      rw [List.getElem?_map] at hxs
      obtain ⟨q, hq, rfl⟩ : ∃ q, ps[i]? = some q ∧ xs = pairV q := by
        cases e : ps[i]? with
        | none =>
          rw [e] at hxs
          cases hxs
        | some q =>
          rw [e] at hxs
          exact ⟨q, rfl, (Option.some.inj hxs).symm⟩
      obtain ⟨q1, q2, q3⟩ := okp q (List.mem_of_getElem? hq)
      have lenr : rows.length < 60 := by
        have z := congrArg List.length e3
        rw [List.length_map, List.length_take] at z
        omega
      have W3 : TownAt (gA K "Town") (upd H2 t (.tup [.int (i : Int), .ref tq])) p d m' rows n := W2.same (same_new ht)
      have r30 := emod_lt (i := (i : Int)) (m := 30) (by decide)
      have htq2 := sm2 _ _ htq
      refine ⟨t, _, rfl, SqT.of upd_same, rfl, _, _, rfl, _, _, rfl, tq, _, rfl, SqT.of (by rw [upd_ne (ne_of_none htq2 ht)]; exact htq2), rfl, _, _, rfl, _, _, rfl, rfl, rfl, ?_⟩
      refine (fun (rest : ∀ (H4 : Hp) (n4 : Nat), n4 ≤ n + 1 → TownAt (gA K "Town") H4 p d m' rows n4 → Keeps (upd H2 t (.tup [.int (i : Int), .ref tq])) H4 p d → (_ : Hp → Prop) H4) => ⟨_, rfl, _, rfl, _, _, rfl, rfl, (by show (0 : Int) < 30; decide), _, _, rfl, rfl, seed, _, rfl, fs, (by omega), (by omega), fun r r0 r1 => ⟨_, _, rfl, rfl, (by show (0 : Int) < 4; decide), rfl, _, rfl, if_both (fun c1 => ?extra) (fun _ => rest _ n (Nat.le_succ n) W3 (fun c o hc _ _ => hc))⟩⟩) ?rest
      case extra =>
        obtain ⟨d1, hd1⟩ := W3.ob
        refine ⟨_, rfl, p, d1, _, rfl, hd1, tF_no _ _ _ (by decide +kernel) (by decide +kernel) (by decide +kernel), _, rfl, p, d1, _, rfl, hd1, tF_no _ _ _ (by decide +kernel) (by decide +kernel) (by decide +kernel), _, rfl, _, rfl, p, d, m', rows, n, _, _, rfl, W3, ⟨"int", rfl⟩, ⟨"int", rfl⟩, fun z => ?_, fun a b ea eb _ _ _ z => ?_, fun a b ea eb ha hb ne few H5 W5 kp5 => ?_⟩
        · rcases z with z | z | z
          · rw [isW_true (by omega) (by omega)] at z
            cases z
          · rw [isW_true (by omega) (by omega)] at z
            cases z
          · exact q3 (Int.ofNat.inj (V.int.inj z)).symm
        · omega
        · refine ⟨p, d, m', _, n + 1, _, rfl, W5, ⟨"int", rfl⟩, fun z => z ⟨n, rfl, ?_⟩, fun s es hs H6 W6 kp6 => ?_⟩
          · rw [List.map_append]
            exact List.mem_append_right _ (List.mem_singleton.mpr rfl)
          · have es' : s = n := (Int.ofNat.inj (V.int.inj es)).symm
            subst es'
            rw [W3.ok.back] at W6
            exact rest H6 _ (Nat.le_refl _) W6 fun c o hc h1 h2 => kp6 c o (kp5 c o hc h1 h2) h1 h2
      case rest =>
        intro H4 n4 hn4 W4 kp4
        obtain ⟨d1, hd1⟩ := W4.ob
        have nLt : L ≠ t := ne_of_none e1 ht
        have at4 : H4 L = some (.lst vs) := kp4 _ _ (by rw [upd_ne nLt]; exact e1) nLp nLd
        refine ⟨_, rfl, .inl ⟨rfl, _, SqL.of at4⟩, ?_⟩
        refine ⟨_, rfl, p, d1, _, rfl, hd1, tF_no _ _ _ (by decide +kernel) (by decide +kernel) (by decide +kernel), _, rfl, _, rfl, p, d, m', rows, n4, _, _, rfl, W4, ⟨"int", rfl⟩, ⟨"int", rfl⟩, fun z => ?_, fun a b ea eb _ _ _ z => ?_, fun a b ea eb ha hb ne few H5 W5 kp5 => ?_⟩
        · rcases z with z | z | z
          · rw [isW_true (by omega) (by omega)] at z
            cases z
          · rw [isW_true (by omega) (by omega)] at z
            cases z
          · exact q3 (Int.ofNat.inj (V.int.inj z))
        · omega
        · have ea' : a = q.1 := (Int.ofNat.inj (V.int.inj ea)).symm
          have eb' : b = q.2 := (Int.ofNat.inj (V.int.inj eb)).symm
          subst ea' eb'
          refine ⟨_, rfl, _, rfl, (by show 3 ≤ sizeLine; decide), fun g hg => ?_⟩
          have at5 := kp5 _ _ at4 nLp nLd
          have nLg : L ≠ g := ne_of_none at5 hg
          have tups5 : ∀ b xs, H2 b = some (.tup xs) → H5 b = some (.tup xs) := fun b xs e => keeps_tups W4 kp5 _ _ (keeps_tups W3 kp4 _ _ (by rw [upd_ne (ne_of_none e ht)]; exact e))
          refine ⟨L, vs, _, rfl, rfl, by rw [upd_ne nLg]; exact at5, ?_, rows ++ [(n4, q.1, q.2)], n4 + 1, some (.int (i : Int)), some (.int (q.1 : Int)), some (.int (q.2 : Int)), rfl, ?_, ⟨vs ++ [V.ref g], upd_same, ?_⟩, ?_, by omega, fun b o e => ?_, fun j r hj => ?_⟩
          · rw [tups_len e2, List.length_map, sizeLine_eq]
            omega
          · obtain ⟨dz, h1⟩ := W5.ob
            obtain ⟨kvs, h2, h3⟩ := W5.dc
            refine ⟨⟨dz, by rw [upd_ne nLp.symm, upd_ne (ne_of_none h1 hg)]; exact h1⟩, ⟨kvs, by rw [upd_ne nLd.symm, upd_ne (ne_of_none h2 hg)]; exact h2, ents_ext (fun b xs e => ?_) h3⟩, W5.ok, W5.pm⟩
            rw [upd_ne (fun z => by rw [z, at5] at e; cases e), upd_ne (ne_of_none e hg)]
            exact e
          · rw [List.map_append]
            refine tups_snoc (by rw [upd_ne nLg.symm]; exact upd_same) (tups_ext (fun b xs e => ?_) e2)
            rw [upd_ne (fun z => by rw [z, e1] at e; cases e), upd_ne (ne_of_none (tups5 b xs e) hg)]
            exact tups5 b xs e
          · rw [List.map_append, e3, take_snoc hq]
            rfl
          · have nbp : b ≠ p := fun z => by rw [z, np] at e; cases e
            have nbd : b ≠ d := fun z => by rw [z, hd0] at e; cases e
            have nbt := sm2 b o e
            rw [upd_ne (ne_of_none e hL0)]
            have z5 := kp5 b o (kp4 b o (by rw [upd_ne (ne_of_none nbt ht)]; exact nbt) nbp nbd) nbp nbd
            rw [upd_ne (ne_of_none z5 hg)]
            exact z5
          · have li : rows.length = i := by
              have z := congrArg List.length e3
              rw [List.length_map, List.length_take] at z
              omega
            by_cases hlt : j < rows.length
            · rw [List.getElem?_append_left hlt] at hj
              exact lo j r hj
            · rw [List.getElem?_append_right (by omega)] at hj
              by_cases h0 : j - rows.length = 0
              · rw [h0] at hj
                cases hj
                show n4 ≤ 2 * j + 1
                omega
              · have : ∃ x, j - rows.length = x + 1 := ⟨j - rows.length - 1, by omega⟩
                obtain ⟨x, hx⟩ := this
                rw [hx] at hj
                simp at hj
    · rintro σ H2 ⟨rows, n, u, v, y, rfl, W2, tl, e3, nb, sm2, lo⟩
      rw [tpl, List.take_length] at e3
      refine ⟨_, rfl, _, rfl, (by show 2 ≤ sizeLine; decide), fun q hq => ?_⟩
      obtain ⟨vs, e1, e2⟩ := tl
      exact k q p d L _ rows n (sm2.free hq) np hd0 hL0 (sm2.trans (same_new hq)) upd_same (W2.same (same_new hq)) ⟨vs, same_new hq _ _ e1, tups_ext (fun b xs e => same_new hq _ _ e) e2⟩ e3 (by omega) lo
end
end K06

set_option Elab.async false
set_option linter.all false
set_option maxRecDepth 100000
set_option maxHeartbeats 4000000
namespace K06
open PySem PySem.Spec PyProof.Rows L2 Own
/-! ### walks: both_ways, walks_from, come_to -/
structure TxtG (mg : Str → Option Value) : Prop where
  f_sorted : mg "sorted" = none
  f_any : mg "any" = none
  f_range : mg "range" = none
def spBoth : Sp := fun vs H Q _ => ∃ (l : Addr) (rows : List TRow), vs = [.ref l] ∧ TL H l (rows.map rowV) ∧ rows.length ≤ 60 ∧
  ∀ (r : Addr) (H' : Hp), H r = none → Same H H' → TL H' r ((bothWays rows).map rowV) → Q (.ref r) H'
/-- a dict's entries: places, the walk to each -/
abbrev WEnts (H : Hp) : List (Key × V) → Walks → Prop := Paired fun kv e => kv.1 = (Sum.inl (e.1 : Int) : Key) ∧ ∃ t, kv.2 = V.ref t ∧ TL H t (e.2.map rowV)
def spWalks : Sp := fun vs H Q _ => ∃ (l : Addr) (p m : Nat) (steps : List TRow), vs = [.ref l, .int (p : Int)] ∧ TL H l (steps.map rowV) ∧ (∀ q ∈ ends steps, q.1 < m ∧ q.2 < m) ∧ p < m ∧ m ≤ 16 ∧
  ∀ (d : Addr) (kvs : List (Key × V)) (H' : Hp), H d = none → Same H H' → H' d = some (.dK kvs) → WEnts H' kvs (walksF steps p) → Q (.ref d) H'
def spCome : Sp := fun vs H Q _ => ∃ (l : Addr) (p m : Nat) (rows : List TRow), vs = [.ref l, .int (p : Int)] ∧ TL H l (rows.map rowV) ∧ (∀ q ∈ ends rows, q.1 < m ∧ q.2 < m) ∧ p < m ∧ m ≤ 16 ∧ rows.length ≤ 60 ∧
  ∀ (r : Addr) (H' : Hp), H r = none → Same H H' → H' r = some (.lst ((cls m (ends rows) p).map natV)) → Q (.ref r) H'
theorem keys_has : ∀ {kvs : List (Key × V)} {S : List Nat} (q : Nat), kvs.map (·.1) = S.map (fun (q : Nat) => (Sum.inl (q : Int) : Key)) → (valV kvs (Sum.inl (q : Int) : Key)).isSome = decide (q ∈ S)
  | [], [], q, _ => by simp [valV_nil]
  | [], _ :: _, _, h => by cases h
  | _ :: _, [], _, h => by cases h
  | kv :: kvs, s :: S, q, h => by
    have h1 : kv.1 = (Sum.inl (s : Int) : Key) := (List.cons.inj h).1
    have h2 := (List.cons.inj h).2
    by_cases e : q = s
    · rw [valV_pos (by rw [h1, e])]
      simp [e]
    · rw [valV_neg (by rw [h1]; exact fun z => e (Int.ofNat.inj (Sum.inl.inj z)).symm), keys_has q h2]
      simp [e]
theorem wents_keys {H : Hp} : ∀ {kvs : List (Key × V)} {W : Walks}, WEnts H kvs W → kvs.map (·.1) = (wk W).map fun (q : Nat) => (Sum.inl (q : Int) : Key)
  | _, _, .nil => rfl
  | kv :: kvs, e :: W, .cons ⟨h, _⟩ q => by
    show kv.1 :: kvs.map (·.1) = _
    rw [h, wents_keys q]
    rfl
theorem wents_len {H : Hp} {kvs : List (Key × V)} {W : Walks} (h : WEnts H kvs W) : kvs.length = W.length := Paired.length h
theorem wents_ext {H H' : Hp} : ∀ {kvs : List (Key × V)} {W : Walks}, WEnts H kvs W → (∀ t, (∃ kv ∈ kvs, kv.2 = V.ref t) → ∀ xss, TL H t xss → TL H' t xss) → WEnts H' kvs W
  | _, _, .nil, _ => .nil
  | kv :: kvs, e :: W, .cons ⟨h, t, h1, h2⟩ q, k => .cons ⟨h, t, h1, k t ⟨kv, List.mem_cons_self .., h1⟩ _ h2⟩ (wents_ext q fun t ⟨x, hx, e⟩ => k t ⟨x, List.mem_cons_of_mem _ hx, e⟩)
theorem wents_same {H H' : Hp} {kvs : List (Key × V)} {W : Walks} (h : WEnts H kvs W) (s : Same H H') : WEnts H' kvs W := wents_ext h fun _ _ _ z => tl_same z s
theorem wents_app {H : Hp} {k : Nat} {t : Addr} {w : List TRow} (ht : TL H t (w.map rowV)) : ∀ {kvs : List (Key × V)} {W : Walks}, WEnts H kvs W → WEnts H (kvs ++ [((Sum.inl (k : Int) : Key), V.ref t)]) (W ++ [(k, w)])
  | _, _, .nil => .cons ⟨rfl, t, rfl, ht⟩ .nil
  | _, _, .cons z q => .cons z (wents_app ht q)
theorem wents_put {H : Hp} {kvs : List (Key × V)} {W : Walks} {k : Nat} (v : V) (h : WEnts H kvs W) (n : k ∉ wk W) : putK kvs (Sum.inl (k : Int) : Key) v = kvs ++ [((Sum.inl (k : Int) : Key), v)] := by
  have has := keys_has k (wents_keys h)
  rw [← valV_any] at has
  unfold putK
  rw [if_neg (by rw [has, decide_eq_false n]; exact Bool.false_ne_true)]
theorem wents_get {H : Hp} : ∀ {kvs : List (Key × V)} {W : Walks} {k : Nat}, WEnts H kvs W → k ∈ wk W → ∃ t, valV kvs (Sum.inl (k : Int) : Key) = some (V.ref t) ∧ TL H t ((walkTo W k).map rowV)
  | _, _, _, .nil, h => absurd h List.not_mem_nil
  | kv :: kvs, e :: W, k, .cons ⟨h, t, h1, h2⟩ q, hk => by
    by_cases c : e.1 = k
    · refine ⟨t, by rw [valV_pos (by rw [h, c]), h1], ?_⟩
      have z : walkTo (e :: W) k = e.2 := by
        unfold walkTo
        rw [List.find?_cons_of_pos (by exact decide_eq_true c)]
        rfl
      rw [z]
      exact h2
    · have hk' : k ∈ wk W := by
        rcases List.mem_cons.mp hk with z | z
        · exact (c z.symm).elim
        · exact z
      obtain ⟨t', g1, g2⟩ := wents_get q hk'
      refine ⟨t', by rw [valV_neg (by rw [h]; exact fun z => c (Int.ofNat.inj (Sum.inl.inj z)))]; exact g1, ?_⟩
      have z : walkTo (e :: W) k = walkTo W k := by
        unfold walkTo
        rw [List.find?_cons_of_neg (by rw [decide_eq_false c]; exact Bool.false_ne_true)]
      rw [z]
      exact g2
theorem tl_over {H : Hp} {l q : Addr} {xss : List (List V)} {xs : List V} {o : HO} (t : TL H l xss) (h : H q = some (.lst xs)) (n : l ≠ q) : TL (upd H q o) l xss := by
  obtain ⟨vs, e, tv⟩ := t
  exact ⟨vs, by rw [upd_ne n]; exact e, tups_over h tv⟩
abbrev s_walks_from : Stmt := top 8
abbrev N_walks_from : List Str := ["steps", "place", "walks", "waiting", "at", "step"]
theorem sc_walks_from : FnScope N_walks_from ["steps", "place"] (defScope s_walks_from) := ⟨rfl, rfl, rfl, by decide +kernel, rfl, by decide +kernel, by decide +kernel⟩
section
variable {P : Program} {w : World} {K : PySem.W.Frag} {mg : Str → Option Value} {base : Heap} {f : Addr} {fd : FuncData}
theorem ok_walks_from (D : FnP K "walks_from" "walks_from" s_walks_from f fd) : FnOk P w K mg base (L2.CX P w) 1 f fd ["steps", "place"] spWalks := by
  have nd := sc_walks_from.nd
  refine D.ok sc_walks_from (fun vs H Q E h => ?_) (fun cdv A outer s H vs Q E hr h => ?_)
  · obtain ⟨l, p, m, rows, rfl, _⟩ := h
    rfl
  · obtain ⟨l, p, m, rows, rfl, ⟨vs, el, tv⟩, inm, hp, m16, k⟩ := h
    have hu := hu_of hr
    refine ⟨_, (pss_cons (ps_set (i := 2) nd rfl (Or.inl rfl) (pe_disp (pps_cons (pv 1) (pe_lst pa_nil) pps_nil) rfl rfl (by intro z; cases z) (by decide)))
      (pss_cons (ps_set (i := 3) nd rfl (Or.inl rfl) (pe_lst (pa_cons (pv 1) pa_nil)))
      (pss_cons (ps_while (passes_of rfl) (pt_truth (pv 3) (by intro _; rfl)) (pss_cons (ps_set (i := 4) nd rfl (Or.inl rfl) (pe_bm PySem.F.plainAttrs_list PySem.F.slot_list_pop PySem.F.type_list_pop mt_popAt (pv 3) (pa_cons pe_int pa_nil)))
      (pss_one (ps_for (passes_of rfl) rfl (pi_list (pv 0)) (pg_name (i := 5) nd rfl (Or.inl rfl)) (pss_one (ps_if (PW.pt (pw_and (pt_cmpR op_eq (pe_ix ix_tup (pv 5) pe_int (fun _ _ => rfl)) (pv 4) (nomark _)) (pw_and1 (pt_cmp (pc_dnotin hu (pe_ix ix_tup (pv 5) pe_int (fun _ _ => rfl)) (pv 2)))))) (pss_cons (ps_dput hu (pv 2) (pe_ix ix_tup (pv 5) pe_int (fun _ _ => rfl)) (pe_op op_cat (pe_dget hu (pv 2) (pv 4) (fun _ _ => rfl)) (pe_lst (pa_cons (pv 5) pa_nil))) rfl)
      (pss_one (ps_expr (pe_bm PySem.F.plainAttrs_list PySem.F.slot_list_append PySem.F.type_list_append mt_append (pv 3) (pa_cons (pe_ix ix_tup (pv 5) pe_int (fun _ _ => rfl)) pa_nil))))) pss_nil))))))
      (pss_one (ps_ret (pv 2)))))), ?_⟩
    have lvs : vs.length = rows.length := by rw [tups_len tv, List.length_map]
    refine fun da hda => ⟨_, rfl, (by show 0 ≤ sizeLine; decide), fun ea hea => ⟨by rw [upd_ne (fun z => by rw [← z, upd_same] at hea; cases hea)]; exact upd_same, [((Sum.inl (p : Int) : Key), V.ref ea)], rfl, (by show 1 ≤ 15; decide), ?_⟩⟩
    have nda : da ≠ ea := fun z => by
      rw [← z, upd_same] at hea
      cases hea
    have hea0 : H ea = none := by
      rw [upd_ne nda.symm] at hea
      exact hea
    have e1 : upd (upd (upd H da (.dK [])) ea (.lst [])) da (.dK (mergeK [] [((Sum.inl (p : Int) : Key), V.ref ea)])) da = some (.dK [((Sum.inl (p : Int) : Key), V.ref ea)]) := upd_same
    have e2 : upd (upd (upd H da (.dK [])) ea (.lst [])) da (.dK (mergeK [] [((Sum.inl (p : Int) : Key), V.ref ea)])) ea = some (.lst []) := by rw [upd_ne nda.symm, upd_same]
    have sm0 : Same H (upd (upd (upd H da (.dK [])) ea (.lst [])) da (.dK (mergeK [] [((Sum.inl (p : Int) : Key), V.ref ea)]))) := same_over hda (same_over hea0 (same_new hda))
    refine (fun (rest : ∀ H0, H0 da = some (.dK [((Sum.inl (p : Int) : Key), V.ref ea)]) → H0 ea = some (.lst []) → Same H H0 → (_ : Hp → Prop) H0) => rest _ e1 e2 sm0) ?rest
    clear e1 e2 sm0 hea
    intro H0 e1 e2 sm0
    refine ⟨_, rfl, (by show 1 ≤ sizeLine; decide), fun wa hwa => ?_⟩
    have cw := same_new (o := .lst [V.int (p : Int)]) hwa
    have hwa0 : H wa = none := sm0.free hwa
    have d0 := cw _ _ e1
    have t0 := cw _ _ e2
    have w0 := upd_same (H := H0) (a := wa) (o := .lst [V.int (p : Int)])
    have sm1 := sm0.trans cw
    have nwe : ea ≠ wa := fun z => by
      rw [z, hwa] at e2
      cases e2
    generalize upd H0 wa (.lst [V.int (p : Int)]) = H1 at *
    clear e1 e2 sm0 cw hwa H0
    refine ⟨fun mu σ H' => ∃ (W : Walks) (q : List Nat) (kvs : List (Key × V)) (u4 u5 : Option V), σ = [some (.ref l), some (.int (p : Int)), some (.ref da), some (.ref wa), u4, u5] ∧ H' da = some (.dK kvs) ∧ H' wa = some (.lst (q.map natV)) ∧ WEnts H' kvs W ∧ (∀ kv ∈ kvs, kv.2 ≠ V.ref wa) ∧ BfsI rows p m (W, q) ∧ walksF rows p = bfs rows mu (W, q) ∧ q.length + (m - W.length) ≤ mu ∧ mu ≤ 16 ∧ Same H H',
      ⟨16, [(p, [])], [p], _, none, none, rfl, d0, w0, .cons ⟨rfl, ea, rfl, [], t0, .nil⟩ .nil, fun kv hkv z => ?_, bfs_start hp, rfl, (by show 1 + (m - 1) ≤ 16; omega), Nat.le_refl _, sm1⟩, ?_⟩
    · rw [List.mem_singleton.mp hkv] at z
      exact nwe (V.ref.inj z)
    clear d0 w0 t0 sm1 nwe hea0 nda
    rintro mu σ H1 ⟨W, q, kvs, u4, u5, rfl, ed, ew, we, clean, I, eqF, meas, m17, sm⟩
    refine ⟨_, rfl, !(q.map natV).isEmpty, .inl ⟨_, SqL.of ew, rfl⟩, ?_⟩
    cases q with
    | nil =>
      rw [bfs_nil] at eqF
      rw [← eqF] at we
      exact ⟨_, rfl, k da kvs H1 hda sm ed we⟩
    | cons a q =>
      obtain ⟨n, rfl⟩ : ∃ n, mu = n + 1 := ⟨mu - 1, by have : (q.length + 1) + _ ≤ mu := meas; omega⟩
      have meas : (q.length + 1) + (m - W.length) ≤ n + 1 := meas
      have eqF : walksF rows p = bfs rows n (rows.foldl (stepW a) (W, q)) := eqF
      have ha : a ∈ wk W := I.sub a (List.mem_cons_self ..)
      have I0 : BfsI rows p m (W, q) := ⟨I.tree, I.lt, fun x hx => I.sub x (List.mem_cons_of_mem _ hx)⟩
      have ew : H1 wa = some (.lst (natV a :: q.map natV)) := ew
      refine ⟨fun σ H' => ∃ (W : Walks) (q : List Nat) (kvs : List (Key × V)) (u4 u5 : Option V), σ = [some (.ref l), some (.int (p : Int)), some (.ref da), some (.ref wa), u4, u5] ∧ H' da = some (.dK kvs) ∧ H' wa = some (.lst (q.map natV)) ∧ WEnts H' kvs W ∧ (∀ kv ∈ kvs, kv.2 ≠ V.ref wa) ∧ BfsI rows p m (W, q) ∧ walksF rows p = bfs rows n (W, q) ∧ q.length + (m - W.length) ≤ n ∧ n ≤ 16 ∧ Same H H',
        fun σ' H' z => ⟨n, by omega, z⟩, ?_⟩
      have lq : q.length ≤ 16 := by omega
      refine ⟨_, rfl, .inl ⟨rfl, _, SqL.of ew⟩, wa, _, 0, 0, natV a, rfl, rfl, ew, by decide, by decide, ?_, rfl, ?_⟩
      · simp [seqIndex?]
      rw [show (natV a :: q.map natV).eraseIdx 0 = q.map natV from rfl]
      have ew2 := upd_same (H := H1) (a := wa) (o := .lst (q.map natV))
      have ed2 : upd H1 wa (.lst (q.map natV)) da = some (.dK kvs) := by rw [upd_ne (ne_of ed ew (by intro z; cases z))]; exact ed
      have we2 : WEnts (upd H1 wa (.lst (q.map natV))) kvs W := wents_ext we fun t ⟨kv, h1, h2⟩ xss z => tl_over z ew fun y => clean kv h1 (by rw [h2, y])
      have sm2 : Same H (upd H1 wa (.lst (q.map natV))) := same_over hwa0 sm
      generalize upd H1 wa (.lst (q.map natV)) = H2 at *
      clear ed we sm
      refine ⟨_, rfl, l, rfl, ⟨vs, SqL.of (sm2 _ _ el)⟩, for_it walk_list (fun i σ' H' => ∃ (kvs : List (Key × V)) (u5 : Option V), σ' = [some (.ref l), some (.int (p : Int)), some (.ref da), some (.ref wa), some (natV a), u5] ∧ H' da = some (.dK kvs) ∧ H' wa = some (.lst (((rows.take i).foldl (stepW a) (W, q)).2.map natV)) ∧ WEnts H' kvs ((rows.take i).foldl (stepW a) (W, q)).1 ∧ (∀ kv ∈ kvs, kv.2 ≠ V.ref wa) ∧ Same H H')
        ⟨kvs, u5, rfl, ed2, ew2, we2, clean, sm2⟩ (fun i σ' H' _ ⟨_, _, _, _, _, _, _, z⟩ => SqL.of (z _ _ el)) ?_ ?_⟩
      · rintro i x σ H3 H4 hi ⟨kvs', u5', rfl, ed', ew', we', clean', sm'⟩ ⟨rfl, hx⟩
        obtain ⟨t, xs, rfl, hxs, ht⟩ := tups_get tv hx
        obtain ⟨r, hr0⟩ : ∃ r, rows[i]? = some r := ⟨_, List.getElem?_eq_getElem (by omega)⟩
        rw [List.getElem?_map, hr0] at hxs
        cases hxs
        have ht3 := sm' _ _ ht
        have rin := List.mem_of_getElem? hr0
        have bnd := inm _ (List.mem_map.mpr ⟨r, rin, rfl⟩)
        have F := fold_W (a := a) (xs := rows.take i) I0 ha fun st hst => ⟨List.mem_of_mem_take hst, (inm _ (List.mem_map.mpr ⟨st, List.mem_of_mem_take hst, rfl⟩)).2⟩
        rw [take_snoc hr0, List.foldl_append]
        generalize (rows.take i).foldl (stepW a) (W, q) = S at *
        have sz : S.2.length + W.length = q.length + S.1.length := F.size
        have ls := bfsI_len F.I
        have lS : S.1.length ≤ m := ls
        have lk := wents_len we'
        have dq : decide (V.int (r.2.1 : Int) = natV a) = decide (r.2.1 = a) := decide_eq_decide.mpr ⟨fun z => Int.ofNat.inj (V.int.inj z), fun z => by rw [z]; rfl⟩
        refine ⟨_, rfl, t, _, _, _, rfl, rfl, SqT.of ht3, atI_nat (j := 1) rfl, _, rfl, rfl, ?_⟩
        rw [dq]
        refine ⟨_, rfl, ?_⟩
        by_cases eh : r.2.1 = a
        · rw [decide_eq_true eh]
          refine ⟨_, rfl, t, _, _, _, rfl, rfl, SqT.of ht3, atI_nat (j := 2) rfl, _, rfl, da, _, rfl, DGet.k (k := Sum.inl (r.2.2 : Int)) ed', _, rfl, ?_⟩
          rw [keys_has r.2.2 (wents_keys we')]
          by_cases hb : r.2.2 ∈ wk S.1
          · rw [decide_eq_true hb]
            refine ⟨kvs', _, rfl, ed', ?_, ?_, clean', sm'⟩
            · show H4 wa = some (.lst ((stepW a S r).2.map natV))
              rw [stepW_no (fun z => z.2 hb)]
              exact ew'
            · show WEnts H4 kvs' (stepW a S r).1
              rw [stepW_no (fun z => z.2 hb)]
              exact we'
          · rw [decide_eq_false hb]
            obtain ⟨tw, g1, g2, g3, g4⟩ := wents_get we' (F.keep a ha)
            have gd : DGet H4 da (natV a) (some (V.ref tw)) := by
              rw [← g1]
              exact DGet.k (k := Sum.inl (a : Int)) ed'
            refine ⟨_, rfl, _, rfl, da, V.ref tw, rfl, gd, ?_⟩
            refine ⟨_, rfl, (by show 1 ≤ sizeLine; decide), fun q1 hq1 => ?_⟩
            have c1 := same_new (o := .lst [V.ref t]) hq1
            have wl : (walkTo S.1 a).length < S.1.length := (tree_run F.I.tree _ (walkTo_mem (F.keep a ha))).2.2
            have lg : g2.length < 16 := by
              rw [tups_len g4, List.length_map]
              omega
            refine ⟨tw, q1, _, _, rfl, rfl, c1 _ _ g3, upd_same, by rw [sizeLine_eq]; show g2.length + 1 ≤ _; omega, fun q2 hq2 => ?_⟩
            have c2 := c1.trans (same_new (o := .lst (g2 ++ [V.ref t])) hq2)
            have e2 := upd_same (H := upd H4 q1 (.lst [V.ref t])) (a := q2) (o := .lst (g2 ++ [V.ref t]))
            have fq2 : H4 q2 = none := c1.free hq2
            generalize upd (upd H4 q1 (.lst [V.ref t])) q2 (.lst (g2 ++ [V.ref t])) = H6 at *
            have nqw : q2 ≠ wa := fun z => by
              rw [z, ew'] at fq2
              cases fq2
            have sm6 := sm'.trans c2
            have tn : TL H6 q2 ((walkTo S.1 a ++ [r]).map rowV) := ⟨_, e2, by rw [List.map_append]; exact tups_snoc (c2 _ _ ht3) (tups_ext (fun t xs e => c2 _ _ e) g4)⟩
            have we5 := wents_same we' c2
            have we6 := wents_app (k := r.2.2) tn we5
            have ed6 := c2 _ _ ed'
            have ew6 := c2 _ _ ew'
            have ht6 := c2 _ _ ht3
            clear hq1 hq2 c1 c2 ed' ew' we' sm' g1 g3 g4 gd
            refine ⟨_, rfl, _, rfl, t, _, _, _, rfl, rfl, SqT.of ht6, atI_nat (j := 2) rfl, da, _, rfl, .inl ⟨kvs', Sum.inl (r.2.2 : Int), ed6, rfl, by rw [lk, sizeLine_eq]; omega, rfl⟩, ?_⟩
            rw [wents_put (V.ref q2) we5 hb]
            have ntd : ∀ t' xss, TL H6 t' xss → t' ≠ da := fun t' xss ⟨_, e, _⟩ z => by
              rw [z, ed6] at e
              cases e
            have we7 : WEnts (upd H6 da (.dK (kvs' ++ [((Sum.inl (r.2.2 : Int) : Key), V.ref q2)]))) (kvs' ++ [((Sum.inl (r.2.2 : Int) : Key), V.ref q2)]) (S.1 ++ [(r.2.2, walkTo S.1 a ++ [r])]) := wents_ext we6 fun t' _ xss z => by
              obtain ⟨vs', z1, z2⟩ := id z
              exact ⟨vs', by rw [upd_ne (ntd t' xss z)]; exact z1, tups_ext (fun t xs e => by rw [upd_ne (ne_of e ed6 (by intro z; cases z))]; exact e) z2⟩
            have ed7 := upd_same (H := H6) (a := da) (o := .dK (kvs' ++ [((Sum.inl (r.2.2 : Int) : Key), V.ref q2)]))
            have ew7 : upd H6 da (.dK (kvs' ++ [((Sum.inl (r.2.2 : Int) : Key), V.ref q2)])) wa = some (.lst (S.2.map natV)) := by rw [upd_ne (ne_of ew6 ed6 (by intro z; cases z))]; exact ew6
            have ht7 : upd H6 da (.dK (kvs' ++ [((Sum.inl (r.2.2 : Int) : Key), V.ref q2)])) t = some (.tup (rowV r)) := by rw [upd_ne (ne_of ht6 ed6 (by intro z; cases z))]; exact ht6
            have sm7 : Same H (upd H6 da (.dK (kvs' ++ [((Sum.inl (r.2.2 : Int) : Key), V.ref q2)]))) := same_over hda sm6
            generalize upd H6 da (.dK (kvs' ++ [((Sum.inl (r.2.2 : Int) : Key), V.ref q2)])) = H7 at *
            refine ⟨_, rfl, .inl ⟨rfl, _, SqL.of ew7⟩, _, rfl, t, _, _, _, rfl, rfl, SqT.of ht7, atI_nat (j := 2) rfl, wa, _, _, rfl, rfl, ew7, by rw [List.length_map, sizeLine_eq]; omega, kvs' ++ [((Sum.inl (r.2.2 : Int) : Key), V.ref q2)], some (.ref t), rfl, ?_, ?_, ?_, fun kv hkv => ?_, same_over hwa0 sm7⟩
            · rw [upd_ne (ne_of ed7 ew7 (by intro z; cases z))]
              exact ed7
            · show _ = some (HO.lst ((stepW a S r).2.map natV))
              rw [stepW_yes eh hb, upd_same, List.map_append]
              rfl
            · show WEnts _ _ (stepW a S r).1
              rw [stepW_yes eh hb]
              exact wents_ext we7 fun t' ⟨kv, h1, h2⟩ xss z => tl_over z ew7 fun y => by
                rcases List.mem_append.mp h1 with h1 | h1
                · exact clean' kv h1 (by rw [h2, y])
                · rw [List.mem_singleton.mp h1] at h2
                  exact nqw ((V.ref.inj h2).trans y)
            · rcases List.mem_append.mp hkv with h1 | h1
              · exact clean' kv h1
              · rw [List.mem_singleton.mp h1]
                exact fun y => nqw (V.ref.inj y)
        · rw [decide_eq_false eh]
          refine ⟨kvs', _, rfl, ed', ?_, ?_, clean', sm'⟩
          · show H4 wa = some (.lst ((stepW a S r).2.map natV))
            rw [stepW_no (fun z => eh z.1)]
            exact ew'
          · show WEnts H4 kvs' (stepW a S r).1
            rw [stepW_no (fun z => eh z.1)]
            exact we'
      · rintro σ' H3 ⟨kvs', u5', rfl, ed', ew', we', clean', sm'⟩
        have F := fold_W (a := a) (xs := rows) I0 ha fun st hst => ⟨hst, (inm _ (List.mem_map.mpr ⟨st, hst, rfl⟩)).2⟩
        rw [List.take_of_length_le (by omega)] at ew' we'
        have sz : (rows.foldl (stepW a) (W, q)).2.length + W.length = q.length + (rows.foldl (stepW a) (W, q)).1.length := F.size
        have l1 : (rows.foldl (stepW a) (W, q)).1.length ≤ m := bfsI_len F.I
        have l0 : W.length ≤ m := bfsI_len I0
        exact ⟨_, _, kvs', _, _, rfl, ed', ew', we', clean', F.I, eqF, by omega, by omega, sm'⟩
end
end K06

set_option Elab.async false
set_option linter.all false
set_option maxRecDepth 100000
set_option maxHeartbeats 4000000
namespace K06
open PySem PySem.Spec PyProof.Rows L2 Own
/-! ### parts_along -/
def natL (yss : List (List Nat)) : List (List V) := yss.map fun ys => ys.map natV
def spPartsAlong : Sp := fun vs H Q _ => ∃ (l : Addr) (m : Nat) (rows : List TRow), vs = [.int (m : Int), .ref l] ∧ TL H l (rows.map rowV) ∧ (∀ q ∈ ends rows, q.1 < m ∧ q.2 < m) ∧ m ≤ 16 ∧ rows.length ≤ 60 ∧
  ∀ (r : Addr) (zs : List V) (H' : Hp), H r = none → Same H H' → H' r = some (.lst zs) → NewL H H' r zs (natL (partsOf m (ends rows))) → Q (.ref r) H'
theorem inV_nat (q : Nat) (ys : List Nat) : inV (.int (q : Int)) (ys.map natV) = decide (q ∈ ys) := by
  induction ys with
  | nil => rfl
  | cons y ys ih =>
    show (eqV (natV y) (.int (q : Int)) || inV (.int (q : Int)) (ys.map natV)) = _
    rw [ih]
    show (((y : Int) == (q : Int)) || decide (q ∈ ys)) = _
    by_cases h : q = y
    · subst h
      simp
    · have n : ((y : Int) == (q : Int)) = false := by
        rw [beq_eq_false_iff_ne]
        exact fun z => h (Int.ofNat.inj z).symm
      rw [n]
      simp [h]
theorem flat_nat (ys : List Nat) : (ys.map natV).all flatV = true := by
  rw [List.all_map]
  exact List.all_eq_true.mpr fun _ _ => rfl
theorem heads_succ (ps : Join) (i : Nat) (hl : Least ps i) : heads (i + 1) ps = heads i ps ++ [i] := by
  unfold heads
  rw [List.range_succ, List.filter_append, List.filter_cons, if_pos ((@decide_eq_true_iff _ (Classical.propDecidable _)).mpr hl)]
  rfl
theorem heads_skip (ps : Join) (i : Nat) (hl : ¬ Least ps i) : heads (i + 1) ps = heads i ps := by
  unfold heads
  rw [List.range_succ, List.filter_append, List.filter_cons, if_neg (fun z => hl ((@decide_eq_true_iff _ (Classical.propDecidable _)).mp z))]
  exact List.append_nil _
/-- whether a part told so far holds the place -/
theorem any_heads {ps : Join} {m i : Nat} (hi : i < m) : (heads i ps).any (fun h => decide (i ∈ cls m ps h)) = true ↔ ¬ Least ps i := by
  rw [List.any_eq_true]
  constructor
  · rintro ⟨h, h1, h2⟩ l
    exact l h (mem_heads.mp h1).1 (mem_cls.mp (of_decide_eq_true h2)).2
  · intro n
    obtain ⟨h, h1, h2, h3⟩ := least_of ps i
    have lt : h < i := by
      rcases Nat.lt_or_eq_of_le h1 with z | z
      · exact z
      · exact (n (z ▸ h3)).elim
    exact ⟨h, mem_heads.mpr ⟨lt, h3⟩, decide_eq_true (mem_cls.mpr ⟨hi, h2⟩)⟩
section
variable {P : Program} {w : World} {K : PySem.W.Frag} {mg : Str → Option Value} {base : Heap} {f : Addr} {fd : FuncData}
end
end K06

set_option Elab.async false
set_option linter.all false
set_option maxRecDepth 100000
set_option maxHeartbeats 4000000
namespace K06
open PySem PySem.Spec PyProof.Rows L2 Own
/-! ### walks and parting -/
theorem town_inm {C : Addr} {H : Hp} {p d : Addr} {m : Nat} {rows : List TRow} {n : Nat} (T : TownAt C H p d m rows n) : ∀ q ∈ ends rows, q.1 < m ∧ q.2 < m := fun q hq => by
  obtain ⟨r, hr, rfl⟩ := List.mem_map.mp hq
  obtain ⟨a, b, _⟩ := T.ok.ends r hr
  exact ⟨a, b⟩
theorem newL_free {H H1 H2 : Hp} {r : Addr} (sm : Same H H1) : ∀ {vs : List V} {yss : List (List V)}, NewL H1 H2 r vs yss → NewL H H2 r vs yss
  | _, _, .nil => .nil
  | _, _, .cons ⟨t, e, n, z, h⟩ q => .cons ⟨t, e, n, sm.free z, h⟩ (newL_free sm q)
def spReached (K : PySem.W.Frag) (C : Addr) : Sp := fun vs H Q E => ∃ (p d : Addr) (m : Nat) (rows : List TRow) (n : Nat) (x : V), vs = [.ref p, x] ∧ TownAt C H p d m rows n ∧ (∃ t, tyName x H = some t) ∧
  (isW x 0 ((m : Int) - 1) = false → ∀ H', Same H H' → E (.ref (gA K "BadPlace")) none H') ∧
  (∀ q : Nat, x = .int (q : Int) → q < m → ∀ (r : Addr) (H' : Hp), H r = none → Same H H' → H' r = some (.lst ((cls m (ends rows) q).map natV)) → Q (.ref r) H')
def spPartsT (C : Addr) : Sp := fun vs H Q _ => ∃ (p d : Addr) (m : Nat) (rows : List TRow) (n : Nat), vs = [.ref p] ∧ TownAt C H p d m rows n ∧
  ∀ (r : Addr) (zs : List V) (H' : Hp), H r = none → Same H H' → H' r = some (.lst zs) → NewL H H' r zs (natL (partsOf m (ends rows))) → Q (.ref r) H'
def spApart : Sp := fun vs H Q _ => ∃ (l t m : Nat) (rows : List TRow) (r : TRow), vs = [.ref l, .ref t] ∧ TL H l (rows.map rowV) ∧ (∀ q ∈ ends rows, q.1 < m ∧ q.2 < m) ∧ m ≤ 16 ∧ rows.length ≤ 60 ∧ r ∈ rows ∧ H t = some (.tup (rowV r)) ∧
  ∀ H', Same H H' → Q (.bl (bridge rows r)) H'
section
variable {P : Program} {w : World} {K : PySem.W.Frag} {mg : Str → Option Value} {base : Heap} {f : Addr} {fd : FuncData}
end
end K06

set_option Elab.async false
set_option linter.all false
set_option maxRecDepth 100000
set_option maxHeartbeats 4000000
namespace K06
open PySem PySem.Spec PyProof.Rows L2 Own
/-! ### the streets that part, the pieces -/
def spPartingRows (C : Addr) : Sp := fun vs H Q _ => ∃ (p d : Addr) (m : Nat) (rows : List TRow) (n : Nat), vs = [.ref p] ∧ TownAt C H p d m rows n ∧
  ∀ (r : Addr) (H' : Hp), H r = none → Same H H' → TL H' r ((rows.filter (bridge rows)).map rowV) → Q (.ref r) H'
def spWithout (C : Addr) : Sp := fun vs H Q _ => ∃ (p d b : Addr) (m : Nat) (rows bs : List TRow) (n : Nat), vs = [.ref p, .ref b] ∧ TownAt C H p d m rows n ∧ TL H b (bs.map rowV) ∧ bs.length ≤ 60 ∧
  ∀ (r : Addr) (zs : List V) (H' : Hp), H r = none → Same H H' → H' r = some (.lst zs) → NewL H H' r zs (natL (partsOf m (ends (rows.filter fun q => decide (q ∉ bs))))) → Q (.ref r) H'
def spParting (C : Addr) : Sp := fun vs H Q _ => ∃ (p d : Addr) (m : Nat) (rows : List TRow) (n : Nat), vs = [.ref p] ∧ TownAt C H p d m rows n ∧
  ∀ (r : Addr) (H' : Hp), H r = none → Same H H' → H' r = some (.lst (((rows.filter (bridge rows)).map (·.1)).map natV)) → Q (.ref r) H'
def spPieces (C : Addr) : Sp := fun vs H Q _ => ∃ (p d : Addr) (m : Nat) (rows : List TRow) (n : Nat), vs = [.ref p] ∧ TownAt C H p d m rows n ∧
  ∀ (r : Addr) (zs : List V) (H' : Hp), H r = none → Same H H' → H' r = some (.lst zs) → NewL H H' r zs (natL (piecesOf m rows)) → Q (.ref r) H'
theorem eqv_row (a b : TRow) : PyData.eqv (rowD a) (rowD b) = decide (a = b) := by
  obtain ⟨a1, a2, a3⟩ := a
  obtain ⟨b1, b2, b3⟩ := b
  have i : ∀ x y : Nat, ((x : Int) == (y : Int)) = decide (x = y) := fun x y => by
    by_cases e : x = y
    · subst e
      simp
    · rw [decide_eq_false e, beq_eq_false_iff_ne]
      exact fun z => e (Int.ofNat.inj z)
  simp [rowD, PyData.eqv, PyData.eqvAll]
  rw [i, i, i]
theorem any_row (r : TRow) (bs : List TRow) : (bs.map rowD).any (fun z => PyData.eqv z (rowD r)) = decide (r ∈ bs) := by
  induction bs with
  | nil => rfl
  | cons b bs ih =>
    rw [List.map_cons, List.any_cons, ih, eqv_row]
    by_cases h : r = b
    · subst h
      simp
    · rw [decide_eq_false (fun z => h z.symm)]
      simp [h]
theorem lay_row (r : TRow) : Lay 1 (rowD r) := lay_tup fun e he => by
  simp only [List.mem_cons, List.not_mem_nil, or_false] at he
  rcases he with h | h | h <;> rw [h] <;> exact lay_int _
theorem room65 {k : Nat} {A : Around} (r : Room k A) : A.units + 65 < cLine := by
  have := r.un
  omega
section
variable {P : Program} {w : World} {K : PySem.W.Frag} {mg : Str → Option Value} {base : Heap} {f : Addr} {fd : FuncData}
end
end K06

set_option Elab.async false
set_option linter.all false
set_option maxRecDepth 100000
set_option maxHeartbeats 4000000
namespace K06
open PySem PySem.Spec PyProof.Rows L2 Own
/-! ### comprehensions over rows -/
/-- the slots written out -/
theorem nice {T : TS} {D : Ends} {σ σ' : L2.St} {H : Hp} (e : σ = σ') (h : T D σ' H) : T D σ H := e ▸ h
theorem at_seq {A B : TS} {D : Ends} {σ : L2.St} {H : Hp} (h : A { D with nx := B D } σ H) : tSeq A B D σ H := h
theorem at_asg {te : TE} {g : TG} {D : Ends} {σ : L2.St} {H : Hp} (h : te σ H fun x H1 => g x σ H1 D.nx) : tAsg te g D σ H := h
theorem at_op {r : R2} {ta tb : TE} {σ : L2.St} {H : Hp} {Q : VK} (h : ta σ H fun x H1 => tb σ H1 fun y H2 => r x y H2 Q) : tOp r ta tb σ H Q := h
theorem at_ret {te : TE} {D : Ends} {σ : L2.St} {H : Hp} (h : te σ H D.rt) : tRet te D σ H := h
theorem at_next {D : Ends} {σ : L2.St} {H : Hp} (h : D.nx σ H) : tNext D σ H := h
theorem at_cb {r : List V → Hp → VK → Prop} {t : TA} {σ : L2.St} {H : Hp} {Q : VK} (h : t σ H fun vs H1 => r vs H1 Q) : tCB r t σ H Q := h
theorem at_test {t : TE} {σ : L2.St} {H : Hp} {Q : Bool → Hp → Prop} (h : t σ H fun x H' => ∃ k, x = .bl k ∧ Q k H') : tTest t σ H Q := h
theorem at_call {sp : Sp} {dvs : List V} {E : XK} {t : TA} {σ : L2.St} {H : Hp} {Q : VK} (h : t σ H fun vs H1 => sp (vs ++ dvs) H1 Q E) : tCall sp dvs E t σ H Q := h
theorem at_cons {ta : TE} {tr : TA} {σ : L2.St} {H : Hp} {Q : List V → Hp → Prop} (h : ta σ H fun x H1 => tr σ H1 fun xs H2 => Q (x :: xs) H2) : tCons ta tr σ H Q := h
theorem town_over {C : Addr} {H : Hp} {p d l : Addr} {m : Nat} {rows : List TRow} {n : Nat} {xs : List V} {o : HO} (T : TownAt C H p d m rows n) (h : H l = some (.lst xs)) : TownAt C (upd H l o) p d m rows n := by
  obtain ⟨dx, h1⟩ := T.ob
  obtain ⟨kvs, h2, h3⟩ := T.dc
  refine ⟨⟨dx, by rw [upd_ne (ne_of h1 h (by intro z; cases z))]; exact h1⟩, ⟨kvs, by rw [upd_ne (ne_of h2 h (by intro z; cases z))]; exact h2, ents_ext (fun t ys e => ?_) h3⟩, T.ok, T.pm⟩
  rw [upd_ne (ne_of e h (by intro z; cases z))]
  exact e
theorem sub_len {xs : List Nat} : ∀ {ys : List Nat}, xs.Nodup → (∀ x ∈ xs, x ∈ ys) → xs.length ≤ ys.length := by
  induction xs with
  | nil => exact fun _ _ => Nat.zero_le _
  | cons x xs ih =>
    intro ys nd h
    obtain ⟨n1, n2⟩ := List.nodup_cons.mp nd
    have hx := h x (List.mem_cons_self ..)
    have z := ih (ys := ys.erase x) n2 fun y hy => (List.mem_erase_of_ne (fun e => n1 (by rw [← e]; exact hy))).mpr (h y (List.mem_cons_of_mem _ hy))
    rw [List.length_erase_of_mem hx] at z
    have : 0 < ys.length := List.length_pos_of_mem hx
    show xs.length + 1 ≤ ys.length
    omega
theorem cut_drop (xs : List V) (c : Nat) : cutV xs (some (c : Int)) none = xs.drop c := by
  unfold cutV
  rw [HT.sIx_none, HT.sIx_nat]
  by_cases h : c ≤ xs.length
  · rw [Nat.min_eq_left h, List.take_of_length_le (by rw [List.length_drop]; exact Nat.le_refl _)]
  · rw [Nat.min_eq_right (by omega), List.drop_of_length_le (Nat.le_refl _), List.drop_of_length_le (by omega)]
    simp
/-- one after the other, by what holds between -/
theorem at_seqP {A B : TS} {D : Ends} {σ : L2.St} {H : Hp} (Pv : L2.St → Hp → Prop) (rest : ∀ σ' H', Pv σ' H' → B D σ' H') (h : ∀ N : L2.St → Hp → Prop, (∀ σ' H', Pv σ' H' → N σ' H') → A { D with nx := N } σ H) : tSeq A B D σ H := h (B D) rest
/-- two ways, by what the test tells -/
theorem at_ifP {t : TT} {A B : TS} {D : Ends} {σ : L2.St} {H : Hp} (Pt : Bool → Hp → Prop) (yes : ∀ H', Pt true H' → A D σ H') (no : ∀ H', Pt false H' → B D σ H') (test : ∀ N : Bool → Hp → Prop, (∀ b H', Pt b H' → N b H') → t σ H N) : tIfS t A B D σ H :=
  test _ fun b H' h => by
    cases b with
    | true => exact yes H' h
    | false => exact no H' h
/-- those kept by a test -/
theorem lc_rows {K : PySem.W.Frag} {i : Nat} {wi : TI} {tt : TT} {σ : L2.St} {H0 : Hp} {Q : VK} {rows : List TRow} (p : TRow → Bool)
    (src : ∀ R, (∀ l H1, Same H0 H1 → TL H1 l (rows.map rowV) → R (Itl K l) H1) → wi σ H0 R) (few : rows.length ≤ 1000)
    (hw : ∀ t, wipe ((wipe σ [i]).set i (some (V.ref t))) [i] = wipe σ [i]) (hi : ∀ t, ((wipe σ [i]).set i (some (V.ref t)))[i]? = some (some (V.ref t)))
    (test : ∀ (r : TRow), r ∈ rows → ∀ (t : Addr) (H2 : Hp) (Qt : Bool → Hp → Prop), Same H0 H2 → H2 t = some (.tup (rowV r)) → Qt (p r) H2 → tt ((wipe σ [i]).set i (some (V.ref t))) H2 Qt)
    (done : ∀ D H2, H0 D = none → Same H0 H2 → TL H2 D ((rows.filter p).map rowV) → Q (.ref D) H2) : tLc wi (gName i) tt (tVar i) [i] σ H0 Q := by
  refine src _ fun l H1 smA tl => ?_
  obtain ⟨vs, el, tv⟩ := tl
  have lvs : vs.length = rows.length := by rw [tups_len tv, List.length_map]
  intro D0 hD0
  refine lc_it (walk_list (K := K) (xs := vs)) (fun i H' => ∃ zs, H' D0 = some (.lst zs) ∧ Tups H' zs (((rows.take i).filter p).map rowV) ∧ Same H1 H') ⟨[], upd_same, .nil, same_new hD0⟩ (fun _ _ _ ⟨_, _, _, z⟩ => SqL.of (z _ _ el)) ?_ ?_
  · rintro j x H2 H3 hj ⟨zs, e1, e2, sm⟩ ⟨rfl, hx⟩
    obtain ⟨t, xs, rfl, hxs, ht⟩ := tups_get tv hx
    obtain ⟨r, hr0⟩ : ∃ r, rows[j]? = some r := ⟨_, List.getElem?_eq_getElem (by omega)⟩
    rw [List.getElem?_map, hr0] at hxs
    cases hxs
    have ht2 := sm _ _ ht
    have lz : zs.length ≤ j := by
      rw [tups_len e2, List.length_map]
      exact Nat.le_trans (List.length_filter_le _ _) (by rw [List.length_take]; omega)
    refine ⟨hw t, test r (List.mem_of_getElem? hr0) t H3 _ (smA.trans sm) ht2 ?_⟩
    rw [take_snoc hr0, List.filter_append, List.map_append]
    cases hp : p r with
    | true =>
      refine ⟨_, hi t, zs, e1, by rw [sizeLine_eq]; omega, zs ++ [V.ref t], upd_same, ?_, same_over hD0 sm⟩
      rw [List.filter_cons, if_pos hp]
      refine tups_snoc ?_ (tups_over e1 e2)
      rw [upd_ne (ne_of ht2 e1 (by intro z; cases z))]
      exact ht2
    | false =>
      refine ⟨zs, e1, ?_, sm⟩
      rw [List.filter_cons, if_neg (by rw [hp]; exact Bool.false_ne_true)]
      simpa using e2
  · rintro H2 ⟨zs, e1, e2, sm⟩
    rw [List.take_of_length_le (by omega)] at e2
    exact done D0 H2 (smA.free hD0) (smA.trans sm) ⟨zs, e1, e2⟩
/-- a number of each -/
theorem lc_nums {K : PySem.W.Frag} {i : Nat} {wi : TI} {te : TE} {σ : L2.St} {H0 : Hp} {Q : VK} {rows : List TRow} (g : TRow → Nat)
    (src : ∀ R, (∀ l H1, Same H0 H1 → TL H1 l (rows.map rowV) → R (Itl K l) H1) → wi σ H0 R) (few : rows.length ≤ 1000)
    (hw : ∀ t, wipe ((wipe σ [i]).set i (some (V.ref t))) [i] = wipe σ [i])
    (elem : ∀ (r : TRow), r ∈ rows → ∀ (t : Addr) (H2 : Hp) (Qt : VK), Same H0 H2 → H2 t = some (.tup (rowV r)) → Qt (natV (g r)) H2 → te ((wipe σ [i]).set i (some (V.ref t))) H2 Qt)
    (done : ∀ D H2, H0 D = none → Same H0 H2 → H2 D = some (.lst ((rows.map g).map natV)) → Q (.ref D) H2) : tLc wi (gName i) tYes te [i] σ H0 Q := by
  refine src _ fun l H1 smA tl => ?_
  obtain ⟨vs, el, tv⟩ := tl
  have lvs : vs.length = rows.length := by rw [tups_len tv, List.length_map]
  intro D0 hD0
  refine lc_it (walk_list (K := K) (xs := vs)) (fun i H' => H' D0 = some (.lst (((rows.take i).map g).map natV)) ∧ Same H1 H') ⟨upd_same, same_new hD0⟩ (fun _ _ _ ⟨_, z⟩ => SqL.of (z _ _ el)) ?_ ?_
  · rintro j x H2 H3 hj ⟨e1, sm⟩ ⟨rfl, hx⟩
    obtain ⟨t, xs, rfl, hxs, ht⟩ := tups_get tv hx
    obtain ⟨r, hr0⟩ : ∃ r, rows[j]? = some r := ⟨_, List.getElem?_eq_getElem (by omega)⟩
    rw [List.getElem?_map, hr0] at hxs
    cases hxs
    refine ⟨hw t, elem r (List.mem_of_getElem? hr0) t H3 _ (smA.trans sm) (sm _ _ ht) ?_⟩
    refine ⟨_, e1, by rw [List.length_map, List.length_map, List.length_take, sizeLine_eq]; omega, ?_, same_over hD0 sm⟩
    rw [upd_same, take_snoc hr0, List.map_append, List.map_append]
    rfl
  · rintro H2 ⟨e1, sm⟩
    rw [List.take_of_length_le (by omega)] at e1
    exact done D0 H2 (smA.free hD0) (smA.trans sm) e1
theorem src_name {K : PySem.W.Frag} {a : Nat} {σ : L2.St} {H0 : Hp} {l : Addr} {rows : List TRow} (hl : σ[a]? = some (some (V.ref l))) (tl : TL H0 l (rows.map rowV)) : ∀ R, (∀ l H1, Same H0 H1 → TL H1 l (rows.map rowV) → R (Itl K l) H1) → iList K (tVar a) σ H0 R := fun R h => by
  obtain ⟨vs, el, tv⟩ := id tl
  exact ⟨_, hl, l, rfl, ⟨vs, SqL.of el⟩, h l H0 (Same.refl H0) tl⟩
/-- lists of rows -/
abbrev TLs (H : Hp) : List V → List (List TRow) → Prop := Paired fun v rs => ∃ t, v = V.ref t ∧ TL H t (rs.map rowV)
theorem tls_get {H : Hp} : ∀ {vs : List V} {RR : List (List TRow)} {i : Nat} {v : V}, TLs H vs RR → vs[i]? = some v → ∃ t rs, v = V.ref t ∧ RR[i]? = some rs ∧ TL H t (rs.map rowV)
  | _, _, _, _, .nil, e => by simp at e
  | _, _, 0, _, .cons ⟨t, e, h⟩ _, q => by
    simp at q
    exact ⟨t, _, by rw [← q, e], rfl, h⟩
  | _, _, i + 1, v, .cons _ r, q => by
    obtain ⟨t, rs, h1, h2, h3⟩ := tls_get (i := i) (v := v) r (by simpa using q)
    exact ⟨t, rs, h1, by simpa using h2, h3⟩
/-- all the steps of all rows -/
theorem lc2_rows {K : PySem.W.Frag} {i j : Nat} {wi : TI} {σ : L2.St} {H0 : Hp} {Q : VK} {RR : List (List TRow)}
    (src : ∀ R, (∀ l zs H1, Same H0 H1 → H1 l = some (.lst zs) → TLs H1 zs RR → R (Itl K l) H1) → wi σ H0 R) (few : RR.flatten.length ≤ 1000)
    (hw : ∀ t, wipe ((wipe σ [i, j]).set i (some (V.ref t))) [i, j] = wipe σ [i, j]) (hi : ∀ t, ((wipe σ [i, j]).set i (some (V.ref t)))[i]? = some (some (V.ref t)))
    (hw2 : ∀ t x, wipe ((wipe ((wipe σ [i, j]).set i (some (V.ref t))) [j]).set j (some x)) [j] = wipe ((wipe σ [i, j]).set i (some (V.ref t))) [j]) (hj : ∀ t x, ((wipe ((wipe σ [i, j]).set i (some (V.ref t))) [j]).set j (some x))[j]? = some (some x))
    (done : ∀ D H2, H0 D = none → Same H0 H2 → TL H2 D (RR.flatten.map rowV) → Q (.ref D) H2) : tLc2 wi (gName i) tYes (iList K (tVar i)) (gName j) tYes (tVar j) [i, j] [j] σ H0 Q := by
  refine src _ fun l zs H1 smA el tl => ?_
  have lzs : zs.length = RR.length := Paired.length tl
  intro D0 hD0
  have w := walk_list (K := K) (a := l) (xs := zs)
  refine ⟨fun i m H' => m = zs.length - i ∧ i ≤ zs.length ∧ TL H' D0 (((RR.take i).flatten).map rowV) ∧ Same H1 H', ⟨_, rfl, Nat.zero_le _, ⟨[], upd_same, .nil⟩, same_new hD0⟩, ?_⟩
  rintro a mu H2 ⟨rfl, ha, td, sm⟩
  have q : SqL K H2 l zs := SqL.of (sm _ _ el)
  by_cases hlt : a < zs.length
  · refine .inr ⟨w.goes a H2 hlt q, fun H' => a + 1 ≤ zs.length ∧ TL H' D0 (((RR.take (a + 1)).flatten).map rowV) ∧ Same H1 H', fun H' h => ⟨zs.length - (a + 1), by omega, rfl, h.1, h.2.1, h.2.2⟩, fun x H' y => ?_⟩
    obtain ⟨rfl, hx⟩ := w.yields a H2 x H' hlt q y
    obtain ⟨t, rs, rfl, hrs, ht⟩ := tls_get tl hx
    refine ⟨hw t, ?_⟩
    obtain ⟨vs, ev, tv⟩ := tl_same ht sm
    have lvs : vs.length = rs.length := by rw [tups_len tv, List.length_map]
    have etk : (RR.take (a + 1)).flatten = (RR.take a).flatten ++ rs := by
      rw [take_snoc hrs, List.flatten_append]
      simp
    have lall : ((RR.take (a + 1)).flatten).length ≤ 1000 := by
      have e : RR.flatten = (RR.take (a + 1)).flatten ++ (RR.drop (a + 1)).flatten := by rw [← List.flatten_append, List.take_append_drop]
      rw [e, List.length_append] at few
      omega
    rw [etk, List.length_append] at lall
    refine ⟨_, hi t, t, rfl, ⟨vs, SqL.of ev⟩, ?_⟩
    have w1 := walk_list (K := K) (a := t) (xs := vs)
    refine ⟨fun b k H3 => k = vs.length - b ∧ b ≤ vs.length ∧ TL H3 D0 (((RR.take a).flatten ++ rs.take b).map rowV) ∧ Same H1 H3, ⟨_, rfl, Nat.zero_le _, by rw [List.take_zero, List.append_nil]; exact td, sm⟩, ?_⟩
    rintro b k H3 ⟨rfl, hb, td3, sm3⟩
    have ht3 := tl_same ht sm3
    obtain ⟨vs3, ev3, tv3⟩ := ht3
    have evs : vs3 = vs := by
      have e1 := sm3
      obtain ⟨v0, e0, _⟩ := id ht
      have z1 := sm _ _ e0
      have z2 := sm3 _ _ e0
      rw [ev] at z1
      rw [ev3] at z2
      cases z1
      cases z2
      rfl
    subst evs
    have q3 : SqL K H3 t vs3 := SqL.of ev3
    by_cases hlt3 : b < vs3.length
    · refine .inr ⟨w1.goes b H3 hlt3 q3, fun H' => b + 1 ≤ vs3.length ∧ TL H' D0 (((RR.take a).flatten ++ rs.take (b + 1)).map rowV) ∧ Same H1 H', fun H' h => ⟨vs3.length - (b + 1), by omega, rfl, h.1, h.2.1, h.2.2⟩, fun x H' y => ?_⟩
      obtain ⟨rfl, hx⟩ := w1.yields b H3 x H' hlt3 q3 y
      obtain ⟨u, xs, rfl, hxs, hu⟩ := tups_get tv3 hx
      obtain ⟨r, hr0⟩ : ∃ r, rs[b]? = some r := ⟨_, List.getElem?_eq_getElem (by omega)⟩
      rw [List.getElem?_map, hr0] at hxs
      cases hxs
      refine ⟨hw2 t _, ?_⟩
      obtain ⟨acc, ea, ta⟩ := td3
      have la : acc.length = ((RR.take a).flatten ++ rs.take b).length := by rw [tups_len ta, List.length_map]
      refine ⟨_, hj t _, acc, ea, ?_, by omega, ⟨acc ++ [V.ref u], upd_same, ?_⟩, same_over hD0 sm3⟩
      · rw [la, List.length_append, List.length_take, sizeLine_eq]
        omega
      · rw [take_snoc hr0, ← List.append_assoc, List.map_append]
        refine tups_snoc ?_ (tups_over ea ta)
        rw [upd_ne (ne_of hu ea (by intro z; cases z))]
        exact hu
    · have e : b = vs3.length := by omega
      subst e
      rw [show rs.take vs3.length = rs from List.take_of_length_le (by omega)] at td3
      exact .inl ⟨w1.stops H3 q3, by omega, by rw [etk]; exact td3, sm3⟩
  · have e : a = zs.length := by omega
    subst e
    rw [List.take_of_length_le (by omega)] at td
    exact .inl ⟨w.stops H2 q, done D0 H2 (smA.free hD0) (smA.trans sm) td⟩
end K06

set_option Elab.async false
set_option linter.all false
set_option maxRecDepth 100000
set_option maxHeartbeats 4000000
namespace K06
open PySem PySem.Spec PyProof.Rows L2 Own
/-! ### led by steps -/
def natD0 (ys : List Nat) : PyData := .list (ys.map fun (q : Nat) => PyData.int (q : Int))
theorem dp_nats0 {K : PySem.W.Frag} {H : Hp} : ∀ ys : List Nat, DpAll K H (ys.map natV) (ys.map fun (q : Nat) => PyData.int (q : Int))
  | [] => .nil
  | _ :: ys => .cons (.int _) (dp_nats0 ys)
theorem dp_nat0 {K : PySem.W.Frag} {H : Hp} {r : Addr} {ys : List Nat} (h : H r = some (.lst (ys.map natV))) : Dp K H (.ref r) (natD0 ys) := .lst (SqL.of h) (dp_nats0 ys)
theorem lay_nat0 (ys : List Nat) : Lay 1 (natD0 ys) := lay_list fun d hd => by
  obtain ⟨q, _, rfl⟩ := List.mem_map.mp hd
  exact lay_int _
theorem eqv_nat0 (ys : List Nat) : PyData.eqv (natD0 ys) (.list []) = ys.isEmpty := by
  cases ys <;> rfl
def spLed : Sp := fun vs H Q _ => ∃ (l : Addr) (p m : Nat) (rows : List TRow), vs = [.ref l, .int (p : Int)] ∧ TL H l (rows.map rowV) ∧ (∀ q ∈ ends rows, q.1 < m ∧ q.2 < m) ∧ p < m ∧ m ≤ 16 ∧
  ∀ (r : Addr) (H' : Hp), H r = none → Same H H' → H' r = some (.lst ((ledOf m (ends rows) p).map natV)) → Q (.ref r) H'
abbrev s_law_led : Stmt := top 23
abbrev N_law_led : List Str := ["_law_ways", "_law_place", "_law_found", "_law_waiting", "_law_here", "_law_street", "_law_one", "_law_other"]
theorem sc_law_led : FnScope N_law_led ["_law_ways", "_law_place"] (defScope s_law_led) := ⟨rfl, rfl, rfl, by decide +kernel, rfl, by decide +kernel, by decide +kernel⟩
/-- the places found, those that wait, in the midst -/
structure Mid (m p : Nat) (ws : Join) (F W : List Nat) : Prop where
  nd : F.Nodup
  inS : ∀ q ∈ F, q < m ∧ Led ws p q
  at_ : p ∈ F
  sub : ∀ q ∈ W, q ∈ F
section
variable {P : Program} {w : World} {K : PySem.W.Frag} {mg : Str → Option Value} {base : Heap} {f : Addr} {fd : FuncData}
theorem ok_led (T : TxtG mg) (D : FnP K "_law_led" "_law_led" s_law_led f fd) : FnOk P w K mg base (L2.CX P w) 1 f fd ["_law_ways", "_law_place"] spLed := by
  have nd := sc_law_led.nd
  refine D.ok sc_law_led (fun vs H Q E h => ?_) (fun cdv A outer s H vs Q E hr h => ?_)
  · obtain ⟨l, p, m, rows, rfl, _⟩ := h
    rfl
  · obtain ⟨l, p, m, rows, rfl, ⟨vs, el, tv⟩, inm, hp, m16, k⟩ := h
    refine ⟨_, (pss_cons (ps_set (i := 2) nd rfl (Or.inl rfl) (pe_lst (pa_cons (pv 1) pa_nil)))
      (pss_cons (ps_set (i := 3) nd rfl (Or.inl rfl) (pe_lst (pa_cons (pv 1) pa_nil)))
      (pss_cons (ps_while (passes_of rfl) (pt_cmpR (op_neD hr.units) (pv 3) (pe_lst pa_nil) (nomark _)) (pss_cons (ps_set (i := 4) nd rfl (Or.inl rfl) (pe_bm0 PySem.F.plainAttrs_list PySem.F.slot_list_pop PySem.F.type_list_pop mt_pop (pv 3)))
      (pss_one (ps_for (passes_of rfl) rfl (pi_list (pv 0)) (pg_tup rfl (pgs_cons (pg_name (i := 5) nd rfl (Or.inl rfl)) (pgs_cons (pg_name (i := 6) nd rfl (Or.inl rfl)) (pgs_cons (pg_name (i := 7) nd rfl (Or.inl rfl)) pgs_nil)))) (pss_one (ps_if (PW.pt (pw_and (pt_cmpR op_eq (pv 6) (pv 4) (nomark _)) (pw_and1 (pt_cmpR op_notIn_seq (pv 7) (pv 2) (by with_unfolding_all rfl))))) (pss_cons (ps_expr (pe_bm PySem.F.plainAttrs_list PySem.F.slot_list_append PySem.F.type_list_append mt_append (pv 2) (pa_cons (pv 7) pa_nil)))
      (pss_one (ps_expr (pe_bm PySem.F.plainAttrs_list PySem.F.slot_list_append PySem.F.type_list_append mt_append (pv 3) (pa_cons (pv 7) pa_nil))))) pss_nil))))))
      (pss_one (ps_ret (pe_callB cr_sorted rfl T.f_sorted (by decide +kernel) (pa_cons (pv 2) pa_nil))))))), ?_⟩
    have lvs : vs.length = rows.length := by rw [tups_len tv, List.length_map]
    refine ⟨_, rfl, (by show 1 ≤ sizeLine; decide), fun fa hfa => ?_⟩
    have c1 := same_new (o := .lst [V.int (p : Int)]) hfa
    refine ⟨_, rfl, (by show 1 ≤ sizeLine; decide), fun wa hwa => ?_⟩
    have c2 := same_new (o := .lst [V.int (p : Int)]) hwa
    have nfw : fa ≠ wa := fun z => by
      rw [← z, upd_same] at hwa
      cases hwa
    have ef0 := c2 _ _ (upd_same (H := H) (a := fa) (o := .lst [V.int (p : Int)]))
    have ew0 := upd_same (H := upd H fa (.lst [V.int (p : Int)])) (a := wa) (o := .lst [V.int (p : Int)])
    have sm0 := c1.trans c2
    have hwa0 : H wa = none := c1.free hwa
    generalize upd (upd H fa (.lst [V.int (p : Int)])) wa (.lst [V.int (p : Int)]) = H0 at *
    refine ⟨fun mu σ H' => ∃ (F W : List Nat) (u4 u5 u6 u7 : Option V), σ = [some (.ref l), some (.int (p : Int)), some (.ref fa), some (.ref wa), u4, u5, u6, u7] ∧ H' fa = some (.lst (F.map natV)) ∧ H' wa = some (.lst (W.map natV)) ∧ Mid m p (ends rows) F W ∧ (∀ x ∈ F, x ∉ W → ∀ q ∈ ends rows, q.1 = x → q.2 ∈ F) ∧ Same H H' ∧ W.length ≤ F.length ∧ mu = W.length + 2 * (m - F.length),
      ⟨_, [p], [p], none, none, none, none, rfl, ef0, ew0, ⟨by simp, fun q hq => ?_, List.mem_singleton.mpr rfl, fun q hq => hq⟩, fun x hx hn => (hn hx).elim, sm0, Nat.le_refl _, rfl⟩, ?_⟩
    · rw [List.mem_singleton.mp hq]
      exact ⟨hp, .stay _⟩
    rintro mu σ H1 ⟨F, W, u4, u5, u6, u7, rfl, ef, ew, M, cl, sm, lwf, rfl⟩
    have lF : F.length ≤ m := nodup_le M.nd fun q hq => (M.inS q hq).1
    refine ⟨_, rfl, (by show 0 ≤ sizeLine; decide), fun e1 he1 => ?_⟩
    have c3 := same_new (o := .lst []) he1
    have ee := upd_same (H := H1) (a := e1) (o := .lst [])
    generalize upd H1 e1 (.lst []) = H2 at *
    refine ⟨_, _, dp_nat0 (c3 _ _ ew), .lst (SqL.of ee) .nil, (lay_nat0 W).shaped (by decide), by decide, ?_⟩
    rw [eqv_nat0]
    refine ⟨_, rfl, ?_⟩
    have smN := sm.trans c3
    rcases List.eq_nil_or_concat W with hW | ⟨W0, here, hW⟩
    · subst hW
      -- all is found
      refine ⟨_, rfl, fa, F.map (fun (q : Nat) => (q : Int)), rfl, SqL.of (by rw [List.map_map]; exact c3 _ _ ef), by rw [List.length_map]; omega, fun ys r perm up hr2 => ?_⟩
      refine k r _ (smN.free hr2) (smN.trans (same_new hr2)) ?_
      have e := sorted_cls perm up M.nd (led_up (m := m) (ws := ends rows) (p := p)) fun x => ?_
      · rw [upd_same, e, List.map_map]
        rfl
      · rw [mem_led]
        exact ⟨fun hx => M.inS x hx, fun hx => hx.2.closed (S := fun q => q ∈ F) M.at_ fun q hq h1 => cl _ h1 (by simp) q hq rfl⟩
    · rw [List.concat_eq_append] at hW
      subst hW
      have ie : (W0 ++ [here]).isEmpty = false := by simp
      rw [ie]
      have hereF : here ∈ F := M.sub _ (List.mem_append_right _ (List.mem_singleton.mpr rfl))
      have lW : (W0 ++ [here]).length = W0.length + 1 := by rw [List.length_append]; rfl
      refine ⟨fun σ' H' => ∃ (F' W' : List Nat) (u4 u5 u6 u7 : Option V), σ' = [some (.ref l), some (.int (p : Int)), some (.ref fa), some (.ref wa), u4, u5, u6, u7] ∧ H' fa = some (.lst (F'.map natV)) ∧ H' wa = some (.lst (W'.map natV)) ∧ Mid m p (ends rows) F' W' ∧ (∀ x ∈ F', x ∉ W' → ∀ q ∈ ends rows, q.1 = x → q.2 ∈ F') ∧ Same H H' ∧ W'.length ≤ F'.length ∧ W'.length + 2 * (m - F'.length) ≤ W0.length + 2 * (m - F.length),
        fun σ' H' ⟨F', W', u4, u5, u6, u7, e, e1, e2, e3, e4, e5, e6, e7⟩ => ⟨W'.length + 2 * (m - F'.length), by rw [lW]; omega, F', W', u4, u5, u6, u7, e, e1, e2, e3, e4, e5, e6, rfl⟩, ?_⟩
      have xmap : (W0 ++ [here]).map natV = W0.map natV ++ [natV here] := by rw [List.map_append]; rfl
      have ew2 := c3 _ _ ew
      have ef2 := c3 _ _ ef
      rw [xmap] at ew2
      refine ⟨_, rfl, .inl ⟨rfl, _, SqL.of ew2⟩, wa, _, natV here, rfl, rfl, ew2, by simp, ?_⟩
      rw [List.dropLast_concat]
      have ef3 : upd H2 wa (.lst (W0.map natV)) fa = some (.lst (F.map natV)) := by rw [upd_ne nfw]; exact ef2
      have ew3 := upd_same (H := H2) (a := wa) (o := .lst (W0.map natV))
      have sm3 : Same H (upd H2 wa (.lst (W0.map natV))) := same_over hwa0 smN
      generalize upd H2 wa (.lst (W0.map natV)) = H3 at *
      refine ⟨_, rfl, l, rfl, ⟨vs, SqL.of (sm3 _ _ el)⟩, for_it walk_list (fun i σ' H' => ∃ (F' W' : List Nat) (u5 u6 u7 : Option V), σ' = [some (.ref l), some (.int (p : Int)), some (.ref fa), some (.ref wa), some (natV here), u5, u6, u7] ∧ H' fa = some (.lst (F'.map natV)) ∧ H' wa = some (.lst (W'.map natV)) ∧ Mid m p (ends rows) F' W' ∧ (∀ x ∈ F', x ∉ W' → x ≠ here → ∀ q ∈ ends rows, q.1 = x → q.2 ∈ F') ∧ (∀ q ∈ (ends rows).take i, q.1 = here → q.2 ∈ F') ∧ here ∈ F' ∧ Same H H' ∧ W'.length ≤ F'.length ∧ W'.length + 2 * (m - F'.length) ≤ W0.length + 2 * (m - F.length))
        ⟨F, W0, u5, u6, u7, rfl, ef3, ew3, ⟨M.nd, M.inS, M.at_, fun q hq => M.sub q (List.mem_append_left _ hq)⟩, fun x hx hn ne => cl x hx (fun z => by
          rcases List.mem_append.mp z with z | z
          · exact hn z
          · exact ne (List.mem_singleton.mp z)), fun q hq => by simp at hq, hereF, sm3, by omega, Nat.le_refl _⟩ (fun i σ' H' _ ⟨_, _, _, _, _, _, _, _, _, _, _, _, z, _⟩ => SqL.of (z _ _ el)) ?_ ?_⟩
      · rintro i x σ H4 H5 hi ⟨F', W', u5, u6, u7, rfl, f1, w1, M', c1', c2', hF', sm4, lw, me⟩ ⟨rfl, hx⟩
        obtain ⟨t, xs, rfl, hxs, ht⟩ := tups_get tv hx
        obtain ⟨r, hr0⟩ : ∃ r, rows[i]? = some r := ⟨_, List.getElem?_eq_getElem (by omega)⟩
        rw [List.getElem?_map, hr0] at hxs
        cases hxs
        have rin : (r.2.1, r.2.2) ∈ ends rows := List.mem_map.mpr ⟨r, List.mem_of_getElem? hr0, rfl⟩
        have etake : (ends rows).take (i + 1) = (ends rows).take i ++ [(r.2.1, r.2.2)] := take_snoc (by unfold ends; rw [List.getElem?_map, hr0]; rfl)
        have bnd := inm _ rin
        have lF' : F'.length ≤ m := nodup_le M'.nd fun q hq => (M'.inS q hq).1
        refine ⟨t, _, rfl, SqT.of (sm4 _ _ ht), rfl, _, _, rfl, _, _, rfl, _, _, rfl, rfl, ?_⟩
        have dq : decide (V.int (r.2.1 : Int) = natV here) = decide (r.2.1 = here) := decide_eq_decide.mpr ⟨fun z => Int.ofNat.inj (V.int.inj z), fun z => by rw [z]; rfl⟩
        refine ⟨_, rfl, _, rfl, rfl, ?_⟩
        rw [dq]
        refine ⟨_, rfl, ?_⟩
        by_cases eh : r.2.1 = here
        · rw [decide_eq_true eh]
          refine ⟨_, rfl, _, rfl, fa, _, rfl, .inl (SqL.of f1), rfl, flat_nat _, ?_⟩
          rw [inV_nat, if_pos rfl]
          refine ⟨_, rfl, ?_⟩
          by_cases hb : r.2.2 ∈ F'
          · rw [decide_eq_true hb]
            refine ⟨F', W', _, _, _, rfl, f1, w1, M', c1', fun q hq e => ?_, hF', sm4, lw, me⟩
            rw [etake] at hq
            rcases List.mem_append.mp hq with z | z
            · exact c2' q z e
            · rw [List.mem_singleton.mp z]
              exact hb
          · rw [decide_eq_false hb]
            have w1' : upd H5 fa (.lst (F'.map natV ++ [V.int (r.2.2 : Int)])) wa = some (.lst (W'.map natV)) := by rw [upd_ne nfw.symm]; exact w1
            have small : (F'.map natV).length < sizeLine := by rw [List.length_map, sizeLine_eq]; omega
            have small2 : (W'.map natV).length < sizeLine := by rw [List.length_map, sizeLine_eq]; omega
            refine ⟨_, rfl, .inl ⟨rfl, _, SqL.of f1⟩, _, rfl, fa, _, _, rfl, rfl, f1, small, ?_⟩
            refine ⟨_, rfl, .inl ⟨rfl, _, SqL.of w1'⟩, _, rfl, wa, _, _, rfl, rfl, w1', small2, ?_⟩
            have nd2 : (F' ++ [r.2.2]).Nodup := by
              rw [List.nodup_append]
              exact ⟨M'.nd, by simp, fun x hx y hy e => by
                rw [List.mem_singleton] at hy
                rw [hy] at e
                rw [e] at hx
                exact hb hx⟩
            have ledNew : Led (ends rows) p r.2.2 := .go (eh ▸ (M'.inS here hF').2) rin
            refine ⟨F' ++ [r.2.2], W' ++ [r.2.2], _, _, _, rfl, ?_, ?_, ⟨nd2, fun q hq => ?_, List.mem_append_left _ M'.at_, fun q hq => ?_⟩, fun x hx hn ne q hq e => ?_, fun q hq e => ?_, List.mem_append_left _ hF', same_over hwa0 (same_over (H := H) hfa sm4), ?_, ?_⟩
            · rw [upd_ne nfw, upd_same, List.map_append]
              rfl
            · rw [upd_same, List.map_append]
              rfl
            · rcases List.mem_append.mp hq with z | z
              · exact M'.inS q z
              · rw [List.mem_singleton.mp z]
                exact ⟨bnd.2, ledNew⟩
            · rcases List.mem_append.mp hq with z | z
              · exact List.mem_append_left _ (M'.sub q z)
              · exact List.mem_append_right _ z
            · rcases List.mem_append.mp hx with z | z
              · exact List.mem_append_left _ (c1' x z (fun y => hn (List.mem_append_left _ y)) ne q hq e)
              · exact (hn (List.mem_append_right _ z)).elim
            · rw [etake] at hq
              rcases List.mem_append.mp hq with z | z
              · exact List.mem_append_left _ (c2' q z e)
              · rw [List.mem_singleton.mp z]
                exact List.mem_append_right _ (List.mem_singleton.mpr rfl)
            · rw [List.length_append, List.length_append]
              show W'.length + 1 ≤ F'.length + 1
              omega
            · have lF2 := nodup_le nd2 fun q hq => by
                rcases List.mem_append.mp hq with z | z
                · exact (M'.inS q z).1
                · rw [List.mem_singleton.mp z]
                  exact bnd.2
              rw [List.length_append] at lF2 ⊢
              rw [List.length_append]
              have e1 : [r.2.2].length = 1 := rfl
              rw [e1] at lF2 ⊢
              omega
        · rw [decide_eq_false eh]
          refine ⟨F', W', _, _, _, rfl, f1, w1, M', c1', fun q hq e => ?_, hF', sm4, lw, me⟩
          rw [etake] at hq
          rcases List.mem_append.mp hq with z | z
          · exact c2' q z e
          · rw [List.mem_singleton.mp z] at e
            exact (eh e).elim
      · rintro σ' H4 ⟨F', W', u5, u6, u7, rfl, f1, w1, M', c1', c2', hF', sm4, lw, me⟩
        refine ⟨F', W', _, _, _, _, rfl, f1, w1, M', fun x hx hn q hq e => ?_, sm4, lw, me⟩
        by_cases eh : x = here
        · rw [List.take_of_length_le (by unfold ends; rw [List.length_map]; omega)] at c2'
          exact c2' q hq (e.trans eh)
        · exact c1' x hx hn eh q hq e
end
end K06

set_option Elab.async false
set_option linter.all false
set_option maxRecDepth 100000
set_option maxHeartbeats 4000000
namespace K06
open PySem PySem.Spec PyProof.Rows L2 Own
/-! ### good ways by the law -/
theorem eqv_rows : ∀ xs ys : List TRow, PyData.eqv (.list (xs.map rowD)) (.list (ys.map rowD)) = decide (xs = ys)
  | [], [] => rfl
  | [], _ :: _ => rfl
  | _ :: _, [] => rfl
  | x :: xs, y :: ys => by
    have ih := eqv_rows xs ys
    have e : PyData.eqv (.list ((x :: xs).map rowD)) (.list ((y :: ys).map rowD)) = (PyData.eqv (rowD x) (rowD y) && PyData.eqv (.list (xs.map rowD)) (.list (ys.map rowD))) := by
      simp [PyData.eqv, PyData.eqvAll]
    rw [e, ih, eqv_row]
    simp
def spGood : Sp := fun vs H Q _ => ∃ (m : Nat) (lr lw : Addr) (rows ways : List TRow), vs = [.int (m : Int), .ref lr, .ref lw] ∧ TL H lr (rows.map rowV) ∧ TL H lw (ways.map rowV) ∧ (∀ q ∈ ends ways, q.1 < m ∧ q.2 < m) ∧ 1 ≤ m ∧ m ≤ 16 ∧ rows.length ≤ 60 ∧ ways.length ≤ 60 ∧
  ∀ H', Same H H' → Q (.bl (goodB m rows ways)) H'
abbrev s_law_good : Stmt := top 24
abbrev N_law_good : List Str := ["_law_many_here", "_law_rows", "_law_ways", "_law_mine", "_law_back", "_law_street", "_law_one", "_law_other"]
theorem sc_law_good : FnScope N_law_good ["_law_many_here", "_law_rows", "_law_ways"] (defScope s_law_good) := ⟨rfl, rfl, rfl, by decide +kernel, rfl, by decide +kernel, by decide +kernel⟩
section
variable {P : Program} {w : World} {K : PySem.W.Frag} {mg : Str → Option Value} {base : Heap} {f : Addr} {fd : FuncData}
theorem ok_good (T : TxtM mg) (D : FnP K "_law_good" "_law_good" s_law_good f fd) (c_law_led : CalX P w K mg base 1 "_law_led" spLed) : FnOk P w K mg base (L2.CX P w) 2 f fd ["_law_many_here", "_law_rows", "_law_ways"] spGood := by
  have nd := sc_law_good.nd
  refine D.ok sc_law_good (fun vs H Q E h => ?_) (fun cdv A outer s H vs Q E hr h => ?_)
  · obtain ⟨m, lr, lw, rows, ways, rfl, _⟩ := h
    rfl
  · obtain ⟨m, lr, lw, rows, ways, rfl, ⟨vr, er, tr⟩, ⟨vw, ew, tw⟩, inm, m1, m16, fr, fw, k⟩ := h
    obtain ⟨f_law_led, fd_law_led, ps_law_led, F_law_led, m_law_led, k_law_led, b_law_led⟩ := c_law_led.ex
    refine ⟨_, (pss_cons (ps_setLc (own := [("_law_street", 5), ("_law_one", 6), ("_law_other", 7)]) (g := (gTup K 3 (gCons (gName 5) (gCons (gName 6) (gCons (gName 7) gNil))))) (i := 3) rfl nd rfl rfl (sw_true rfl rfl rfl (by decide +kernel)) (pi_list (pv 2)) (blkOk_by (own := [("_law_street", 5), ("_law_one", 6), ("_law_other", 7)]) (N := N_law_good) (sc := defScope s_law_good) (by decide +kernel)) (fun _ _ _ _ _ => (pg_tup rfl (pgs_cons (pg_name (i := 5) nd rfl (Or.inl rfl)) (pgs_cons (pg_name (i := 6) nd rfl (Or.inl rfl)) (pgs_cons (pg_name (i := 7) nd rfl (Or.inl rfl)) pgs_nil))))) (fun _ _ _ _ _ => pts_nil) (fun _ _ _ _ _ => (pe_tup (pa_cons (pv 5) (pa_cons (pe_callB (call_min2 rfl) rfl T.f_min (by decide +kernel) (pa_cons (pv 6) (pa_cons (pv 7) pa_nil))) (pa_cons (pe_callB (call_max2 rfl) rfl T.f_max (by decide +kernel) (pa_cons (pv 6) (pa_cons (pv 7) pa_nil))) pa_nil))))))
      (pss_cons (ps_if (pt_cmpR (op_neD hr.units) (pv 3) (pe_lc (own := [("_law_street", 5), ("_law_one", 6), ("_law_other", 7)]) (g := (gTup K 3 (gCons (gName 5) (gCons (gName 6) (gCons (gName 7) gNil))))) rfl nd (pi_list (pv 1)) (blkOk_by (own := [("_law_street", 5), ("_law_one", 6), ("_law_other", 7)]) (N := N_law_good) (sc := defScope s_law_good) (by decide +kernel)) (fun _ _ _ _ _ => (pg_tup rfl (pgs_cons (pg_name (i := 5) nd rfl (Or.inl rfl)) (pgs_cons (pg_name (i := 6) nd rfl (Or.inl rfl)) (pgs_cons (pg_name (i := 7) nd rfl (Or.inl rfl)) pgs_nil))))) (fun _ _ _ _ _ => pts_nil) (fun _ _ _ _ _ => (pe_tup (pa_cons (pv 5) (pa_cons (pe_callB (call_min2 rfl) rfl T.f_min (by decide +kernel) (pa_cons (pv 6) (pa_cons (pv 7) pa_nil))) (pa_cons (pe_callB (call_max2 rfl) rfl T.f_max (by decide +kernel) (pa_cons (pv 6) (pa_cons (pv 7) pa_nil))) pa_nil)))))) (nomark _)) (pss_one (ps_ret pe_bl)) pss_nil)
      (pss_cons (ps_setLc (own := [("_law_street", 5), ("_law_one", 6), ("_law_other", 7)]) (g := (gTup K 3 (gCons (gName 5) (gCons (gName 6) (gCons (gName 7) gNil))))) (i := 4) rfl nd rfl rfl (sw_true rfl rfl rfl (by decide +kernel)) (pi_list (pv 2)) (blkOk_by (own := [("_law_street", 5), ("_law_one", 6), ("_law_other", 7)]) (N := N_law_good) (sc := defScope s_law_good) (by decide +kernel)) (fun _ _ _ _ _ => (pg_tup rfl (pgs_cons (pg_name (i := 5) nd rfl (Or.inl rfl)) (pgs_cons (pg_name (i := 6) nd rfl (Or.inl rfl)) (pgs_cons (pg_name (i := 7) nd rfl (Or.inl rfl)) pgs_nil))))) (fun _ _ _ _ _ => pts_nil) (fun _ _ _ _ _ => (pe_tup (pa_cons (pv 5) (pa_cons (pv 7) (pa_cons (pv 6) pa_nil))))))
      (pss_one (ps_ret (pe_and (pe_cmpR op_eq (pe_callB call_len_seq rfl T.f_len PySem.boot_len (pa_cons (pe_call F_law_led (hr.mono (by decide)) rfl m_law_led k_law_led b_law_led .nil passF (pa_cons (pv 2) (pa_cons pe_int pa_nil))) pa_nil)) (pv 0) (nomark _)) (pe_one (pe_cmpR op_eq (pe_callB call_len_seq rfl T.f_len PySem.boot_len (pa_cons (pe_call F_law_led (hr.mono (by decide)) rfl m_law_led k_law_led b_law_led .nil passF (pa_cons (pv 4) (pa_cons pe_int pa_nil))) pa_nil)) (pv 0) (nomark _))))))))), ?_⟩
    refine ⟨_, rfl, lw, rfl, ⟨vw, SqL.of ew⟩, fun D1 hD1 => ?_⟩
    refine lc_it (walk_list (K := K) (xs := vw)) (fun i H' => ∃ zs, H' D1 = some (.lst zs) ∧ Tups H' zs (((ways.take i).map normR).map rowV) ∧ Same H H') ⟨[], upd_same, .nil, same_new hD1⟩ (fun _ _ _ ⟨_, _, _, z⟩ => SqL.of (z _ _ ew)) ?_ ?_
    · rintro i x H8 H9 hi ⟨zs, e1, e2, sm⟩ ⟨rfl, hx⟩
      obtain ⟨t, xs, rfl, hxs, ht⟩ := tups_get tw hx
      have lvs : vw.length = ways.length := by rw [tups_len tw, List.length_map]
      obtain ⟨r, hr0⟩ : ∃ r, ways[i]? = some r := ⟨_, List.getElem?_eq_getElem (by omega)⟩
      rw [List.getElem?_map, hr0] at hxs
      cases hxs
      have ht2 := sm _ _ ht
      have lz : zs.length ≤ i := by
        rw [tups_len e2, List.length_map, List.length_map, List.length_take]
        omega
      refine ⟨t, _, rfl, SqT.of ht2, rfl, _, _, rfl, _, _, rfl, _, _, rfl, rfl, rfl, ?_⟩
      refine ⟨_, rfl, _, rfl, _, rfl, (r.2.1 : Int), (r.2.2 : Int), rfl, _, rfl, _, rfl, (r.2.1 : Int), (r.2.2 : Int), rfl, ?_⟩
      rw [min_nat, max_nat]
      refine ⟨(by show 3 ≤ sizeLine; decide), fun q hq => ?_⟩
      have ct := same_new (o := .tup (rowV (normR r))) hq
      refine ⟨zs, ct _ _ e1, by rw [sizeLine_eq]; omega, zs ++ [V.ref q], upd_same, ?_, same_over hD1 (sm.trans ct)⟩
      rw [take_snoc hr0, List.map_append, List.map_append]
      refine tups_snoc ?_ (tups_over (ct _ _ e1) (tups_ext (fun t xs e => ct _ _ e) e2))
      rw [upd_ne (ne_of (upd_same (H := H9) (a := q) (o := .tup (rowV (normR r)))) (ct _ _ e1) (by intro z; cases z))]
      exact upd_same
    rintro H1 ⟨z1, e1, t1, sm1⟩
    have lvw : vw.length = ways.length := by rw [tups_len tw, List.length_map]
    rw [List.take_of_length_le (by omega)] at t1
    refine ⟨_, rfl, _, rfl, lr, rfl, ⟨vr, SqL.of (sm1 _ _ er)⟩, fun D2 hD2 => ?_⟩
    have er1 := sm1 _ _ er
    have tr1 : Tups H1 vr (rows.map rowV) := tups_ext (fun t xs e => sm1 _ _ e) tr
    refine lc_it (walk_list (K := K) (xs := vr)) (fun i H' => ∃ zs, H' D2 = some (.lst zs) ∧ Tups H' zs (((rows.take i).map normR).map rowV) ∧ Same H1 H') ⟨[], upd_same, .nil, same_new hD2⟩ (fun _ _ _ ⟨_, _, _, z⟩ => SqL.of (z _ _ er1)) ?_ ?_
    · rintro i x H8 H9 hi ⟨zs, e1, e2, sm⟩ ⟨rfl, hx⟩
      obtain ⟨t, xs, rfl, hxs, ht⟩ := tups_get tr1 hx
      have lvs : vr.length = rows.length := by rw [tups_len tr1, List.length_map]
      obtain ⟨r, hr0⟩ : ∃ r, rows[i]? = some r := ⟨_, List.getElem?_eq_getElem (by omega)⟩
      rw [List.getElem?_map, hr0] at hxs
      cases hxs
      have ht2 := sm _ _ ht
      have lz : zs.length ≤ i := by
        rw [tups_len e2, List.length_map, List.length_map, List.length_take]
        omega
      refine ⟨t, _, rfl, SqT.of ht2, rfl, _, _, rfl, _, _, rfl, _, _, rfl, rfl, rfl, ?_⟩
      refine ⟨_, rfl, _, rfl, _, rfl, (r.2.1 : Int), (r.2.2 : Int), rfl, _, rfl, _, rfl, (r.2.1 : Int), (r.2.2 : Int), rfl, ?_⟩
      rw [min_nat, max_nat]
      refine ⟨(by show 3 ≤ sizeLine; decide), fun q hq => ?_⟩
      have ct := same_new (o := .tup (rowV (normR r))) hq
      refine ⟨zs, ct _ _ e1, by rw [sizeLine_eq]; omega, zs ++ [V.ref q], upd_same, ?_, same_over hD2 (sm.trans ct)⟩
      rw [take_snoc hr0, List.map_append, List.map_append]
      refine tups_snoc ?_ (tups_over (ct _ _ e1) (tups_ext (fun t xs e => ct _ _ e) e2))
      rw [upd_ne (ne_of (upd_same (H := H9) (a := q) (o := .tup (rowV (normR r)))) (ct _ _ e1) (by intro z; cases z))]
      exact upd_same
    rintro H2 ⟨z2, e2, t2, sm2⟩
    have lvr : vr.length = rows.length := by rw [tups_len tr, List.length_map]
    rw [List.take_of_length_le (by omega)] at t2
    refine ⟨_, _, dp_town ⟨z1, sm2 _ _ e1, tups_ext (fun t xs e => sm2 _ _ e) t1⟩, dp_town ⟨z2, e2, t2⟩, (lay_rows _).shaped (by decide), (lay_rows _).shaped (by decide), ?_⟩
    rw [eqv_rows]
    have sm12 := sm1.trans sm2
    refine ⟨_, rfl, ?_⟩
    by_cases eq : ways.map normR = rows.map normR
    · rw [decide_eq_true eq]
      have ew2 := sm12 _ _ ew
      have tw2 : Tups H2 vw (ways.map rowV) := tups_ext (fun t xs e => sm12 _ _ e) tw
      refine ⟨_, rfl, lw, rfl, ⟨vw, SqL.of ew2⟩, fun D3 hD3 => ?_⟩
      refine lc_it (walk_list (K := K) (xs := vw)) (fun i H' => ∃ zs, H' D3 = some (.lst zs) ∧ Tups H' zs (((ways.take i).map flipR).map rowV) ∧ Same H2 H') ⟨[], upd_same, .nil, same_new hD3⟩ (fun _ _ _ ⟨_, _, _, z⟩ => SqL.of (z _ _ ew2)) ?_ ?_
      · rintro i x H8 H9 hi ⟨zs, e1, e2, sm⟩ ⟨rfl, hx⟩
        obtain ⟨t, xs, rfl, hxs, ht⟩ := tups_get tw2 hx
        have lvs : vw.length = ways.length := by rw [tups_len tw2, List.length_map]
        obtain ⟨r, hr0⟩ : ∃ r, ways[i]? = some r := ⟨_, List.getElem?_eq_getElem (by omega)⟩
        rw [List.getElem?_map, hr0] at hxs
        cases hxs
        have ht2 := sm _ _ ht
        have lz : zs.length ≤ i := by
          rw [tups_len e2, List.length_map, List.length_map, List.length_take]
          omega
        refine ⟨t, _, rfl, SqT.of ht2, rfl, _, _, rfl, _, _, rfl, _, _, rfl, rfl, rfl, ?_⟩
        refine ⟨_, rfl, _, rfl, _, rfl, (by show 3 ≤ sizeLine; decide), fun q hq => ?_⟩
        have ct := same_new (o := .tup (rowV (flipR r))) hq
        refine ⟨zs, ct _ _ e1, by rw [sizeLine_eq]; omega, zs ++ [V.ref q], upd_same, ?_, same_over hD3 (sm.trans ct)⟩
        rw [take_snoc hr0, List.map_append, List.map_append]
        refine tups_snoc ?_ (tups_over (ct _ _ e1) (tups_ext (fun t xs e => ct _ _ e) e2))
        rw [upd_ne (ne_of (upd_same (H := H9) (a := q) (o := .tup (rowV (flipR r)))) (ct _ _ e1) (by intro z; cases z))]
        exact upd_same
      rintro H3 ⟨z3, e3, t3, sm3⟩
      rw [List.take_of_length_le (by omega)] at t3
      have smA := sm12.trans sm3
      refine ⟨_, rfl, lw, 0, m, ways, rfl, ⟨vw, smA _ _ ew, tups_ext (fun t xs e => smA _ _ e) tw⟩, inm, by omega, m16, fun r1 H4 hr4 sm4 er4 => ?_⟩
      refine ⟨r1, _, rfl, .inl (SqL.of er4), _, rfl, rfl, ?_⟩
      rw [List.length_map]
      have d1 : decide (V.int ((ledOf m (ends ways) 0).length : Int) = V.int (m : Int)) = decide ((ledOf m (ends ways) 0).length = m) := decide_eq_decide.mpr ⟨fun z => Int.ofNat.inj (V.int.inj z), fun z => by rw [z]⟩
      rw [d1]
      refine ⟨_, rfl, ?_⟩
      by_cases l1 : (ledOf m (ends ways) 0).length = m
      · rw [decide_eq_true l1]
        refine ⟨_, rfl, D3, 0, m, ways.map flipR, rfl, ⟨z3, sm4 _ _ e3, tups_ext (fun t xs e => sm4 _ _ e) t3⟩, fun q hq => ?_, by omega, m16, fun r2 H5 hr5 sm5 er5 => ?_⟩
        · unfold ends at hq
          rw [List.map_map] at hq
          obtain ⟨y, hy, rfl⟩ := List.mem_map.mp hq
          have z := inm _ (List.mem_map.mpr ⟨y, hy, rfl⟩)
          exact ⟨z.2, z.1⟩
        · refine ⟨r2, _, rfl, .inl (SqL.of er5), _, rfl, rfl, ?_⟩
          rw [List.length_map]
          have d2 : decide (V.int ((ledOf m (ends (ways.map flipR)) 0).length : Int) = V.int (m : Int)) = decide ((ledOf m (ends (ways.map flipR)) 0).length = m) := decide_eq_decide.mpr ⟨fun z => Int.ofNat.inj (V.int.inj z), fun z => by rw [z]⟩
          rw [d2]
          have kk := k H5 ((smA.trans sm4).trans sm5)
          unfold goodB at kk
          rw [decide_eq_true eq, decide_eq_true l1] at kk
          exact kk
      · rw [decide_eq_false l1]
        have kk := k H4 (smA.trans sm4)
        unfold goodB at kk
        rw [decide_eq_true eq, decide_eq_false l1] at kk
        exact kk
    · rw [decide_eq_false eq]
      have kk := k H2 sm12
      unfold goodB at kk
      rw [decide_eq_false eq] at kk
      exact kk
end
end K06

set_option Elab.async false
set_option linter.all false
set_option maxRecDepth 100000
set_option maxHeartbeats 4000000
namespace K06
open PySem PySem.Spec PyProof.Rows L2 Own
/-! ### is_one_way, of anything -/
def alongB (H : Hp) (v : V) (r : TRow) : Bool := match v with
  | .ref a => match H a with
    | some (.tup xs) => decide (xs = rowV r) || decide (xs = rowV (flipR r))
    | _ => false
  | _ => false
structure StepV (H : Hp) (v : V) : Prop where
  ty : ∃ n, tyName v H = some n
  tu : ∀ a xs, v = V.ref a → H a = some (.tup xs) → xs.length ≤ 1000 ∧ ∀ y ∈ xs, ∃ n, tyName y H = some n
theorem ty_same {H H' : Hp} {v : V} {n : String} (s : Same H H') (h : tyName v H = some n) : tyName v H' = some n := by
  cases v with
  | ref p =>
    simp only [tyName] at h ⊢
    cases z : H p with
    | none => rw [z] at h; cases h
    | some o =>
      rw [z] at h
      rw [s _ _ z]
      exact h
  | _ => exact h
theorem ty_tup {H : Hp} {v : V} (h : tyName v H = some "tuple") : ∃ a xs, v = V.ref a ∧ H a = some (.tup xs) := by
  cases v with
  | ref p =>
    simp only [tyName] at h
    cases z : H p with
    | none => rw [z] at h; cases h
    | some o =>
      rw [z] at h
      cases o with
      | tup xs => exact ⟨p, xs, rfl, z⟩
      | frz ob u => cases u <;> first | (cases h; done) | exact absurd (Option.some.inj h) (by decide)
      | _ => first | (cases h; done) | exact absurd (Option.some.inj h) (by decide)
  | _ => first | (cases h; done) | exact absurd (Option.some.inj h) (by decide)
theorem StepV.same {H H' : Hp} {v : V} (h : StepV H v) (s : Same H H') : StepV H' v := by
  obtain ⟨n, hn⟩ := h.ty
  refine ⟨⟨n, ty_same s hn⟩, fun a xs e ha => ?_⟩
  subst e
  have key : H a = some (.tup xs) := by
    simp only [tyName] at hn
    cases z : H a with
    | none => rw [z] at hn; cases hn
    | some o => rw [← s _ _ z]; exact ha
  obtain ⟨h1, h2⟩ := h.tu a xs rfl key
  exact ⟨h1, fun y hy => (h2 y hy).imp fun n q => ty_same s q⟩
theorem along_same {H H' : Hp} {v : V} {r : TRow} (h : ∃ n, tyName v H = some n) (s : Same H H') : alongB H' v r = alongB H v r := by
  obtain ⟨n, hn⟩ := h
  cases v with
  | ref p =>
    simp only [tyName] at hn
    cases z : H p with
    | none => rw [z] at hn; cases hn
    | some o =>
      unfold alongB
      dsimp only
      rw [z, s _ _ z]
  | _ => rfl
theorem eqv_ints (is : List Int) (r : TRow) : PyData.eqv (.tuple (is.map PyData.int)) (rowD r) = decide (is.map V.int = rowV r) := by
  have key : ∀ a b : Int, (a == b) = decide (V.int a = V.int b) := fun a b => by
    by_cases e : a = b
    · subst e
      simp
    · rw [decide_eq_false (fun z => e (V.int.inj z)), beq_eq_false_iff_ne]
      exact e
  match is with
  | [] => simp [rowD, rowV, PyData.eqv, PyData.eqvAll]
  | [a] => simp [rowD, rowV, PyData.eqv, PyData.eqvAll]
  | [a, b] => simp [rowD, rowV, PyData.eqv, PyData.eqvAll]
  | [a, b, c] =>
    simp only [rowD, rowV, PyData.eqv, PyData.eqvAll, List.map_cons, List.map_nil]
    rw [key, key, key]
    simp
  | a :: b :: c :: d :: l => simp [rowD, rowV, PyData.eqv, PyData.eqvAll]
theorem all_ints {H : Hp} : ∀ {xs : List V}, (∀ y ∈ xs, tyName y H = some "int") → ∃ is : List Int, xs = is.map V.int
  | [], _ => ⟨[], rfl⟩
  | x :: xs, h => by
    obtain ⟨i, rfl⟩ := tyName_int (h x (List.mem_cons_self ..))
    obtain ⟨is, rfl⟩ := all_ints (H := H) (xs := xs) fun y hy => h y (List.mem_cons_of_mem _ hy)
    exact ⟨i :: is, rfl⟩
theorem tups_inj {H : Hp} : ∀ {zs : List V} {A B : List (List V)}, Tups H zs A → Tups H zs B → A = B
  | _, _, _, .nil, .nil => rfl
  | _, _, _, .cons ⟨t, e, h⟩ q, .cons ⟨t', e', h'⟩ q' => by
    rw [e] at e'
    cases e'
    rw [h] at h'
    cases h'
    rw [tups_inj q q']
theorem rowV_inj {a b : TRow} (h : rowV a = rowV b) : a = b := by
  obtain ⟨a1, a2, a3⟩ := a
  obtain ⟨b1, b2, b3⟩ := b
  simp only [rowV, List.cons.injEq, V.int.injEq, Int.natCast_inj, and_true] at h
  obtain ⟨h1, h2, h3⟩ := h
  rw [h1, h2, h3]
theorem rows_inj : ∀ {a b : List TRow}, a.map rowV = b.map rowV → a = b
  | [], [], _ => rfl
  | [], _ :: _, h => by cases h
  | _ :: _, [], h => by cases h
  | x :: a, y :: b, h => by
    rw [rowV_inj (List.cons.inj h).1, rows_inj (List.cons.inj h).2]
theorem norm_iff {a b : TRow} : normR a = normR b ↔ a = b ∨ a = flipR b := by
  constructor
  · intro h
    have e0 : (normR a).1 = (normR b).1 := by rw [h]
    have e1 : (normR a).2.1 = (normR b).2.1 := by rw [h]
    have e2 : (normR a).2.2 = (normR b).2.2 := by rw [h]
    have e0 : a.1 = b.1 := e0
    have e1 : min a.2.1 a.2.2 = min b.2.1 b.2.2 := e1
    have e2 : max a.2.1 a.2.2 = max b.2.1 b.2.2 := e2
    have c : (a.2.1 = b.2.1 ∧ a.2.2 = b.2.2) ∨ (a.2.1 = b.2.2 ∧ a.2.2 = b.2.1) := by omega
    rcases c with ⟨c1, c2⟩ | ⟨c1, c2⟩
    · exact .inl (Prod.ext e0 (Prod.ext c1 c2))
    · exact .inr (Prod.ext e0 (Prod.ext c1 c2))
  · rintro (h | h)
    · rw [h]
    · rw [h, normR_flipR]
theorem along_row {H : Hp} {t : Addr} {a r : TRow} (h : H t = some (.tup (rowV a))) : alongB H (.ref t) r = decide (normR a = normR r) := by
  unfold alongB
  dsimp only
  rw [h]
  dsimp only
  have e : ∀ q : TRow, decide (rowV a = rowV q) = decide (a = q) := fun q => decide_eq_decide.mpr ⟨rowV_inj, fun z => by rw [z]⟩
  rw [e, e]
  by_cases h1 : a = r
  · rw [decide_eq_true h1, decide_eq_true (norm_iff.mpr (.inl h1)), Bool.true_or]
  · by_cases h2 : a = flipR r
    · rw [decide_eq_true h2, decide_eq_true (norm_iff.mpr (.inr h2)), Bool.or_true]
    · rw [decide_eq_false h1, decide_eq_false h2, decide_eq_false (fun z => (norm_iff.mp z).elim h1 h2)]
      rfl
/-- all along: rows, as the streets -/
theorem along_all {H : Hp} : ∀ {zs : List V} {rows : List TRow}, zs.length = rows.length → ((zs.zip rows).map fun q => alongB H q.1 q.2).all id = true → ∃ ws : List TRow, Tups H zs (ws.map rowV) ∧ ws.map normR = rows.map normR
  | [], [], _, _ => ⟨[], .nil, rfl⟩
  | [], _ :: _, h, _ => by cases h
  | _ :: _, [], h, _ => by cases h
  | z :: zs, r :: rows, hl, ha => by
    have ha : (alongB H z r && ((zs.zip rows).map fun q => alongB H q.1 q.2).all id) = true := ha
    rw [Bool.and_eq_true] at ha
    obtain ⟨ws, h1, h2⟩ := along_all (Nat.succ.inj hl) ha.2
    have hz := ha.1
    have key : ∃ (t : Addr) (xs : List V), z = V.ref t ∧ H t = some (.tup xs) ∧ (decide (xs = rowV r) || decide (xs = rowV (flipR r))) = true := by
      cases z with
      | ref t =>
        unfold alongB at hz
        dsimp only at hz
        cases y : H t with
        | none =>
          rw [y] at hz
          cases hz
        | some o =>
          rw [y] at hz
          cases o with
          | tup xs => exact ⟨t, xs, rfl, y, hz⟩
          | _ => cases hz
      | _ => cases hz
    obtain ⟨t, xs, rfl, ht, hx⟩ := key
    rw [Bool.or_eq_true] at hx
    rcases hx with e | e
    · have e := of_decide_eq_true e
      exact ⟨r :: ws, .cons ⟨t, rfl, by rw [ht, e]⟩ h1, by rw [List.map_cons, List.map_cons, h2]⟩
    · have e := of_decide_eq_true e
      exact ⟨flipR r :: ws, .cons ⟨t, rfl, by rw [ht, e]⟩ h1, by rw [List.map_cons, List.map_cons, h2, normR_flipR]⟩
theorem all_along {H : Hp} : ∀ {zs : List V} {rows ws : List TRow}, Tups H zs (ws.map rowV) → ws.map normR = rows.map normR → ((zs.zip rows).map fun q => alongB H q.1 q.2).all id = true
  | _, [], [], .nil, _ => rfl
  | _, [], _ :: _, _, h => by cases h
  | _, _ :: _, [], _, h => by cases h
  | _, r :: rows, a :: ws, .cons ⟨t, e, ht⟩ q, h => by
    have h1 := (List.cons.inj h).1
    have ih := all_along q (List.cons.inj h).2
    subst e
    show (alongB H (.ref t) r && _) = true
    rw [along_row ht, decide_eq_true h1]
    exact ih
theorem walks_full {steps : List TRow} {p m : Nat} (inm : ∀ q ∈ ends steps, q.1 < m ∧ q.2 < m) (hp : p < m) (m16 : m ≤ 16) : (walksF steps p).length = m ↔ ∀ q, q < m → Led (ends steps) p q := by
  obtain ⟨T, S⟩ := walks_spec inm hp m16
  have lk : (wk (walksF steps p)).length = (walksF steps p).length := by
    unfold wk
    rw [List.length_map]
  have nd := tree_nd T
  constructor
  · intro h q hq
    refine Classical.byContradiction fun no => ?_
    have nin : q ∉ wk (walksF steps p) := fun z => no ((S q).mp z).2
    have z := nodup_le (m := m) (List.nodup_cons.mpr ⟨nin, nd⟩) fun x hx => by
      rcases List.mem_cons.mp hx with y | y
      · rw [y]
        exact hq
      · exact ((S x).mp y).1
    rw [List.length_cons, lk] at z
    omega
  · intro h
    have z := sub_len (xs := List.range m) (ys := wk (walksF steps p)) List.nodup_range fun x hx => (S x).mpr ⟨List.mem_range.mp hx, h x (List.mem_range.mp hx)⟩
    rw [List.length_range, lk] at z
    have := walks_len inm hp m16
    omega
theorem good_all {m : Nat} {rows ws : List TRow} (m1 : 1 ≤ m) (e : ws.map normR = rows.map normR) : goodB m rows ws = true ↔ ∀ p, p < m → ∀ q, q < m → Led (ends ws) p q := by
  constructor
  · intro h p hp q hq
    exact back_of h hp hq
  · intro h
    have h2 : ∀ q, q < m → Led (ends (ws.map flipR)) 0 q := fun q hq => by
      rw [ends_flip]
      exact led_swap (h q hq 0 (by omega))
    unfold goodB
    rw [decide_eq_true e, decide_eq_true (led_all.mpr (h 0 (by omega))), decide_eq_true (led_all.mpr h2)]
    rfl
def spAlong : Sp := fun vs H Q _ => ∃ (v : V) (t : Addr) (r : TRow), vs = [v, .ref t] ∧ H t = some (.tup (rowV r)) ∧ StepV H v ∧ ∀ H', Same H H' → Q (.bl (alongB H v r)) H'
structure TxtIO (mg : Str → Option Value) : Prop where
  f_type : mg "type" = none
  f_tuple : mg "tuple" = none
  f_list : mg "list" = none
  f_int : mg "int" = none
  f_all : mg "all" = none
  f_len : mg "len" = none
  f_zip : mg "zip" = none
  f_range : mg "range" = none
abbrev s_is_step_along : Stmt := top 10
abbrev N_is_step_along : List Str := ["thing", "row", "street", "one", "other", "number"]
theorem sc_is_step_along : FnScope N_is_step_along ["thing", "row"] (defScope s_is_step_along) := ⟨rfl, rfl, rfl, by decide +kernel, rfl, by decide +kernel, by decide +kernel⟩
abbrev s_is_one_way : Stmt := top 11
abbrev N_is_one_way : List Str := ["town", "thing", "streets", "many", "step", "row", "place"]
theorem sc_is_one_way : FnScope N_is_one_way ["town", "thing"] (defScope s_is_one_way) := ⟨rfl, rfl, rfl, by decide +kernel, rfl, by decide +kernel, by decide +kernel⟩
section
variable {P : Program} {w : World} {K : PySem.W.Frag} {mg : Str → Option Value} {base : Heap} {f : Addr} {fd : FuncData}
theorem ok_along (T : TxtIO mg) (D : FnP K "_is_step_along" "_is_step_along" s_is_step_along f fd) : FnOk P w K mg base (L2.CX P w) 1 f fd ["thing", "row"] spAlong := by
  have nd := sc_is_step_along.nd
  refine D.ok sc_is_step_along (fun vs H Q E h => ?_) (fun cdv A outer s H vs Q E hr h => ?_)
  · obtain ⟨v, t, r, rfl, _⟩ := h
    rfl
  · obtain ⟨v, t, r, rfl, ht, SV, k⟩ := h
    obtain ⟨n, hn⟩ := SV.ty
    refine ⟨_, (pss_cons (ps_if (PW.pt (pw_or (pt_cmpR op_neTy (pe_callTy call_tyOf rfl T.f_type (by decide +kernel) (pa_cons (pv 0) pa_nil)) (pe_bltn (v := .ty "tuple") (u := .type "tuple") rfl T.f_tuple (by decide +kernel) rfl) (nomark _)) (pw_or1 (pt_not (pt_val (pe_callB (cr_all rfl) rfl T.f_all (by decide +kernel) (pa_cons (pe_lc (own := [("number", 5)]) (g := (gName 5)) rfl nd (pi_tup (pv 0)) (blkOk_by (own := [("number", 5)]) (N := N_is_step_along) (sc := defScope s_is_step_along) (by decide +kernel)) (fun _ _ _ _ _ => (pg_name (i := 5) nd rfl (Or.inl rfl))) (fun _ _ _ _ _ => pts_nil) (fun _ _ _ _ _ => (pe_cmpR op_eqTy (pe_callTy call_tyOf rfl T.f_type (by decide +kernel) (pa_cons (pv 5) pa_nil)) (pe_bltn (v := .ty "int") (u := .type "int") rfl T.f_int (by decide +kernel) rfl) (nomark _)))) pa_nil))))))) (pss_one (ps_ret pe_bl)) pss_nil)
      (pss_cons (ps_asg (pv 1) (pg_tup rfl (pgs_cons (pg_name (i := 2) nd rfl (Or.inl rfl)) (pgs_cons (pg_name (i := 3) nd rfl (Or.inl rfl)) (pgs_cons (pg_name (i := 4) nd rfl (Or.inl rfl)) pgs_nil)))))
      (pss_one (ps_ret (pe_or (pe_cmpR (op_eqD hr.units) (pv 0) (pe_tup (pa_cons (pv 2) (pa_cons (pv 3) (pa_cons (pv 4) pa_nil)))) (nomark _)) (pe_one (pe_cmpR (op_eqD hr.units) (pv 0) (pe_tup (pa_cons (pv 2) (pa_cons (pv 4) (pa_cons (pv 3) pa_nil)))) (nomark _)))))))), ?_⟩
    refine ⟨_, rfl, v, n, rfl, hn, n, "tuple", rfl, rfl, tyName_meta hn, meta_all.2.2.2.2.2.1, _, rfl, ?_⟩
    refine if_both (fun e => ?_) (fun e => ?_)
    · have ne := of_decide_eq_true e
      have z : alongB H v r = false := by
        unfold alongB
        cases v with
        | ref a =>
          dsimp only
          cases y : H a with
          | none => rfl
          | some o =>
            cases o with
            | tup xs =>
              simp only [tyName] at hn
              rw [y] at hn
              exact absurd (Option.some.inj hn).symm ne
            | _ => rfl
        | _ => rfl
      rw [← z]
      exact k H (Same.refl H)
    · have en : n = "tuple" := Classical.byContradiction fun z => by
        rw [decide_eq_true z] at e
        cases e
      subst en
      obtain ⟨a, xs, rfl, ha⟩ := ty_tup hn
      obtain ⟨few, tys⟩ := SV.tu a xs rfl ha
      refine ⟨_, rfl, a, rfl, ⟨xs, SqT.of ha⟩, fun D0 hD0 => ?_⟩
      refine lc_it (walk_tup (K := K) (xs := xs)) (fun i H' => H' D0 = some (.lst (((xs.take i).map fun y => decide (tyName y H = some "int")).map V.bl)) ∧ Same H H') ⟨upd_same, same_new hD0⟩ (fun _ _ _ ⟨_, z⟩ => SqT.of (z _ _ ha)) ?_ ?_
      · rintro i x H1 H2 hi ⟨e1, sm⟩ ⟨rfl, hx⟩
        obtain ⟨ny, hy⟩ := tys x (List.mem_of_getElem? hx)
        refine ⟨rfl, _, rfl, x, ny, rfl, ty_same sm hy, ny, "int", rfl, rfl, tyName_meta hy, meta_all.2.2.1, _, e1, by rw [List.length_map, List.length_map, List.length_take, sizeLine_eq]; omega, ?_, same_over hD0 sm⟩
        rw [upd_same, take_snoc hx, List.map_append, List.map_append]
        have z : decide (ny = "int") = decide (tyName x H = some "int") := decide_eq_decide.mpr ⟨fun y => by rw [hy, y], fun y => by rw [hy] at y; exact Option.some.inj y⟩
        rw [z]
        rfl
      · rintro H1 ⟨e1, sm⟩
        rw [List.take_length] at e1
        refine ⟨D0, xs.map fun y => decide (tyName y H = some "int"), rfl, SqL.of e1, _, rfl, ?_⟩
        cases al : (xs.map fun y => decide (tyName y H = some "int")).all id with
        | false =>
          have z : alongB H (.ref a) r = false := by
            unfold alongB
            dsimp only
            rw [ha]
            dsimp only
            rw [Bool.or_eq_false_iff]
            have no : ∀ q : TRow, xs ≠ rowV q := fun q y => by
              rw [y] at al
              revert al
              simp [rowV, tyName]
            exact ⟨decide_eq_false (no r), decide_eq_false (no _)⟩
          have kk := k H1 sm
          rw [z] at kk
          exact kk
        | true =>
          have al' : ∀ y ∈ xs, tyName y H = some "int" := fun y hy => by
            rw [List.all_map, List.all_eq_true] at al
            exact of_decide_eq_true (al y hy)
          obtain ⟨is, rfl⟩ := all_ints al'
          have ht1 := sm _ _ ht
          have ha1 := sm _ _ ha
          refine ⟨_, rfl, t, _, rfl, SqT.of ht1, rfl, _, _, rfl, _, _, rfl, _, _, rfl, rfl, ?_⟩
          have z0 : alongB H (.ref a) r = (decide (is.map V.int = rowV r) || decide (is.map V.int = rowV (flipR r))) := by
            unfold alongB
            dsimp only
            rw [ha]
          have dI : ∀ H2, Same H1 H2 → Dp K H2 (.ref a) (.tuple (is.map PyData.int)) := fun H2 s2 => .tup (SqT.of (s2 _ _ ha1)) (dp_ints is)
          have lI : Lay 1 (.tuple (is.map PyData.int)) := lay_tup fun d hd => by
            obtain ⟨i, _, rfl⟩ := List.mem_map.mp hd
            exact lay_int i
          have dR : ∀ (H2 : Hp) (q : Addr) (r' : TRow), H2 q = some (.tup (rowV r')) → Dp K H2 (.ref q) (rowD r') := fun H2 q r' e => .tup (SqT.of e) (.cons (.int _) (.cons (.int _) (.cons (.int _) .nil)))
          refine ⟨_, rfl, _, rfl, _, rfl, _, rfl, (by show 3 ≤ sizeLine; decide), fun q hq => ?_⟩
          have c1 := same_new (o := .tup (rowV r)) hq
          refine ⟨_, _, dI _ c1, dR _ q r upd_same, lI.shaped (by decide), (lay_row r).shaped (by decide), ?_⟩
          rw [eqv_ints]
          refine ⟨_, rfl, ?_⟩
          cases e5 : decide (is.map V.int = rowV r) with
          | true =>
            rw [e5, Bool.true_or] at z0
            have kk := k _ (sm.trans c1)
            rw [z0] at kk
            exact kk
          | false =>
            rw [e5, Bool.false_or] at z0
            refine ⟨_, rfl, _, rfl, _, rfl, _, rfl, (by show 3 ≤ sizeLine; decide), fun q2 hq2 => ?_⟩
            have c2 := same_new (o := .tup (rowV (flipR r))) hq2
            refine ⟨_, _, dI _ (c1.trans c2), dR _ q2 (flipR r) upd_same, lI.shaped (by decide), (lay_row (flipR r)).shaped (by decide), ?_⟩
            rw [eqv_ints, ← z0]
            exact k _ (sm.trans ((same_new hq).trans (same_new hq2)))
/-- is_one_way, of anything: true of good ways -/
def spIsAny (C : Addr) : Sp := fun vs H Q _ => ∃ (p d : Addr) (m : Nat) (rows : List TRow) (n : Nat) (x : V), vs = [.ref p, x] ∧ TownAt C H p d m rows n ∧ (∃ n, tyName x H = some n ∧ (n = "list" → ∃ l zs, x = V.ref l ∧ H l = some (.lst zs))) ∧ (∀ l zs, x = V.ref l → H l = some (.lst zs) → ∀ v ∈ zs, StepV H v) ∧
  ∀ b : Bool, (∀ l ws, x = V.ref l → TL H l (ws.map rowV) → b = goodB m rows ws) → ((¬ ∃ l ws, x = V.ref l ∧ TL H l (List.map rowV ws)) → b = false) → ∀ H', Same H H' → Q (.bl b) H'
theorem ok_is_one_way (T : TxtIO mg) (D : FnP K "is_one_way" "is_one_way" s_is_one_way f fd) (c_is_step_along : CalX P w K mg base 1 "_is_step_along" spAlong) (c_walks_from : CalX P w K mg base 1 "walks_from" spWalks) (c_Town_places : MetX P w K mg base 1 (gA K "Town") "places" (spPlaces (gA K "Town"))) (c_Town_streets : MetX P w K mg base 1 (gA K "Town") "streets" (spStreets (gA K "Town"))) :
    FnOk P w K mg base (L2.CX P w) 2 f fd ["town", "thing"] (spIsAny (gA K "Town")) := by
  have nd := sc_is_one_way.nd
  refine D.ok sc_is_one_way (fun vs H Q E h => ?_) (fun cdv A outer s H vs Q E hr h => ?_)
  · obtain ⟨p, d, m, rows, n, x, rfl, _⟩ := h
    rfl
  · obtain ⟨p, d, m, rows, n, x, rfl, W, ⟨nx, hx, hl⟩, SV, k⟩ := h
    obtain ⟨f_is_step_along, fd_is_step_along, ps_is_step_along, F_is_step_along, m_is_step_along, k_is_step_along, b_is_step_along⟩ := c_is_step_along.ex
    obtain ⟨f_walks_from, fd_walks_from, ps_walks_from, F_walks_from, m_walks_from, k_walks_from, b_walks_from⟩ := c_walks_from.ex
    obtain ⟨f_Town_places, fd_Town_places, ps_Town_places, c_Town_places, M_Town_places, F_Town_places, b_Town_places⟩ := c_Town_places.ex
    obtain ⟨f_Town_streets, fd_Town_streets, ps_Town_streets, c_Town_streets, M_Town_streets, F_Town_streets, b_Town_streets⟩ := c_Town_streets.ex
    refine ⟨_, (pss_cons (ps_set (i := 2) nd rfl (Or.inl rfl) (pe_meth0 (pv 0) c_Town_streets M_Town_streets F_Town_streets (hr.mono (by decide)) b_Town_streets .nil passF))
      (pss_cons (ps_if (PW.pt (pw_or (pt_cmpR op_neTy (pe_callTy call_tyOf rfl T.f_type (by decide +kernel) (pa_cons (pv 1) pa_nil)) (pe_bltn (v := .ty "list") (u := .type "list") rfl T.f_list (by decide +kernel) rfl) (nomark _)) (pw_or1 (pt_cmpR op_ne (pe_callB call_len_seq rfl T.f_len PySem.boot_len (pa_cons (pv 1) pa_nil)) (pe_callB call_len_seq rfl T.f_len PySem.boot_len (pa_cons (pv 2) pa_nil)) (nomark _))))) (pss_one (ps_ret pe_bl)) pss_nil)
      (pss_cons (ps_if (pt_not (pt_val (pe_callB (cr_all rfl) rfl T.f_all (by decide +kernel) (pa_cons (pe_lc (own := [("step", 4), ("row", 5)]) (g := (gTup K 2 (gCons (gName 4) (gCons (gName 5) gNil)))) rfl nd (pi_zip rfl T.f_zip (pa_cons (pv 1) (pa_cons (pv 2) pa_nil))) (blkOk_by (own := [("step", 4), ("row", 5)]) (N := N_is_one_way) (sc := defScope s_is_one_way) (by decide +kernel)) (fun _ _ _ _ _ => (pg_tup rfl (pgs_cons (pg_name (i := 4) nd rfl (Or.inl rfl)) (pgs_cons (pg_name (i := 5) nd rfl (Or.inl rfl)) pgs_nil)))) (fun _ _ _ _ _ => pts_nil) (fun _ _ _ _ _ => (pe_call F_is_step_along (hr.mono (by decide)) rfl m_is_step_along k_is_step_along b_is_step_along .nil passF (pa_cons (pv 4) (pa_cons (pv 5) pa_nil))))) pa_nil)))) (pss_one (ps_ret pe_bl)) pss_nil)
      (pss_cons (ps_set (i := 3) nd rfl (Or.inr rfl) (pe_meth0 (pv 0) c_Town_places M_Town_places F_Town_places (hr.mono (by decide)) b_Town_places .nil passF))
      (pss_one (ps_ret (pe_callB (cr_all rfl) rfl T.f_all (by decide +kernel) (pa_cons (pe_lc (own := [("place", 6)]) (g := (gName 6)) rfl nd (pi_range1 rfl T.f_range (pa_cons (pv 3) pa_nil)) (blkOk_by (own := [("place", 6)]) (N := N_is_one_way) (sc := defScope s_is_one_way) (by decide +kernel)) (fun _ _ _ _ _ => (pg_name (i := 6) nd rfl (Or.inl rfl))) (fun _ _ _ _ _ => pts_nil) (fun _ _ _ _ _ => (pe_cmpR op_eq (pe_callB call_lenD rfl T.f_len PySem.boot_len (pa_cons (pe_call F_walks_from (hr.mono (by decide)) rfl m_walks_from k_walks_from b_walks_from .nil passF (pa_cons (pv 1) (pa_cons (pv 6) pa_nil))) pa_nil)) (pv 3) (nomark _)))) pa_nil)))))))), ?_⟩
    obtain ⟨dx, hp⟩ := W.ob
    refine ⟨_, rfl, p, dx, _, rfl, hp, tF_no _ _ _ (by decide +kernel) (by decide +kernel) (by decide +kernel), p, d, m, rows, n, rfl, W, fun sl H1 hsl sm1 tl => ?_⟩
    dsimp only [gName]
    refine nice (σ' := [some (.ref p), some x, some (.ref sl), none, none, none, none]) rfl ?_
    have hx1 := ty_same sm1 hx
    refine at_seq ?_
    refine ⟨_, rfl, x, nx, rfl, hx1, nx, "list", rfl, rfl, tyName_meta hx1, meta_all.2.2.2.2.1, _, rfl, ?_⟩
    refine if_both (fun e => ?_) (fun e => ?_)
    · have ne := of_decide_eq_true e
      refine k false (fun l ws e1 e2 => ?_) (fun _ => rfl) H1 sm1
      obtain ⟨vs, ev, _⟩ := e2
      rw [e1] at hx
      simp only [tyName] at hx
      rw [ev] at hx
      exact absurd (Option.some.inj hx).symm ne
    · have en : nx = "list" := Classical.byContradiction fun z => by
        rw [decide_eq_true z] at e
        cases e
      obtain ⟨l, zs, rfl, el⟩ := hl en
      have SV := SV l zs rfl el
      obtain ⟨vr, er, tr⟩ := id tl
      have lvr : vr.length = rows.length := by rw [tups_len tr, List.length_map]
      have el1 := sm1 _ _ el
      refine ⟨_, rfl, l, zs, rfl, .inl (SqL.of el1), _, rfl, sl, vr, rfl, .inl (SqL.of er), rfl, _, rfl, ?_⟩
      have dq : (!decide (V.int (zs.length : Int) = V.int (vr.length : Int))) = decide (zs.length ≠ rows.length) := by
        rw [lvr, ← decide_not]
        exact decide_eq_decide.mpr ⟨fun z y => z (by rw [y]), fun z y => z (Int.ofNat.inj (V.int.inj y))⟩
      rw [dq]
      refine if_both (fun c => ?_) (fun c => ?_)
      · have c := of_decide_eq_true c
        refine k false (fun l' ws e1 e2 => ?_) (fun _ => rfl) H1 sm1
        cases e1
        obtain ⟨v', ev, tv⟩ := e2
        rw [el] at ev
        cases ev
        have lw : zs.length = ws.length := by rw [tups_len tv, List.length_map]
        cases g : goodB m rows ws with
        | false => rfl
        | true =>
          have := good_len g
          omega
      · have lz : zs.length = rows.length := Classical.byContradiction fun z => by
          rw [decide_eq_true z] at c
          cases c
        have few := W.ok.few
        refine at_next ?_
        dsimp only
        refine at_seq ?_
        refine ⟨_, rfl, _, rfl, l, sl, zs, vr, rfl, SqL.of el1, SqL.of er, fun D0 hD0 => ?_⟩
        have lB : ((zs.zip rows).map fun q => alongB H q.1 q.2).length = rows.length := by
          rw [List.length_map, List.length_zip]
          omega
        refine lc_it (walk_zip (K := K) (n := rows.length) (by omega)) (fun i H' => H' D0 = some (.lst ((((zs.zip rows).map fun q => alongB H q.1 q.2).take i).map V.bl)) ∧ Same H1 H') ⟨upd_same, same_new hD0⟩ (fun _ _ _ ⟨_, z⟩ => ⟨SqL.of (z _ _ el1), SqL.of (z _ _ er)⟩) ?_ ?_
        · rintro i x H2 H3 hi ⟨e1, sm⟩ ⟨T0, v, y, rfl, hT, rfl, hv, hy⟩
          obtain ⟨t, xs, rfl, hxs, ht⟩ := tups_get tr hy
          obtain ⟨r, hr0⟩ : ∃ r, rows[i]? = some r := ⟨_, List.getElem?_eq_getElem hi⟩
          rw [List.getElem?_map, hr0] at hxs
          cases hxs
          have cT := same_new (o := .tup [v, .ref t]) hT
          have sv := SV v (List.mem_of_getElem? hv)
          have hB : ((zs.zip rows).map fun q => alongB H q.1 q.2)[i]? = some (alongB H v r) := by
            rw [List.getElem?_map, (List.getElem?_zip_eq_some (z := (v, r))).mpr ⟨hv, hr0⟩]
            rfl
          refine ⟨T0, _, rfl, SqT.of upd_same, rfl, _, _, rfl, _, _, rfl, rfl, rfl, ?_⟩
          refine ⟨_, rfl, _, rfl, v, t, r, rfl, cT _ _ (sm _ _ ht), (sv.same sm1).same (sm.trans cT), fun H4 sm4 => ?_⟩
          rw [along_same (sv.same sm1).ty (sm.trans cT), along_same sv.ty sm1]
          have smE := cT.trans sm4
          refine ⟨_, smE _ _ e1, by rw [List.length_map, List.length_take, sizeLine_eq]; omega, ?_, same_over hD0 (sm.trans smE)⟩
          rw [upd_same, take_snoc hB, List.map_append]
          rfl
        · rintro H2 ⟨e1, sm⟩
          rw [List.take_of_length_le (by omega)] at e1
          have smX := sm1.trans sm
          refine ⟨D0, _, rfl, SqL.of e1, _, rfl, ?_⟩
          cases al : ((zs.zip rows).map fun q => alongB H q.1 q.2).all id with
          | false =>
            refine k false (fun l' ws e1 e2 => ?_) (fun _ => rfl) H2 smX
            cases e1
            obtain ⟨v', ev, tv⟩ := e2
            rw [el] at ev
            cases ev
            cases g : goodB m rows ws with
            | false => rfl
            | true =>
              unfold goodB at g
              rw [Bool.and_eq_true] at g
              rw [all_along tv (of_decide_eq_true g.1)] at al
              cases al
          | true =>
            obtain ⟨ws, tw, ew⟩ := along_all lz al
            have W2 := W.same smX
            obtain ⟨dx2, hp2⟩ := W2.ob
            have inr := town_inm W
            have inw : ∀ q ∈ ends ws, q.1 < m ∧ q.2 < m := fun q hq => by
              obtain ⟨x, hx, rfl⟩ := List.mem_map.mp hq
              have mem : normR x ∈ rows.map normR := ew ▸ List.mem_map.mpr ⟨x, hx, rfl⟩
              obtain ⟨y, hy, e⟩ := List.mem_map.mp mem
              have b := inr _ (List.mem_map.mpr ⟨y, hy, rfl⟩)
              rcases norm_iff.mp e.symm with z | z
              · rw [z]
                exact b
              · rw [z]
                exact ⟨b.2, b.1⟩
            have lw : zs.length = ws.length := by rw [tups_len tw, List.length_map]
            refine ⟨_, rfl, p, dx2, _, rfl, hp2, tF_no _ _ _ (by decide +kernel) (by decide +kernel) (by decide +kernel), p, d, m, rows, n, rfl, W2, ?_⟩
            dsimp only [gName]
            refine nice (σ' := [some (.ref p), some (.ref l), some (.ref sl), some (.int (m : Int)), none, none, none]) rfl ?_
            have m16 := W.pm.2
            refine at_ret (at_cb (at_cons ?_))
            have bl5 : ∀ i, ((List.range m).map fun p => decide ((walksF ws p).length = m)).take i = ((List.range m).take i).map fun p => decide ((walksF ws p).length = m) := fun i => by rw [List.map_take]
            have tl2 : TL H2 l (ws.map rowV) := ⟨zs, smX _ _ el, tups_ext (fun t xs e => smX _ _ e) tw⟩
            refine ⟨_, rfl, (m : Int), rfl, by omega, by omega, fun D5 hD5 => ?_⟩
            refine lc_it walk_range (fun i H' => H' D5 = some (.lst ((((List.range m).take i).map fun p => decide ((walksF ws p).length = m)).map V.bl)) ∧ Same H2 H') ⟨upd_same, same_new hD5⟩ (fun _ _ _ _ => trivial) ?_ ?_
            · rintro i x H3 H4 hi ⟨e3, sm3⟩ ⟨rfl, ex⟩
              dsimp only at ex
              rw [Int.zero_add] at ex
              subst ex
              have im : i < m := by omega
              refine ⟨rfl, _, rfl, _, rfl, l, i, m, ws, rfl, tl_same tl2 sm3, inw, im, W.pm.2, fun dw kvs H5 hdw sm5 ed we => ⟨dw, kvs, rfl, ed, _, rfl, rfl, ?_⟩⟩
              have lk := wents_len we
              have dq2 : decide (V.int (kvs.length : Int) = V.int (m : Int)) = decide ((walksF ws i).length = m) := by
                rw [lk]
                exact decide_eq_decide.mpr ⟨fun z => Int.ofNat.inj (V.int.inj z), fun z => by rw [z]⟩
              rw [dq2]
              have rg : (List.range m)[i]? = some i := List.getElem?_range im
              refine ⟨_, sm5 _ _ e3, by rw [List.length_map, List.length_map, List.length_take, List.length_range, sizeLine_eq]; omega, ?_, same_over hD5 (sm3.trans sm5)⟩
              rw [upd_same, take_snoc rg, List.map_append, List.map_append]
              rfl
            · rintro H3 ⟨e3, sm3⟩
              have em : ((m : Int) - 0).toNat = m := by omega
              have lt : (List.range m).take m = List.range m := List.take_of_length_le (by rw [List.length_range]; exact Nat.le_refl _)
              refine ⟨D5, (List.range m).map fun p => decide ((walksF ws p).length = m), rfl, SqL.of (by rw [← lt]; exact e3), ?_⟩
              refine k _ (fun l' ws' e1 e2 => ?_) (fun no => (no ⟨l, ws, rfl, ⟨zs, el, tw⟩⟩).elim) H3 (smX.trans sm3)
              cases e1
              obtain ⟨v', ev, tv⟩ := e2
              rw [el] at ev
              cases ev
              have ee : ws' = ws := rows_inj (tups_inj tv tw)
              subst ee
              rw [Bool.eq_iff_iff, good_all W.pm.1 ew, List.all_map, List.all_eq_true]
              constructor
              · intro h p' hp' q hq
                exact (walks_full inw hp' W.pm.2).mp (of_decide_eq_true (h p' (List.mem_range.mpr hp'))) q hq
              · intro h p' hp'
                have hp' := List.mem_range.mp hp'
                exact decide_eq_true ((walks_full inw hp' W.pm.2).mpr (h p' hp'))
end
/-- is_one_way of a list of steps -/
def spIsOneWay (C : Addr) : Sp := fun vs H Q _ => ∃ (p d l : Addr) (m : Nat) (rows ws : List TRow) (n : Nat), vs = [.ref p, .ref l] ∧ TownAt C H p d m rows n ∧ TL H l (ws.map rowV) ∧ ws.length ≤ 60 ∧ ∀ H', Same H H' → Q (.bl (goodB m rows ws)) H'
theorem FnOk.weak {P : Program} {w : World} {K : PySem.W.Frag} {mg : Str → Option Value} {base : Heap} {CX : CXT} {k : Nat} {f : Addr} {fd : FuncData} {ps : List Str} {sp sp' : Sp} (F : FnOk P w K mg base CX k f fd ps sp) (imp : ∀ vs H Q E, sp' vs H Q E → sp vs H Q E) : FnOk P w K mg base CX k f fd ps sp' :=
  ⟨fun vs H Q E h => F.len vs H Q E (imp _ _ _ _ h), fun A outer s H args us vs Q E hr e0 hb hv h => F.run A outer s H args us vs Q E hr e0 hb hv (imp _ _ _ _ h)⟩
theorem is_any_rows {C : Addr} : ∀ vs H Q E, spIsOneWay C vs H Q E → spIsAny C vs H Q E := by
  rintro vs H Q E ⟨p, d, l, m, rows, ws, n, rfl, W, ⟨zs, ez, tz⟩, few, k⟩
  refine ⟨p, d, m, rows, n, .ref l, rfl, W, ⟨"list", by simp only [tyName]; rw [ez], fun _ => ⟨l, zs, rfl, ez⟩⟩, fun l' zs' e1 e2 v hv => ?_, fun b h1 _ H' sm => ?_⟩
  · cases e1
    rw [ez] at e2
    cases e2
    obtain ⟨i, hi⟩ := List.getElem?_of_mem hv
    obtain ⟨t, xs, rfl, hxs, ht⟩ := tups_get tz hi
    refine ⟨⟨"tuple", by simp only [tyName]; rw [ht]⟩, fun a xs' ea ha => ?_⟩
    cases ea
    rw [ht] at ha
    cases ha
    rw [List.getElem?_map] at hxs
    cases hr : ws[i]? with
    | none =>
      rw [hr] at hxs
      cases hxs
    | some r =>
      rw [hr] at hxs
      cases hxs
      refine ⟨by show 3 ≤ 1000; decide, fun y hy => ⟨"int", ?_⟩⟩
      simp only [rowV, List.mem_cons, List.not_mem_nil, or_false] at hy
      rcases hy with z | z | z <;> rw [z] <;> rfl
  · rw [h1 l ws rfl ⟨zs, ez, tz⟩]
    exact k H' sm
end K06

set_option Elab.async false
set_option linter.all false
set_option maxRecDepth 100000
set_option maxHeartbeats 4000000
namespace K06
open PySem PySem.Spec PyProof.Rows L2 Own
/-! ### what are no good ways -/
def BadL (H : Hp) (rows : List TRow) (l : Addr) : Prop := ∃ zs, H l = some (.lst zs) ∧ (∀ v ∈ zs, StepV H v) ∧ ∀ ws : List TRow, Tups H zs (ws.map rowV) → ws.map normR ≠ rows.map normR
/-- not a step along the street r -/
structure NotStep (H : Hp) (r : TRow) (v : V) : Prop where
  sv : StepV H v
  no : ∀ (t : Addr) (q : TRow), v = V.ref t → H t = some (.tup (rowV q)) → normR q ≠ normR r
theorem NotStep.same {H H' : Hp} {r : TRow} {v : V} (h : NotStep H r v) (s : Same H H') : NotStep H' r v := by
  refine ⟨h.sv.same s, fun t q e ht => h.no t q e ?_⟩
  obtain ⟨n, hn⟩ := h.sv.ty
  subst e
  simp only [tyName] at hn
  cases z : H t with
  | none => rw [z] at hn; cases hn
  | some o => rw [← s _ _ z]; exact ht
theorem grow {H H' : Hp} {r : TRow} {xs : List V} {v : V} (h : ∀ x ∈ xs, NotStep H r x) (s : Same H H') (n : NotStep H' r v) : ∀ x ∈ xs ++ [v], NotStep H' r x := fun x hx => by
  rcases List.mem_append.mp hx with z | z
  · exact (h x z).same s
  · rw [List.mem_singleton.mp z]
    exact n
theorem NotStep.over {H : Hp} {r : TRow} {v : V} {l : Addr} {xs ys : List V} (hl : H l = some (.lst xs)) (h : NotStep H r v) : NotStep (upd H l (.lst ys)) r v := by
  have ty : ∀ {u : V}, (∃ n, tyName u H = some n) → ∃ n, tyName u (upd H l (.lst ys)) = some n := fun {u} ⟨n, hn⟩ => by
    cases u with
    | ref p =>
      by_cases e : p = l
      · exact ⟨"list", by simp only [tyName]; rw [e, upd_same]⟩
      · exact ⟨n, by simp only [tyName] at hn ⊢; rw [upd_ne e]; exact hn⟩
    | _ => exact ⟨n, hn⟩
  have old : ∀ {t : Addr} {zs : List V}, upd H l (.lst ys) t = some (.tup zs) → H t = some (.tup zs) := fun {t zs} e => by
    by_cases z : t = l
    · rw [z, upd_same] at e
      cases e
    · rw [upd_ne z] at e
      exact e
  refine ⟨⟨ty h.sv.ty, fun a xs e ha => ?_⟩, fun t q e ht => h.no t q e (old ht)⟩
  obtain ⟨h1, h2⟩ := h.sv.tu a xs e (old ha)
  exact ⟨h1, fun y hy => ty (h2 y hy)⟩
theorem not_tup {H : Hp} {r : TRow} {t : Addr} {xs : List V} (ht : H t = some (.tup xs)) (l : xs.length ≤ 1000) (ty : ∀ y ∈ xs, ∃ n, tyName y H = some n) (no : ∀ q : TRow, xs = rowV q → normR q ≠ normR r) : NotStep H r (.ref t) := by
  refine ⟨⟨⟨"tuple", by simp only [tyName]; rw [ht]⟩, fun a ys e ha => ?_⟩, fun a q e ha => ?_⟩
  · cases e
    rw [ht] at ha
    cases ha
    exact ⟨l, ty⟩
  · cases e
    rw [ht] at ha
    exact no q (HO.tup.inj (Option.some.inj ha))
theorem badL_at {H : Hp} {rows : List TRow} {l : Addr} {zs : List V} {k : Nat} {v : V} {r : TRow} (e : H l = some (.lst zs)) (sv : ∀ v ∈ zs, StepV H v) (hv : zs[k]? = some v) (hr : rows[k]? = some r) (n : NotStep H r v) : BadL H rows l := by
  refine ⟨zs, e, sv, fun ws tw ew => ?_⟩
  obtain ⟨t, xs, e1, e2, e3⟩ := tups_get tw hv
  rw [List.getElem?_map] at e2
  cases hq : ws[k]? with
  | none =>
    rw [hq] at e2
    cases e2
  | some q =>
    rw [hq] at e2
    cases e2
    refine n.no t q e1 e3 ?_
    have z : (ws.map normR)[k]? = (rows.map normR)[k]? := by rw [ew]
    rw [List.getElem?_map, List.getElem?_map, hq, hr] at z
    exact Option.some.inj z
theorem badL_len {H : Hp} {rows : List TRow} {l : Addr} {zs : List V} (e : H l = some (.lst zs)) (sv : ∀ v ∈ zs, StepV H v) (ne : zs.length ≠ rows.length) : BadL H rows l := by
  refine ⟨zs, e, sv, fun ws tw ew => ne ?_⟩
  have z := congrArg List.length ew
  rw [List.length_map, List.length_map] at z
  rw [tups_len tw, List.length_map, z]
theorem tups_steps {H : Hp} {zs : List V} {ws : List TRow} (t : Tups H zs (ws.map rowV)) : ∀ v ∈ zs, StepV H v := fun v hv => by
  obtain ⟨i, hi⟩ := List.getElem?_of_mem hv
  obtain ⟨t, xs, rfl, hxs, ht⟩ := tups_get t hi
  rw [List.getElem?_map] at hxs
  cases hr : ws[i]? with
  | none =>
    rw [hr] at hxs
    cases hxs
  | some r =>
    rw [hr] at hxs
    cases hxs
    refine ⟨⟨"tuple", by simp only [tyName]; rw [ht]⟩, fun a xs' ea ha => ?_⟩
    cases ea
    rw [ht] at ha
    cases ha
    refine ⟨by show 3 ≤ 1000; decide, fun y hy => ⟨"int", ?_⟩⟩
    simp only [rowV, List.mem_cons, List.not_mem_nil, or_false] at hy
    rcases hy with z | z | z <;> rw [z] <;> rfl
def spSpoilt : Sp := fun vs H Q _ => ∃ (lw : Addr) (m : Nat) (num : Int) (rows ways : List TRow), vs = [.ref lw, .int (m : Int), .int num] ∧ TL H lw (ways.map rowV) ∧ ways.map normR = rows.map normR ∧ (∀ r ∈ rows, r.2.1 < m ∧ r.2.2 < m ∧ r.2.1 ≠ r.2.2 ∧ r.1 ≤ 1000) ∧ m ≤ 16 ∧ rows ≠ [] ∧ rows.length ≤ 60 ∧ 0 ≤ num ∧
  ∀ (l : Addr) (H' : Hp), H l = none → Same H H' → BadL H' rows l → Q (.ref l) H'
structure TxtSp (mg : Str → Option Value) : Prop where
  f_len : mg "len" = none
  f_list : mg "list" = none
  f_str : mg "str" = none
abbrev s_law_spoilt : Stmt := top 26
abbrev N_law_spoilt : List Str := ["_law_ways", "_law_many_here", "_law_number", "_law_at", "_law_step", "_law_some"]
theorem sc_law_spoilt : FnScope N_law_spoilt ["_law_ways", "_law_many_here", "_law_number"] (defScope s_law_spoilt) := ⟨rfl, rfl, rfl, by decide +kernel, rfl, by decide +kernel, by decide +kernel⟩
section
variable {P : Program} {w : World} {K : PySem.W.Frag} {mg : Str → Option Value} {base : Heap} {f : Addr} {fd : FuncData}
theorem ok_spoilt (T : TxtSp mg) (D : FnP K "_law_spoilt" "_law_spoilt" s_law_spoilt f fd) : FnOk P w K mg base (L2.CX P w) 1 f fd ["_law_ways", "_law_many_here", "_law_number"] spSpoilt := by
  have nd := sc_law_spoilt.nd
  refine D.ok sc_law_spoilt (fun vs H Q E h => ?_) (fun cdv A outer s H vs Q E hr h => ?_)
  · obtain ⟨lw, m, num, rows, ways, rfl, _⟩ := h
    rfl
  · obtain ⟨lw, m, num, rows, ways, rfl, ⟨vs, el, tv⟩, en, ok, m16, ne, few, n0, k⟩ := h
    refine ⟨_, (pss_cons (ps_set (i := 3) nd rfl (Or.inl rfl) (pe_op op_mod (pe_op op_fdiv (pv 2) pe_int) (pe_callB call_len_seq rfl T.f_len PySem.boot_len (pa_cons (pv 0) pa_nil))))
      (pss_cons (ps_set (i := 4) nd rfl (Or.inl rfl) (pe_ix ix_list (pv 0) (pv 3) (fun _ _ => rfl)))
      (pss_cons (ps_set (i := 5) nd rfl (Or.inl rfl) (pe_lst (pa_cons (pe_tup (pa_cons (pe_ix ix_tup (pv 4) pe_int (fun _ _ => rfl)) (pa_cons (pe_ix ix_tup (pv 4) pe_int (fun _ _ => rfl)) (pa_cons (pv 1) pa_nil)))) (pa_cons (pe_tup (pa_cons (pe_ix ix_tup (pv 4) pe_int (fun _ _ => rfl)) (pa_cons (pe_ix ix_tup (pv 4) pe_int (fun _ _ => rfl)) (pa_cons (pe_ix ix_tup (pv 4) pe_int (fun _ _ => rfl)) pa_nil)))) (pa_cons (pe_tup (pa_cons (pe_op op_add (pe_ix ix_tup (pv 4) pe_int (fun _ _ => rfl)) pe_int) (pa_cons (pe_ix ix_tup (pv 4) pe_int (fun _ _ => rfl)) (pa_cons (pe_ix ix_tup (pv 4) pe_int (fun _ _ => rfl)) pa_nil)))) (pa_cons (pe_callTy call_list_of rfl T.f_list (by decide +kernel) (pa_cons (pv 4) pa_nil)) pa_nil))))))
      (pss_cons (ps_set (i := 5) nd rfl (Or.inl rfl) (pe_op op_cat (pv 5) (pe_lst (pa_cons (pe_slice sl_tup (pv 4) po_none (po_some pe_int)) (pa_cons (pe_op op_catT (pv 4) (pe_tup (pa_cons pe_int pa_nil))) (pa_cons (pe_tup (pa_cons (pe_ix ix_tup (pv 4) pe_int (fun _ _ => rfl)) (pa_cons pe_non (pa_cons (pe_ix ix_tup (pv 4) pe_int (fun _ _ => rfl)) pa_nil)))) (pa_cons (pe_tup (pa_cons (pe_callTy call_str_int rfl T.f_str (by decide +kernel) (pa_cons (pe_ix ix_tup (pv 4) pe_int (fun _ _ => rfl)) pa_nil)) (pa_cons (pe_ix ix_tup (pv 4) pe_int (fun _ _ => rfl)) (pa_cons (pe_ix ix_tup (pv 4) pe_int (fun _ _ => rfl)) pa_nil)))) (pa_cons pe_non pa_nil))))))))
      (pss_cons (ps_expr (pe_bm PySem.F.plainAttrs_list PySem.F.slot_list_append PySem.F.type_list_append mt_append (pv 5) (pa_cons (pe_tup (pa_cons (pe_ix ix_tup (pv 4) pe_int (fun _ _ => rfl)) (pa_cons (pe_ix ix_tup (pv 4) pe_int (fun _ _ => rfl)) (pa_cons (pe_op op_sub (pe_un un_neg pe_int) (pe_ix ix_tup (pv 4) pe_int (fun _ _ => rfl))) pa_nil)))) pa_nil)))
      (pss_cons (ps_if (pt_cmpR op_lt (pe_op op_mod (pv 2) pe_int) pe_int (nomark _)) (pss_one (ps_ret (pe_op op_cat (pe_op op_cat (pe_slice sl_list (pv 0) po_none (po_some (pv 3))) (pe_lst (pa_cons (pe_ix ix_list (pv 5) (pe_op op_mod (pv 2) pe_int) (fun _ _ => rfl)) pa_nil))) (pe_slice sl_list (pv 0) (po_some (pe_op op_add (pv 3) pe_int)) po_none)))) pss_nil)
      (pss_cons (ps_if (pt_cmpR op_eq (pe_op op_mod (pv 2) pe_int) pe_int (nomark _)) (pss_one (ps_ret (pe_op op_cat (pe_slice sl_list (pv 0) po_none (po_some (pv 3))) (pe_slice sl_list (pv 0) (po_some (pe_op op_add (pv 3) pe_int)) po_none)))) pss_nil)
      (pss_one (ps_ret (pe_op op_cat (pv 0) (pe_lst (pa_cons (pv 4) pa_nil)))))))))))), ?_⟩
    have lw' : ways.length = rows.length := by
      have z := congrArg List.length en
      rw [List.length_map, List.length_map] at z
      exact z
    have lv : vs.length = ways.length := by rw [tups_len tv, List.length_map]
    have pos : 0 < vs.length := by
      rw [lv, lw']
      exact List.length_pos_iff.mpr ne
    have fd := Int.ediv_nonneg n0 (show (0 : Int) ≤ 12 by decide)
    have md := emod_lt (i := num / 12) (m := (vs.length : Int)) (by omega)
    obtain ⟨kk, ek⟩ := nat_of md.1
    have lk : kk < vs.length := by omega
    obtain ⟨r, hr0⟩ : ∃ r, rows[kk]? = some r := ⟨_, List.getElem?_eq_getElem (by omega)⟩
    obtain ⟨x, hx⟩ : ∃ x, ways[kk]? = some x := ⟨_, List.getElem?_eq_getElem (by omega)⟩
    obtain ⟨y, hy⟩ : ∃ y, vs[kk]? = some y := ⟨_, List.getElem?_eq_getElem lk⟩
    obtain ⟨tw, xs, rfl, hxs, htw⟩ := tups_get tv hy
    have hy0 := hy
    rw [List.getElem?_map, hx] at hxs
    cases hxs
    have exr : normR x = normR r := by
      have z : (ways.map normR)[kk]? = (rows.map normR)[kk]? := by rw [en]
      rw [List.getElem?_map, List.getElem?_map, hx, hr0] at z
      exact Option.some.inj z
    obtain ⟨o1, o2, o3, o4⟩ := ok r (List.mem_of_getElem? hr0)
    have ox : x.1 = r.1 ∧ x.2.1 < m ∧ x.2.2 < m ∧ x.2.1 ≠ x.2.2 := by
      rcases norm_iff.mp exr with z | z
      · rw [z]
        exact ⟨rfl, o1, o2, o3⟩
      · rw [z]
        exact ⟨rfl, o2, o1, fun e => o3 e.symm⟩
    refine ⟨_, rfl, _, _, rfl, rfl, ⟨by decide, by decide⟩, _, rfl, lw, vs, rfl, .inl (SqL.of el), _, _, rfl, rfl, (by omega), ?_⟩
    dsimp only [gName]
    refine nice (σ' := [some (.ref lw), some (.int (m : Int)), some (.int num), some (.int (kk : Int)), none, none]) (by rw [← ek]; rfl) ?_
    refine ⟨_, rfl, _, rfl, lw, vs, _, _, rfl, rfl, SqL.of el, atI_nat hy, ?_⟩
    dsimp only [gName]
    refine nice (σ' := [some (.ref lw), some (.int (m : Int)), some (.int num), some (.int (kk : Int)), some (.ref tw), none]) rfl ?_
    have inj3 : ∀ {a b c : V} {q : TRow}, [a, b, c] = rowV q → a = .int (q.1 : Int) ∧ b = .int (q.2.1 : Int) ∧ c = .int (q.2.2 : Int) := fun {a b c q} h => by
      have h1 := (List.cons.inj h).1
      have h2 := (List.cons.inj (List.cons.inj h).2).1
      have h3 := (List.cons.inj (List.cons.inj (List.cons.inj h).2).2).1
      exact ⟨h1, h2, h3⟩
    have ni : ∀ {a b : Nat}, V.int (a : Int) = V.int (b : Int) → a = b := fun h => Int.ofNat.inj (V.int.inj h)
    have ni' : ∀ {a : Int} {b : Nat}, V.int a = V.int (b : Int) → a = (b : Int) := fun h => V.int.inj h
    have nr : ∀ q : TRow, normR q = normR r → (q.1 = x.1 ∧ ((q.2.1 = x.2.1 ∧ q.2.2 = x.2.2) ∨ (q.2.1 = x.2.2 ∧ q.2.2 = x.2.1))) := fun q h => by
      rcases norm_iff.mp (h.trans exr.symm) with z | z
      · rw [z]
        exact ⟨rfl, .inl ⟨rfl, rfl⟩⟩
      · rw [z]
        exact ⟨rfl, .inr ⟨rfl, rfl⟩⟩
    have int3 : ∀ {a b c : Int} {H' : Hp}, ∀ y ∈ [V.int a, V.int b, V.int c], ∃ n, tyName y H' = some n := fun {a b c H'} y hy => by
      simp only [List.mem_cons, List.not_mem_nil, or_false] at hy
      rcases hy with z | z | z <;> rw [z] <;> exact ⟨"int", rfl⟩
    refine ⟨_, rfl, tw, _, _, _, rfl, rfl, SqT.of htw, atI_nat (j := 0) rfl, _, rfl, tw, _, _, _, rfl, rfl, SqT.of htw, atI_nat (j := 1) rfl, _, rfl, (by show 3 ≤ sizeLine; decide), fun t1 h1 => ?_⟩
    have c1 := same_new (o := .tup [.int (x.1 : Int), .int (x.2.1 : Int), .int (m : Int)]) h1
    have e1 := upd_same (H := H) (a := t1) (o := .tup [.int (x.1 : Int), .int (x.2.1 : Int), .int (m : Int)])
    have a1 : ∀ v ∈ [V.ref t1], NotStep (upd H t1 (.tup [.int (x.1 : Int), .int (x.2.1 : Int), .int (m : Int)])) r v := fun v hv => by
      rw [List.mem_singleton.mp hv]
      refine not_tup e1 (by show 3 ≤ 1000; decide) int3 fun q h z => ?_
      obtain ⟨g1, g2, g3⟩ := inj3 h
      have g3 := ni g3
      have := nr q z
      omega
    have htw1 := c1 _ _ htw
    have S1 := c1
    generalize upd H t1 (.tup [.int (x.1 : Int), .int (x.2.1 : Int), .int (m : Int)]) = H1 at *
    clear c1 e1
    refine ⟨_, rfl, tw, _, _, _, rfl, rfl, SqT.of htw1, atI_nat (j := 0) rfl, _, rfl, tw, _, _, _, rfl, rfl, SqT.of htw1, atI_nat (j := 1) rfl, _, rfl, tw, _, _, _, rfl, rfl, SqT.of htw1, atI_nat (j := 1) rfl, (by show 3 ≤ sizeLine; decide), fun t2 h2 => ?_⟩
    have c2 := same_new (o := .tup [.int (x.1 : Int), .int (x.2.1 : Int), .int (x.2.1 : Int)]) h2
    have e2 := upd_same (H := H1) (a := t2) (o := .tup [.int (x.1 : Int), .int (x.2.1 : Int), .int (x.2.1 : Int)])
    have a2 := grow a1 c2 (v := .ref t2) (by
      refine not_tup e2 (by show 3 ≤ 1000; decide) int3 fun q h z => ?_
      obtain ⟨g1, g2, g3⟩ := inj3 h
      have g2 := ni g2
      have g3 := ni g3
      have := nr q z
      omega)
    have htw2 := c2 _ _ htw1
    have S2 := S1.trans c2
    generalize upd H1 t2 (.tup [.int (x.1 : Int), .int (x.2.1 : Int), .int (x.2.1 : Int)]) = H2 at *
    clear c2 e2 h2
    refine ⟨_, rfl, tw, _, _, _, rfl, rfl, SqT.of htw2, atI_nat (j := 0) rfl, _, _, rfl, rfl, _, rfl, tw, _, _, _, rfl, rfl, SqT.of htw2, atI_nat (j := 1) rfl, _, rfl, tw, _, _, _, rfl, rfl, SqT.of htw2, atI_nat (j := 2) rfl, (by show 3 ≤ sizeLine; decide), fun t3 h3 => ?_⟩
    have c3 := same_new (o := .tup [.int ((x.1 : Int) + 1000), .int (x.2.1 : Int), .int (x.2.2 : Int)]) h3
    have e3 := upd_same (H := H2) (a := t3) (o := .tup [.int ((x.1 : Int) + 1000), .int (x.2.1 : Int), .int (x.2.2 : Int)])
    have a3 := grow a2 c3 (v := .ref t3) (by
      refine not_tup e3 (by show 3 ≤ 1000; decide) int3 fun q h z => ?_
      obtain ⟨g1, g2, g3⟩ := inj3 h
      have g1 := ni' g1
      have := nr q z
      omega)
    have htw3 := c3 _ _ htw2
    have S3 := S2.trans c3
    generalize upd H2 t3 (.tup [.int ((x.1 : Int) + 1000), .int (x.2.1 : Int), .int (x.2.2 : Int)]) = H3 at *
    clear c3 e3 h3
    refine ⟨_, rfl, tw, _, rfl, .inr (SqT.of htw3), fun t4 h4 => ?_⟩
    have c4 := same_new (o := .lst (rowV x)) h4
    have e4 := upd_same (H := H3) (a := t4) (o := .lst (rowV x))
    have a4 := grow a3 c4 (v := .ref t4) (by
      exact ⟨⟨⟨"list", by simp only [tyName]; rw [e4]⟩, fun a ys z y => by cases z; rw [e4] at y; cases y⟩, fun a q z y => by cases z; rw [e4] at y; cases y⟩)
    have htw4 := c4 _ _ htw3
    have S4 := S3.trans c4
    generalize upd H3 t4 (.lst (rowV x)) = H4 at *
    clear c4 h4
    refine ⟨(by show 4 ≤ sizeLine; decide), fun s1 h5 => ?_⟩
    have c5 := same_new (o := .lst [V.ref t1, V.ref t2, V.ref t3, V.ref t4]) h5
    have e5 := upd_same (H := H4) (a := s1) (o := .lst [V.ref t1, V.ref t2, V.ref t3, V.ref t4])
    have a5 := fun v hv => (a4 v hv).same c5
    have htw5 := c5 _ _ htw4
    have S5 := S4.trans c5
    generalize upd H4 s1 (.lst [V.ref t1, V.ref t2, V.ref t3, V.ref t4]) = H5 at *
    clear c5 h5
    dsimp only [gName]
    refine nice (σ' := [some (.ref lw), some (.int (m : Int)), some (.int num), some (.int (kk : Int)), some (.ref tw), some (.ref s1)]) rfl ?_
    refine ⟨_, rfl, _, rfl, _, rfl, tw, _, rfl, SqT.of htw5, (by show ¬ (HT.sIx 3 0 none = 0 ∧ HT.sIx 3 3 (some 2) = 3); decide), fun t5 h6 => ?_⟩
    rw [show cutV (rowV x) none (some 2) = [.int (x.1 : Int), .int (x.2.1 : Int)] from cut_take (rowV x) 2]
    have c6 := same_new (o := .tup [.int (x.1 : Int), .int (x.2.1 : Int)]) h6
    have e6 := upd_same (H := H5) (a := t5) (o := .tup [.int (x.1 : Int), .int (x.2.1 : Int)])
    have a6 := grow a5 c6 (v := .ref t5) (by
      refine not_tup e6 (by show 2 ≤ 1000; decide) ?_ fun q h _ => ?_
      · intro y hy
        simp only [List.mem_cons, List.not_mem_nil, or_false] at hy
        rcases hy with z | z <;> rw [z] <;> exact ⟨_, rfl⟩
      · exact absurd (congrArg List.length h) (by show ¬ (2 = 3); decide))
    have es1_6 := c6 _ _ e5
    have htw6 := c6 _ _ htw5
    have S6 := S5.trans c6
    generalize upd H5 t5 (.tup [.int (x.1 : Int), .int (x.2.1 : Int)]) = H6 at *
    clear c6 h6
    refine ⟨_, rfl, (by show 1 ≤ sizeLine; decide), fun t6a h7 => ?_⟩
    have c7 := same_new (o := .tup [.int 0]) h7
    have e7 := upd_same (H := H6) (a := t6a) (o := .tup [.int 0])
    have a7 := fun v hv => (a6 v hv).same c7
    have es1_7 := c7 _ _ es1_6
    have htw7 := c7 _ _ htw6
    have S7 := S6.trans c7
    generalize upd H6 t6a (.tup [.int 0]) = H7 at *
    clear c7 h7
    refine ⟨tw, t6a, _, _, rfl, rfl, SqT.of htw7, SqT.of e7, (by intro z; cases z), (by show 4 ≤ sizeLine; decide), (fun z => by cases z), fun _ t6 h8 => ?_⟩
    rw [show rowV x ++ [V.int 0] = [.int (x.1 : Int), .int (x.2.1 : Int), .int (x.2.2 : Int), .int 0] from rfl]
    have c8 := same_new (o := .tup [.int (x.1 : Int), .int (x.2.1 : Int), .int (x.2.2 : Int), .int 0]) h8
    have e8 := upd_same (H := H7) (a := t6) (o := .tup [.int (x.1 : Int), .int (x.2.1 : Int), .int (x.2.2 : Int), .int 0])
    have a8 := grow a7 c8 (v := .ref t6) (by
      refine not_tup e8 (by show 4 ≤ 1000; decide) ?_ fun q h _ => ?_
      · intro y hy
        simp only [List.mem_cons, List.not_mem_nil, or_false] at hy
        rcases hy with z | z | z | z <;> rw [z] <;> exact ⟨_, rfl⟩
      · exact absurd (congrArg List.length h) (by show ¬ (4 = 3); decide))
    have es1_8 := c8 _ _ es1_7
    have htw8 := c8 _ _ htw7
    have S8 := S7.trans c8
    generalize upd H7 t6 (.tup [.int (x.1 : Int), .int (x.2.1 : Int), .int (x.2.2 : Int), .int 0]) = H8 at *
    clear c8 h8
    refine ⟨_, rfl, tw, _, _, _, rfl, rfl, SqT.of htw8, atI_nat (j := 0) rfl, _, rfl, tw, _, _, _, rfl, rfl, SqT.of htw8, atI_nat (j := 2) rfl, (by show 3 ≤ sizeLine; decide), fun t7 h9 => ?_⟩
    have c9 := same_new (o := .tup [.int (x.1 : Int), .non, .int (x.2.2 : Int)]) h9
    have e9 := upd_same (H := H8) (a := t7) (o := .tup [.int (x.1 : Int), .non, .int (x.2.2 : Int)])
    have a9 := grow a8 c9 (v := .ref t7) (by
      refine not_tup e9 (by show 3 ≤ 1000; decide) ?_ fun q h _ => ?_
      · intro y hy
        simp only [List.mem_cons, List.not_mem_nil, or_false] at hy
        rcases hy with z | z | z <;> rw [z] <;> exact ⟨_, rfl⟩
      · cases (inj3 h).2.1)
    have es1_9 := c9 _ _ es1_8
    have htw9 := c9 _ _ htw8
    have S9 := S8.trans c9
    generalize upd H8 t7 (.tup [.int (x.1 : Int), .non, .int (x.2.2 : Int)]) = H9 at *
    clear c9 h9
    have lg : ((x.1 : Int)).natAbs.log2 < 1920 := by
      rw [Int.natAbs_natCast]
      refine Nat.lt_of_le_of_lt (Nat.log2_le_self _) ?_
      omega
    refine ⟨_, rfl, tw, _, _, _, rfl, rfl, SqT.of htw9, atI_nat (j := 0) rfl, _, rfl, lg, _, rfl, tw, _, _, _, rfl, rfl, SqT.of htw9, atI_nat (j := 1) rfl, _, rfl, tw, _, _, _, rfl, rfl, SqT.of htw9, atI_nat (j := 2) rfl, (by show 3 ≤ sizeLine; decide), fun t8 h10 => ?_⟩
    have c10 := same_new (o := .tup [.str (toString (x.1 : Int)), .int (x.2.1 : Int), .int (x.2.2 : Int)]) h10
    have e10 := upd_same (H := H9) (a := t8) (o := .tup [.str (toString (x.1 : Int)), .int (x.2.1 : Int), .int (x.2.2 : Int)])
    have a10 := grow a9 c10 (v := .ref t8) (by
      refine not_tup e10 (by show 3 ≤ 1000; decide) ?_ fun q h _ => ?_
      · intro y hy
        simp only [List.mem_cons, List.not_mem_nil, or_false] at hy
        rcases hy with z | z | z <;> rw [z] <;> exact ⟨_, rfl⟩
      · cases (inj3 h).1)
    have es1_10 := c10 _ _ es1_9
    have htw10 := c10 _ _ htw9
    have S10 := S9.trans c10
    generalize upd H9 t8 (.tup [.str (toString (x.1 : Int)), .int (x.2.1 : Int), .int (x.2.2 : Int)]) = H10 at *
    clear c10 h10
    refine ⟨(by show 5 ≤ sizeLine; decide), fun s2 h11 => ?_⟩
    have c11 := same_new (o := .lst [V.ref t5, V.ref t6, V.ref t7, V.ref t8, V.non]) h11
    have e11 := upd_same (H := H10) (a := s2) (o := .lst [V.ref t5, V.ref t6, V.ref t7, V.ref t8, V.non])
    have a11 := fun v hv => (a10 v hv).same c11
    have es1_11 := c11 _ _ es1_10
    have htw11 := c11 _ _ htw10
    have S11 := S10.trans c11
    generalize upd H10 s2 (.lst [V.ref t5, V.ref t6, V.ref t7, V.ref t8, V.non]) = H11 at *
    clear c11 h11
    refine ⟨s1, s2, _, _, rfl, rfl, es1_11, e11, (by show 4 + 5 ≤ sizeLine; decide), fun s3 h12 => ?_⟩
    have c12 := same_new (o := .lst ([V.ref t1, V.ref t2, V.ref t3, V.ref t4] ++ [V.ref t5, V.ref t6, V.ref t7, V.ref t8, V.non])) h12
    have e12 := upd_same (H := H11) (a := s3) (o := .lst ([V.ref t1, V.ref t2, V.ref t3, V.ref t4] ++ [V.ref t5, V.ref t6, V.ref t7, V.ref t8, V.non]))
    have a12 := fun v hv => (a11 v hv).same c12
    have hs3 : H s3 = none := S11.free h12
    have htw12 := c12 _ _ htw11
    have S12 := S11.trans c12
    generalize upd H11 s3 (.lst ([V.ref t1, V.ref t2, V.ref t3, V.ref t4] ++ [V.ref t5, V.ref t6, V.ref t7, V.ref t8, V.non])) = H12 at *
    clear c12 h12
    dsimp only [gName]
    refine nice (σ' := [some (.ref lw), some (.int (m : Int)), some (.int num), some (.int (kk : Int)), some (.ref tw), some (.ref s3)]) rfl ?_
    refine ⟨_, rfl, .inl ⟨rfl, _, SqL.of e12⟩, _, rfl, tw, _, _, _, rfl, rfl, SqT.of htw12, atI_nat (j := 0) rfl, _, rfl, tw, _, _, _, rfl, rfl, SqT.of htw12, atI_nat (j := 1) rfl, _, rfl, _, rfl, tw, _, _, _, rfl, rfl, SqT.of htw12, atI_nat (j := 2) rfl, _, _, rfl, rfl, (by show 3 ≤ sizeLine; decide), fun t10 h13 => ?_⟩
    have c13 := same_new (o := .tup [.int (x.1 : Int), .int (x.2.1 : Int), .int (-1 - (x.2.2 : Int))]) h13
    have e13 := upd_same (H := H12) (a := t10) (o := .tup [.int (x.1 : Int), .int (x.2.1 : Int), .int (-1 - (x.2.2 : Int))])
    have a13 := grow a12 c13 (v := .ref t10) (by
      refine not_tup e13 (by show 3 ≤ 1000; decide) int3 fun q h _ => ?_
      have := ni' (inj3 h).2.2
      omega)
    have es3_13 := c13 _ _ e12
    have htw13 := c13 _ _ htw12
    have S13 := S12.trans c13
    generalize upd H12 t10 (.tup [.int (x.1 : Int), .int (x.2.1 : Int), .int (-1 - (x.2.2 : Int))]) = H13 at *
    clear c13 h13
    refine ⟨s3, _, _, rfl, rfl, es3_13, (by show 4 + 5 < sizeLine; decide), ?_⟩
    have a14 : ∀ v ∈ (([V.ref t1, V.ref t2, V.ref t3, V.ref t4] ++ [V.ref t5, V.ref t6, V.ref t7, V.ref t8, V.non]) ++ [V.ref t10]), NotStep (upd H13 s3 (.lst (([V.ref t1, V.ref t2, V.ref t3, V.ref t4] ++ [V.ref t5, V.ref t6, V.ref t7, V.ref t8, V.non]) ++ [V.ref t10]))) r v := fun v hv => by
      refine NotStep.over es3_13 ?_
      rcases List.mem_append.mp hv with z | z
      · rcases List.mem_append.mp z with z | z
        · exact a13 v (by simp only [List.mem_append, List.mem_cons, List.not_mem_nil, or_false] at z ⊢; rcases z with z | z | z | z <;> simp [z])
        · simp only [List.mem_cons, List.not_mem_nil, or_false] at z
          rcases z with z | z | z | z | z
          · exact a13 v (by simp [z])
          · exact a13 v (by simp [z])
          · exact a13 v (by simp [z])
          · exact a13 v (by simp [z])
          · rw [z]
            exact ⟨⟨⟨"NoneType", rfl⟩, fun a xs e _ => by cases e⟩, fun t q e _ => by cases e⟩
      · exact a13 v (by simp only [List.mem_singleton] at z; simp [z])
    have es4 := upd_same (H := H13) (a := s3) (o := .lst (([V.ref t1, V.ref t2, V.ref t3, V.ref t4] ++ [V.ref t5, V.ref t6, V.ref t7, V.ref t8, V.non]) ++ [V.ref t10]))
    have fr3 : H s3 = none := hs3
    have S14 : Same H (upd H13 s3 (.lst (([V.ref t1, V.ref t2, V.ref t3, V.ref t4] ++ [V.ref t5, V.ref t6, V.ref t7, V.ref t8, V.non]) ++ [V.ref t10]))) := same_over fr3 S13
    have htw14 : upd H13 s3 (.lst (([V.ref t1, V.ref t2, V.ref t3, V.ref t4] ++ [V.ref t5, V.ref t6, V.ref t7, V.ref t8, V.non]) ++ [V.ref t10])) tw = some (.tup (rowV x)) := S14 _ _ htw
    generalize upd H13 s3 (.lst (([V.ref t1, V.ref t2, V.ref t3, V.ref t4] ++ [V.ref t5, V.ref t6, V.ref t7, V.ref t8, V.non]) ++ [V.ref t10])) = H14 at *
    generalize hxs : (([V.ref t1, V.ref t2, V.ref t3, V.ref t4] ++ [V.ref t5, V.ref t6, V.ref t7, V.ref t8, V.non]) ++ [V.ref t10]) = xs10 at *
    have l10 : xs10.length = 10 := by rw [← hxs]; rfl
    have el14 := S14 _ _ el
    have tv14 : Tups H14 vs (ways.map rowV) := tups_ext (fun t xs e => S14 _ _ e) tv
    have sv14 := tups_steps tv14
    have m12 := emod_lt (i := num) (m := 12) (by decide)
    have lsz : ∀ n : Nat, n ≤ 200 → n ≤ sizeLine := fun n h => by
      rw [sizeLine_eq]
      omega
    refine ⟨_, rfl, _, _, rfl, rfl, (by show (0 : Int) < 12; decide), _, _, rfl, rfl, _, rfl, if_both (fun c => ?_) (fun c => ?_)⟩
    · have c := of_decide_eq_true c
      obtain ⟨v, hv1, hv2⟩ := at_lt (xs := xs10) m12.1 (by rw [l10]; omega)
      have nv := a14 v hv2
      refine ⟨_, rfl, _, rfl, _, rfl, lw, vs, rfl, SqL.of el14, fun p1 hp1 => ?_⟩
      rw [cut_take]
      have c1 := same_new (o := .lst (vs.take kk)) hp1
      refine ⟨_, rfl, _, rfl, _, _, rfl, rfl, (by show (0 : Int) < 12; decide), s3, _, _, v, rfl, rfl, SqL.of (c1 _ _ es4), hv1, (by show 1 ≤ sizeLine; decide), fun p2 hp2 => ?_⟩
      have c2 := same_new (o := .lst [v]) hp2
      refine ⟨p1, p2, _, _, rfl, rfl, c2 _ _ upd_same, upd_same, lsz _ (by rw [List.length_take]; show _ + 1 ≤ 200; omega), fun p3 hp3 => ?_⟩
      have c3 := same_new (o := .lst (vs.take kk ++ [v])) hp3
      have S3 := (c1.trans c2).trans c3
      refine ⟨_, rfl, _, rfl, _, _, rfl, rfl, _, rfl, lw, vs, rfl, SqL.of (S3 _ _ el14), fun p4 hp4 => ?_⟩
      rw [show ((kk : Int) + 1) = ((kk + 1 : Nat) : Int) by omega, cut_drop]
      have c4 := same_new (o := .lst (vs.drop (kk + 1))) hp4
      refine ⟨p3, p4, _, _, rfl, rfl, c4 _ _ upd_same, upd_same, lsz _ (by rw [List.length_append, List.length_take, List.length_drop]; show _ + 1 + _ ≤ 200; omega), fun p5 hp5 => ?_⟩
      have c5 := same_new (o := .lst ((vs.take kk ++ [v]) ++ vs.drop (kk + 1))) hp5
      have S5 := (S3.trans c4).trans c5
      refine k p5 _ ((S14.trans (S3.trans c4)).free hp5) (S14.trans S5) (badL_at upd_same (fun y hy => ?_) ?_ hr0 (nv.same S5))
      · rcases List.mem_append.mp hy with z | z
        · rcases List.mem_append.mp z with z | z
          · exact (sv14 y (List.mem_of_mem_take z)).same S5
          · rw [List.mem_singleton.mp z]
            exact nv.sv.same S5
        · exact (sv14 y (List.mem_of_mem_drop z)).same S5
      · rw [List.getElem?_append_left (by rw [List.length_append, List.length_take]; show kk < min kk vs.length + 1; omega), List.getElem?_append_right (by rw [List.length_take]; omega), List.length_take, show kk - min kk vs.length = 0 by omega]
        rfl
    · refine ⟨_, rfl, _, _, rfl, rfl, (by show (0 : Int) < 12; decide), rfl, _, rfl, if_both (fun c2 => ?_) (fun c2 => ?_)⟩
      · refine ⟨_, rfl, _, rfl, _, rfl, lw, vs, rfl, SqL.of el14, fun p1 hp1 => ?_⟩
        rw [cut_take]
        have c1 := same_new (o := .lst (vs.take kk)) hp1
        refine ⟨_, rfl, _, rfl, _, _, rfl, rfl, _, rfl, lw, vs, rfl, SqL.of (c1 _ _ el14), fun p4 hp4 => ?_⟩
        rw [show ((kk : Int) + 1) = ((kk + 1 : Nat) : Int) by omega, cut_drop]
        have c4 := same_new (o := .lst (vs.drop (kk + 1))) hp4
        refine ⟨p1, p4, _, _, rfl, rfl, c4 _ _ upd_same, upd_same, lsz _ (by rw [List.length_take, List.length_drop]; omega), fun p5 hp5 => ?_⟩
        have c5 := same_new (o := .lst (vs.take kk ++ vs.drop (kk + 1))) hp5
        have S5 := (c1.trans c4).trans c5
        refine k p5 _ ((S14.trans (c1.trans c4)).free hp5) (S14.trans S5) (badL_len upd_same (fun y hy => ?_) ?_)
        · rcases List.mem_append.mp hy with z | z
          · exact (sv14 y (List.mem_of_mem_take z)).same S5
          · exact (sv14 y (List.mem_of_mem_drop z)).same S5
        · rw [List.length_append, List.length_take, List.length_drop]
          omega
      · refine ⟨_, rfl, _, rfl, (by show 1 ≤ sizeLine; decide), fun p2 hp2 => ?_⟩
        have c2' := same_new (o := .lst [V.ref tw]) hp2
        refine ⟨lw, p2, _, _, rfl, rfl, c2' _ _ el14, upd_same, lsz _ (by show vs.length + 1 ≤ 200; omega), fun p5 hp5 => ?_⟩
        have c5 := same_new (o := .lst (vs ++ [V.ref tw])) hp5
        have S5 := c2'.trans c5
        refine k p5 _ ((S14.trans c2').free hp5) (S14.trans S5) (badL_len upd_same (fun y hy => ?_) ?_)
        · rcases List.mem_append.mp hy with z | z
          · exact (sv14 y z).same S5
          · rw [List.mem_singleton.mp z]
            exact (sv14 _ (List.mem_of_getElem? hy0)).same S5
        · rw [List.length_append]
          show vs.length + 1 ≠ _
          omega
end
end K06

set_option Elab.async false
set_option linter.all false
set_option maxRecDepth 100000
set_option maxHeartbeats 4000000
namespace K06
open PySem PySem.Spec PyProof.Rows L2 Own
/-! ### truths for numbers -/
def truthV : V → V
  | .int i => if i = 0 ∨ i = 1 then .bl (decide (i = 1)) else .int i
  | v => v
def spTruths : Sp := fun vs H Q _ => ∃ (lw : Addr) (ws : List TRow), vs = [.ref lw] ∧ TL H lw (ws.map rowV) ∧ ws.length ≤ 60 ∧
  ∀ (l : Addr) (zs : List V) (H' : Hp), H l = none → Same H H' → H' l = some (.lst zs) → Tups H' zs (ws.map fun r => (rowV r).map truthV) → Q (.ref l) H'
structure TxtTr (mg : Str → Option Value) : Prop where
  f_tuple : mg "tuple" = none
abbrev s_law_truths : Stmt := top 27
abbrev N_law_truths : List Str := ["_law_ways", "_law_found", "_law_step", "_law_one"]
theorem sc_law_truths : FnScope N_law_truths ["_law_ways"] (defScope s_law_truths) := ⟨rfl, rfl, rfl, by decide +kernel, rfl, by decide +kernel, by decide +kernel⟩
section
variable {P : Program} {w : World} {K : PySem.W.Frag} {mg : Str → Option Value} {base : Heap} {f : Addr} {fd : FuncData}
theorem ok_truths (T : TxtTr mg) (D : FnP K "_law_truths" "_law_truths" s_law_truths f fd) : FnOk P w K mg base (L2.CX P w) 1 f fd ["_law_ways"] spTruths := by
  have nd := sc_law_truths.nd
  refine D.ok sc_law_truths (fun vs H Q E h => ?_) (fun cdv A outer s H vs Q E hr h => ?_)
  · obtain ⟨lw, ws, rfl, _⟩ := h
    rfl
  · obtain ⟨lw, ws, rfl, ⟨vs, el, tv⟩, few, k⟩ := h
    refine ⟨_, (pss_cons (ps_set (i := 1) nd rfl (Or.inl rfl) (pe_lst pa_nil))
      (pss_cons (ps_for (passes_of rfl) rfl (pi_list (pv 0)) (pg_name (i := 2) nd rfl (Or.inl rfl)) (pss_one (ps_expr (pe_bm PySem.F.plainAttrs_list PySem.F.slot_list_append PySem.F.type_list_append mt_append (pv 1) (pa_cons (pe_callTy call_tuple_of rfl T.f_tuple (by decide +kernel) (pa_cons (pe_lc (own := [("_law_one", 3)]) (g := (gName 3)) (te := tIf (tTest (tOp (rIn K false) (tVar 3) (tTup (tCons (tC (.int 0)) (tCons (tC (.int 1)) tNil))))) (tOp rEq (tVar 3) (tC (.int 1))) (tVar 3)) rfl nd (pi_tup (pv 2)) (blkOk_by (own := [("_law_one", 3)]) (N := N_law_truths) (sc := defScope s_law_truths) (by decide +kernel)) (fun _ _ _ _ _ => (pg_name (i := 3) nd rfl (Or.inl rfl))) (fun _ _ _ _ _ => pts_nil) (fun _ _ _ _ _ => (pe_ifExp (pt_cmpR op_in_seq (pv 3) (pe_tup (pa_cons pe_int (pa_cons pe_int pa_nil))) (by with_unfolding_all rfl)) (pe_cmpR op_eq (pv 3) pe_int (nomark _)) (pv 3)))) pa_nil)) pa_nil)))))
      (pss_one (ps_ret (pv 1))))), ?_⟩
    have lv : vs.length = ws.length := by rw [tups_len tv, List.length_map]
    refine ⟨(by show 0 ≤ sizeLine; decide), fun D0 hD0 => ?_⟩
    have cD := same_new (o := .lst []) hD0
    refine ⟨_, rfl, lw, rfl, ⟨vs, SqL.of (cD _ _ el)⟩, for_it walk_list (fun i σ H' => ∃ (zs : List V) (u2 : Option V), σ = [some (.ref lw), some (.ref D0), u2, none] ∧ H' D0 = some (.lst zs) ∧ Tups H' zs ((ws.take i).map fun r => (rowV r).map truthV) ∧ Same H H') ⟨[], none, rfl, upd_same, .nil, cD⟩ (fun i σ H' _ ⟨_, _, _, _, _, z⟩ => SqL.of (z _ _ el)) ?_ ?_⟩
    · rintro i x σ H1 H2 hi ⟨zs, u2, rfl, e1, e2, sm⟩ ⟨rfl, hx⟩
      obtain ⟨t, xs, rfl, hxs, ht⟩ := tups_get tv hx
      obtain ⟨r, hr0⟩ : ∃ r, ws[i]? = some r := ⟨_, List.getElem?_eq_getElem (by omega)⟩
      rw [List.getElem?_map, hr0] at hxs
      cases hxs
      have lz : zs.length ≤ i := by
        rw [tups_len e2, List.length_map, List.length_take]
        omega
      refine ⟨_, rfl, .inl ⟨rfl, _, SqL.of e1⟩, ?_⟩
      refine ⟨_, rfl, t, rfl, ⟨_, SqT.of (sm _ _ ht)⟩, fun D1 hD1 => ?_⟩
      refine lc_it (walk_tup (K := K) (xs := rowV r)) (fun j H' => H' D1 = some (.lst (((rowV r).take j).map truthV)) ∧ Same H2 H') ⟨upd_same, same_new hD1⟩ (fun _ _ _ ⟨_, z⟩ => SqT.of (z _ _ (sm _ _ ht))) ?_ ?_
      · rintro j y H3 H4 hj ⟨e3, sm3⟩ ⟨rfl, hy⟩
        have hj3 : j < 3 := hj
        obtain ⟨q, rfl⟩ : ∃ q : Nat, y = .int (q : Int) := by
          have m := List.mem_of_getElem? hy
          simp only [rowV, List.mem_cons, List.not_mem_nil, or_false] at m
          rcases m with z | z | z <;> exact ⟨_, z⟩
        refine ⟨rfl, _, rfl, (by show 2 ≤ sizeLine; decide), fun tt htt => ?_⟩
        have ct := same_new (o := .tup [.int 0, .int 1]) htt
        refine ⟨tt, _, rfl, .inr (SqT.of upd_same), rfl, rfl, _, rfl, ?_⟩
        have sm4 := sm3.trans ct
        have key : truthV (.int (q : Int)) = if (q : Int) = 0 ∨ (q : Int) = 1 then .bl (decide ((q : Int) = 1)) else .int (q : Int) := rfl
        have iv : inV (.int (q : Int)) [.int 0, .int 1] = decide (q ∈ [0, 1]) := inV_nat q [0, 1]
        have fin : ∀ z, truthV (.int (q : Int)) = z → ∃ acc, (upd H4 tt (.tup [.int 0, .int 1])) D1 = some (.lst acc) ∧ acc.length < sizeLine ∧ (fun j H' => H' D1 = some (.lst (((rowV r).take j).map truthV)) ∧ Same H2 H') (j + 1) (upd (upd H4 tt (.tup [.int 0, .int 1])) D1 (.lst (acc ++ [z]))) := fun z hz => by
          refine ⟨_, ct _ _ e3, by rw [List.length_map, List.length_take, sizeLine_eq]; omega, ?_, same_over hD1 sm4⟩
          rw [upd_same, take_snoc hy, List.map_append, ← hz]
          rfl
        rw [iv]
        by_cases h : q ∈ [0, 1]
        · rw [decide_eq_true h]
          refine ⟨_, rfl, rfl, fin _ ?_⟩
          simp only [List.mem_cons, List.not_mem_nil, or_false] at h
          rw [key, if_pos (by omega)]
          congr 1
          exact decide_eq_decide.mpr ⟨fun z => by rw [z], fun z => V.int.inj z⟩
        · rw [decide_eq_false h]
          refine ⟨_, rfl, fin _ ?_⟩
          simp only [List.mem_cons, List.not_mem_nil, or_false, not_or] at h
          rw [key, if_neg (by omega)]
      · rintro H3 ⟨e3, sm3⟩
        have e3 : H3 D1 = some (.lst ((rowV r).map truthV)) := e3
        refine ⟨D1, _, rfl, .inl ⟨SqL.of e3, fun q hq => ?_⟩⟩
        have cq := sm3.trans (same_new (o := .tup ((rowV r).map truthV)) hq)
        have e4 := cq _ _ e1
        refine ⟨D0, _, _, rfl, rfl, e4, by rw [sizeLine_eq]; omega, zs ++ [V.ref q], _, rfl, upd_same, ?_, same_over hD0 (sm.trans cq)⟩
        rw [take_snoc hr0, List.map_append]
        exact tups_snoc (by rw [upd_ne (ne_of (upd_same (H := H3) (a := q) (o := .tup ((rowV r).map truthV))) e4 (by intro z; cases z))]; exact upd_same) (tups_over e4 (tups_ext (fun t xs e => cq _ _ e) e2))
    · rintro σ H2 ⟨zs, u2, rfl, e1, e2, sm⟩
      rw [List.take_of_length_le (by omega)] at e2
      exact ⟨_, rfl, k D0 zs H2 hD0 sm e1 e2⟩
end
end K06

set_option Elab.async false
set_option linter.all false
set_option maxRecDepth 100000
set_option maxHeartbeats 4000000
namespace K06
open PySem PySem.Spec PyProof.Rows L2 Own
/-! ### the law -/
def spLaw (K : PySem.W.Frag) (T : List (Addr × Str)) : Sp := fun vs H Q _ => ∃ (a : Addr) (ns : List Int), vs = [.ref a] ∧ SqL K H a (ns.map V.int) ∧ (∀ z ∈ ns, Fit z) ∧ ns.length ≤ 63 ∧ LamX.Tabs T H ∧ ∀ H', Q (.bl true) H'
theorem eqv_rows_nil (rows : List TRow) : PyData.eqv (.list (rows.map rowD)) (.list []) = rows.isEmpty := by
  cases rows <;> rfl
theorem BadL.same {H H' : Hp} {rows : List TRow} {l : Addr} (h : BadL H rows l) (s : Same H H') : BadL H' rows l := by
  obtain ⟨zs, e, sv, no⟩ := h
  refine ⟨zs, s _ _ e, fun v hv => (sv v hv).same s, fun ws tw => no ws ?_⟩
  have key : ∀ {zs : List V} {xss : List (List V)}, (∀ v ∈ zs, StepV H v) → Tups H' zs xss → Tups H zs xss := fun {zs xss} sv tw => by
    induction tw with
    | nil => exact .nil
    | cons a b ih =>
      obtain ⟨t, e, ht⟩ := a
      refine .cons ⟨t, e, ?_⟩ (ih fun v hv => sv v (List.mem_cons_of_mem _ hv))
      obtain ⟨n, hn⟩ := (sv _ (List.mem_cons_self ..)).ty
      rw [e] at hn
      simp only [tyName] at hn
      cases z : H t with
      | none => rw [z] at hn; cases hn
      | some o => rw [← s _ _ z]; exact ht
  exact key sv tw
def OddV (H : Hp) (rows : List TRow) (v : V) : Prop := (∃ n, tyName v H = some n ∧ n ≠ "list") ∨ ∃ l, v = .ref l ∧ BadL H rows l
theorem OddV.same {H H' : Hp} {rows : List TRow} {v : V} (h : OddV H rows v) (s : Same H H') : OddV H' rows v := by
  rcases h with ⟨n, h1, h2⟩ | ⟨l, e, h⟩
  · exact .inl ⟨n, ty_same s h1, h2⟩
  · exact .inr ⟨l, e, h.same s⟩
theorem any_odd {C p d : Addr} {H : Hp} {m n : Nat} {rows : List TRow} {v : V} {Q : VK} {E : XK} (W : TownAt C H p d m rows n) (o : OddV H rows v) (k : ∀ H', Same H H' → Q (.bl false) H') : spIsAny C [.ref p, v] H Q E := by
  rcases o with ⟨nm, h1, h2⟩ | ⟨l, rfl, zs, e, sv, no⟩
  · refine ⟨p, d, m, rows, n, v, rfl, W, ⟨nm, h1, fun z => (h2 z).elim⟩, fun l zs e1 e2 => ?_, fun b c1 c2 H' s => ?_⟩
    · rw [e1] at h1
      simp only [tyName] at h1
      rw [e2] at h1
      exact (h2 (Option.some.inj h1).symm).elim
    · have e : b = false := c2 fun ⟨l, ws, e1, zs, e2, _⟩ => by
        rw [e1] at h1
        simp only [tyName] at h1
        rw [e2] at h1
        exact h2 (Option.some.inj h1).symm
      rw [e]
      exact k H' s
  · refine ⟨p, d, m, rows, n, .ref l, rfl, W, ⟨"list", by simp only [tyName]; rw [e], fun _ => ⟨l, zs, rfl, e⟩⟩, fun l' zs' e1 e2 => ?_, fun b c1 c2 H' s => ?_⟩
    · cases e1
      rw [e] at e2
      cases e2
      exact sv
    · have eb : b = false := by
        by_cases h : ∃ l' ws, V.ref l = V.ref l' ∧ TL H l' (List.map rowV ws)
        · obtain ⟨l', ws, e1, t⟩ := h
          rw [c1 l' ws e1 t]
          cases e1
          obtain ⟨zs', e2, tw⟩ := t
          rw [e] at e2
          cases e2
          cases g : goodB m rows ws with
          | false => rfl
          | true =>
            unfold goodB at g
            rw [Bool.and_eq_true] at g
            exact (no ws tw (of_decide_eq_true g.1)).elim
        · exact c2 h
      rw [eb]
      exact k H' s
theorem norm_num1 {a b : TRow} (h : normR a = normR b) : a.1 = b.1 := by
  have z : (normR a).1 = (normR b).1 := by rw [h]
  exact z
theorem ix3 {K : PySem.W.Frag} {bl : Addr} {H : Hp} {Q : VK} {b1 b2 b3 : Bool} {kind : Int} (h : H bl = some (.lst [V.bl b1, V.bl b2, V.bl b3])) (k : 0 ≤ kind ∧ kind < 3) (c : ∀ b, Q (.bl b) H) : rIxL K (.ref bl) (.int kind) H Q := by
  obtain ⟨v, hv, hm⟩ := at_lt (xs := [V.bl b1, V.bl b2, V.bl b3]) k.1 (by show kind < 3; omega)
  refine ⟨bl, _, _, v, rfl, rfl, SqL.of h, hv, ?_⟩
  simp only [List.mem_cons, List.not_mem_nil, or_false] at hm
  rcases hm with z | z | z <;> rw [z] <;> exact c _
abbrev s_law : Stmt := top 28
abbrev N_law : List Str := ["_law_script", "_law_seed_here", "_law_many_here", "_law_pairs_here", "_law_town", "_law_rows", "_law_kind", "_law_ways", "_law_k", "_law_street", "_law_one", "_law_other", "_law_is_turned", "_law_kept", "_law_found", "_law_odd"]
theorem sc_law : FnScope N_law ["_law_script"] (defScope s_law) := ⟨rfl, rfl, rfl, by decide +kernel, rfl, by decide +kernel, by decide +kernel⟩
section
variable {P : Program} {w : World} {K : PySem.W.Frag} {mg : Str → Option Value} {base : Heap} {f : Addr} {fd : FuncData}
structure Txt6 (mg : Str → Option Value) : Prop extends TxtL mg where
  f_isinstance : mg "isinstance" = none
  f_bool : mg "bool" = none
  f_list : mg "list" = none
  f_tuple : mg "tuple" = none
theorem ok_law {T_ : List (Addr × Str)} (T : Txt6 mg) (D : FnP K "law" "law" s_law f fd) (c_law_mixed : CalX P w K mg base 1 "_law_mixed" spMixed)
    (c_law_seed : CalX P w K mg base 2 "_law_seed" (spSeed K)) (c_law_many : CalX P w K mg base 2 "_law_many" spMany) (c_law_pairs : CalX P w K mg base 4 "_law_pairs" (spPairs K)) (c_law_made : CalX P w K mg base 4 "_law_made" (spMade (gA K "Town")))
    (c_law_good : CalX P w K mg base 2 "_law_good" spGood) (c_law_spoilt : CalX P w K mg base 1 "_law_spoilt" spSpoilt) (c_law_truths : CalX P w K mg base 1 "_law_truths" spTruths) (c_is_one_way : CalX P w K mg base 2 "is_one_way" (spIsAny (gA K "Town"))) :
    FnOk P w K mg base (L2.CX P w) 12 f fd ["_law_script"] (spLaw K T_) := by
  have nd := sc_law.nd
  refine D.ok sc_law (fun vs H Q E h => ?_) (fun cdv A outer s H vs Q E hr h => ?_)
  · obtain ⟨a, ns, rfl, _⟩ := h
    rfl
  · obtain ⟨a, ns, rfl, hS, fits, few, tabs, kend⟩ := h
    obtain ⟨f_law_mixed, fd_law_mixed, ps_law_mixed, F_law_mixed, m_law_mixed, k_law_mixed, b_law_mixed⟩ := c_law_mixed.ex
    obtain ⟨f_law_seed, fd_law_seed, ps_law_seed, F_law_seed, m_law_seed, k_law_seed, b_law_seed⟩ := c_law_seed.ex
    obtain ⟨f_law_many, fd_law_many, ps_law_many, F_law_many, m_law_many, k_law_many, b_law_many⟩ := c_law_many.ex
    obtain ⟨f_law_pairs, fd_law_pairs, ps_law_pairs, F_law_pairs, m_law_pairs, k_law_pairs, b_law_pairs⟩ := c_law_pairs.ex
    obtain ⟨f_law_made, fd_law_made, ps_law_made, F_law_made, m_law_made, k_law_made, b_law_made⟩ := c_law_made.ex
    obtain ⟨f_law_good, fd_law_good, ps_law_good, F_law_good, m_law_good, k_law_good, b_law_good⟩ := c_law_good.ex
    obtain ⟨f_law_spoilt, fd_law_spoilt, ps_law_spoilt, F_law_spoilt, m_law_spoilt, k_law_spoilt, b_law_spoilt⟩ := c_law_spoilt.ex
    obtain ⟨f_law_truths, fd_law_truths, ps_law_truths, F_law_truths, m_law_truths, k_law_truths, b_law_truths⟩ := c_law_truths.ex
    obtain ⟨f_is_one_way, fd_is_one_way, ps_is_one_way, F_is_one_way, m_is_one_way, k_is_one_way, b_is_one_way⟩ := c_is_one_way.ex
    refine ⟨_, (pss_cons (ps_set (i := 1) nd rfl (Or.inl rfl) (pe_call F_law_seed (hr.mono (by decide)) rfl m_law_seed k_law_seed b_law_seed .nil passF (pa_cons (pv 0) pa_nil)))
      (pss_cons (ps_set (i := 2) nd rfl (Or.inl rfl) (pe_call F_law_many (hr.mono (by decide)) rfl m_law_many k_law_many b_law_many .nil passF (pa_cons (pv 1) (pa_cons pe_int pa_nil))))
      (pss_cons (ps_set (i := 3) nd rfl (Or.inl rfl) (pe_call F_law_pairs (hr.mono (by decide)) rfl m_law_pairs k_law_pairs b_law_pairs .nil passF (pa_cons (pv 0) (pa_cons (pv 1) (pa_cons (pv 2) (pa_cons pe_int pa_nil))))))
      (pss_cons (ps_asg (pe_call F_law_made (hr.mono (by decide)) rfl m_law_made k_law_made b_law_made .nil passF (pa_cons (pv 2) (pa_cons (pv 3) (pa_cons (pv 1) pa_nil)))) (pg_tup rfl (pgs_cons (pg_name (i := 4) nd rfl (Or.inl rfl)) (pgs_cons (pg_name (i := 5) nd rfl (Or.inl rfl)) pgs_nil))))
      (pss_cons (ps_set (i := 6) nd rfl (Or.inl rfl) (pe_op op_mod (pe_call F_law_mixed (hr.mono (by decide)) rfl m_law_mixed k_law_mixed b_law_mixed .nil passF (pa_cons (pv 1) (pa_cons pe_int pa_nil))) pe_int))
      (pss_cons (ps_set (i := 7) nd rfl (Or.inl rfl) (pe_lst pa_nil))
      (pss_cons (ps_for (passes_of rfl) rfl (pi_enum rfl T.f_enumerate (pa_cons (pv 5) pa_nil)) (pg_tup rfl (pgs_cons (pg_name (i := 8) nd rfl (Or.inl rfl)) (pgs_cons (pg_tup rfl (pgs_cons (pg_name (i := 9) nd rfl (Or.inl rfl)) (pgs_cons (pg_name (i := 10) nd rfl (Or.inl rfl)) (pgs_cons (pg_name (i := 11) nd rfl (Or.inl rfl)) pgs_nil)))) pgs_nil))) (pss_cons (ps_set (i := 12) nd rfl (Or.inl rfl) (pe_ix ix_list (pe_lst (pa_cons (pe_cmpR op_eq (pe_op op_mod (pe_call F_law_mixed (hr.mono (by decide)) rfl m_law_mixed k_law_mixed b_law_mixed .nil passF (pa_cons (pv 1) (pa_cons (pe_op op_add pe_int (pv 8)) pa_nil))) pe_int) pe_int (nomark _)) (pa_cons (pe_cmpR op_eq (pe_op op_mod (pe_op op_add (pv 10) pe_int) (pv 2)) (pv 11) (nomark _)) (pa_cons (pe_cmpR op_lt (pv 10) (pv 11) (nomark _)) pa_nil)))) (pv 6) (fun _ _ => rfl)))
      (pss_one (ps_expr (pe_bm PySem.F.plainAttrs_list PySem.F.slot_list_append PySem.F.type_list_append mt_append (pv 7) (pa_cons (pe_ifExp (pt_truth (pv 12) (by intro _; rfl)) (pe_tup (pa_cons (pv 9) (pa_cons (pv 10) (pa_cons (pv 11) pa_nil)))) (pe_tup (pa_cons (pv 9) (pa_cons (pv 11) (pa_cons (pv 10) pa_nil))))) pa_nil))))))
      (pss_cons (ps_set (i := 13) nd rfl (Or.inl rfl) (pe_callTy call_list_of rfl T.f_list (by decide +kernel) (pa_cons (pv 7) pa_nil)))
      (pss_cons (ps_set (i := 14) nd rfl (Or.inl rfl) (pe_call F_is_one_way (hr.mono (by decide)) rfl m_is_one_way k_is_one_way b_is_one_way .nil passF (pa_cons (pv 4) (pa_cons (pv 7) pa_nil))))
      (pss_cons (ps_if (PW.pt (pw_or (pt_not (pt_val (pe_callB call_isBoth rfl T.f_isinstance (by decide +kernel) (pa_cons (pv 14) (pa_cons (pe_bltn (v := .ty "bool") (u := .type "bool") rfl T.f_bool (by decide +kernel) rfl) pa_nil))))) (pw_or (pt_cmpR op_ne (pv 14) (pe_call F_law_good (hr.mono (by decide)) rfl m_law_good k_law_good b_law_good .nil passF (pa_cons (pv 2) (pa_cons (pv 5) (pa_cons (pv 7) pa_nil)))) (nomark _)) (pw_or1 (pt_cmpR (op_neD hr.units) (pv 7) (pv 13) (nomark _)))))) (pss_one (ps_ret pe_bl)) pss_nil)
      (pss_cons (ps_set (i := 15) nd rfl (Or.inl rfl) (pe_ix ix_list (pe_lst (pa_cons pe_non (pa_cons pe_int (pa_cons (pe_callTy call_tuple_of rfl T.f_tuple (by decide +kernel) (pa_cons (pv 7) pa_nil)) (pa_cons pe_dnewK (pa_cons pe_str (pa_cons (pe_lst (pa_cons (pv 7) pa_nil)) (pa_cons pe_bl (pa_cons (pe_op op_cat (pv 7) (pe_lst (pa_cons pe_non pa_nil))) pa_nil))))))))) (pe_op op_mod (pe_call F_law_mixed (hr.mono (by decide)) rfl m_law_mixed k_law_mixed b_law_mixed .nil passF (pa_cons (pv 1) (pa_cons pe_int pa_nil))) pe_int) (fun _ _ => rfl)))
      (pss_cons (ps_if (pt_cmpR op_notBl (pe_call F_is_one_way (hr.mono (by decide)) rfl m_is_one_way k_is_one_way b_is_one_way .nil passF (pa_cons (pv 4) (pa_cons (pv 15) pa_nil))) pe_bl (nomark _)) (pss_one (ps_ret pe_bl)) pss_nil)
      (pss_cons (ps_if (pt_cmpR (op_eqD hr.units) (pv 7) (pe_lst pa_nil) (nomark _)) (pss_one (ps_ret pe_bl)) pss_nil)
      (pss_cons (ps_if (PW.pt (pw_and (pt_cmpR op_gt (pe_callB call_len_seq rfl T.f_len PySem.boot_len (pa_cons (pv 7) pa_nil)) pe_int (nomark _)) (pw_and1 (pt_cmpR op_notBl (pe_call F_is_one_way (hr.mono (by decide)) rfl m_is_one_way k_is_one_way b_is_one_way .nil passF (pa_cons (pv 4) (pa_cons (pe_revL (pv 7)) pa_nil))) pe_bl (nomark _))))) (pss_one (ps_ret pe_bl)) pss_nil)
      (pss_cons (ps_for (passes_of rfl) rfl (pi_range1 rfl T.f_range (pa_cons pe_int pa_nil)) (pg_name (i := 8) nd rfl (Or.inl rfl)) (pss_one (ps_if (pt_cmpR op_notBl (pe_call F_is_one_way (hr.mono (by decide)) rfl m_is_one_way k_is_one_way b_is_one_way .nil passF (pa_cons (pv 4) (pa_cons (pe_call F_law_spoilt (hr.mono (by decide)) rfl m_law_spoilt k_law_spoilt b_law_spoilt .nil passF (pa_cons (pv 7) (pa_cons (pv 2) (pa_cons (pe_call F_law_mixed (hr.mono (by decide)) rfl m_law_mixed k_law_mixed b_law_mixed .nil passF (pa_cons (pv 1) (pa_cons (pe_op op_add pe_int (pv 8)) pa_nil))) pa_nil)))) pa_nil))) pe_bl (nomark _)) (pss_one (ps_ret pe_bl)) pss_nil)))
      (pss_one (ps_ret (pe_and (pe_cmpR op_isBl (pe_call F_is_one_way (hr.mono (by decide)) rfl m_is_one_way k_is_one_way b_is_one_way .nil passF (pa_cons (pv 4) (pa_cons (pe_call F_law_truths (hr.mono (by decide)) rfl m_law_truths k_law_truths b_law_truths .nil passF (pa_cons (pv 7) pa_nil)) pa_nil))) pe_bl (nomark _)) (pe_one (pe_cmpR op_isBl (pe_call F_is_one_way (hr.mono (by decide)) rfl m_is_one_way k_is_one_way b_is_one_way .nil passF (pa_cons (pv 4) (pa_cons (pe_lst (pa_cons (pe_op op_catT (pe_tup (pa_cons pe_int pa_nil)) (pe_slice sl_tup (pe_ix ix_list (pv 7) pe_int (fun _ _ => rfl)) (po_some pe_int) po_none)) pa_nil)) pa_nil))) pe_bl (nomark _))))))))))))))))))))), ?_⟩
    refine ⟨_, rfl, a, ns, rfl, hS, fits, fun seed H1 s0 s1 sm1 => ?_⟩
    have fseed : Fit seed := fit_range s0 (by omega)
    refine ⟨_, rfl, seed, 16, rfl, fseed, by decide, fun m H2 m1 m16 sm2 => ?_⟩
    refine ⟨_, rfl, _, rfl, _, rfl, a, ns, seed, m, 60, rfl, sm2.seq (sm1.seq hS), fits, fseed, m1, m16, few, by decide, fun pl H3 ps hpl sm3 tlp okp lenp _ => ?_⟩
    refine ⟨_, rfl, _, rfl, _, rfl, m, pl, seed, ps, rfl, m1, m16, tlp, okp, by omega, fseed, fun q p d l H4 rows n hq hp hd hl sm4 eq W tl er en lo => ?_⟩
    refine ⟨q, _, rfl, SqT.of eq, rfl, _, _, rfl, _, _, rfl, rfl, ?_⟩
    have few60 := W.ok.few
    have inm := town_inm W
    clear hq hp hd hl eq er en okp tlp hpl sm1 sm2 sm3 sm4 hS tabs lenp
    refine ⟨_, rfl, seed, 3, rfl, fseed, by omega, by omega, fun r r0 r1 => ⟨_, _, rfl, rfl, (by show (0 : Int) < 3; decide), ?_⟩⟩
    dsimp only [gName]
    refine nice (σ' := [some (.ref a), some (.int seed), some (.int (m : Int)), some (.ref pl), some (.ref p), some (.ref l), some (.int (r % 3)), none, none, none, none, none, none, none, none, none]) rfl ?_
    have r3 := emod_lt (i := r) (m := 3) (by decide)
    generalize r % 3 = kind at *
    refine ⟨(by show 0 ≤ sizeLine; decide), fun L hL => ?_⟩
    have cL := same_new (o := .lst []) hL
    have eL := upd_same (H := H4) (a := L) (o := .lst [])
    have W5 := W.same cL
    have tl5 := tl_same tl cL
    have nlL : l ≠ L := fun z => by
      obtain ⟨_, e, _⟩ := tl
      rw [z, hL] at e
      cases e
    generalize upd H4 L (.lst []) = H5 at *
    clear hL cL W tl H4
    dsimp only [gName]
    refine nice (σ' := [some (.ref a), some (.int seed), some (.int (m : Int)), some (.ref pl), some (.ref p), some (.ref l), some (.int kind), some (.ref L), none, none, none, none, none, none, none, none]) rfl ?_
    obtain ⟨vs, el, tv⟩ := tl5
    have lv : vs.length = rows.length := by rw [tups_len tv, List.length_map]
    refine ⟨_, rfl, l, vs, rfl, SqL.of el, for_it walk_enum (fun i σ H' => ∃ (ws : List TRow) (u8 u9 u10 u11 u12 : Option V), σ = [some (.ref a), some (.int seed), some (.int (m : Int)), some (.ref pl), some (.ref p), some (.ref l), some (.int kind), some (.ref L), u8, u9, u10, u11, u12, none, none, none] ∧ TownAt (gA K "Town") H' p d m rows n ∧ TL H' l (rows.map rowV) ∧ H' l = some (.lst vs) ∧ TL H' L (ws.map rowV) ∧ ws.map normR = (rows.take i).map normR)
      ⟨[], none, none, none, none, none, rfl, W5, ⟨vs, el, tv⟩, el, ⟨[], eL, .nil⟩, rfl⟩ (fun i σ H' _ ⟨_, _, _, _, _, _, _, _, _, z, _⟩ => SqL.of z) ?_ ?_⟩
    · rintro i x σ H6 H7 hi ⟨ws, u8, u9, u10, u11, u12, rfl, W6, tl6, el6, tw6, ew⟩ ⟨t, ka, za, rfl, ht, rfl, hk, hz⟩
      cases hk
      obtain ⟨vs', el6', tv6⟩ := id tl6
      rw [el6] at el6'
      cases el6'
      obtain ⟨tr, xs, rfl, hxs, htr⟩ := tups_get tv6 hz
      obtain ⟨rr, hrr⟩ : ∃ rr, rows[i]? = some rr := ⟨_, List.getElem?_eq_getElem (by omega)⟩
      rw [List.getElem?_map, hrr] at hxs
      cases hxs
      have ct := same_new (o := .tup [.int (i : Int), .ref tr]) ht
      have et := upd_same (H := H6) (a := t) (o := .tup [.int (i : Int), .ref tr])
      have htr7 := ct _ _ htr
      have W7 := W6.same ct
      have tl7 := tl_same tl6 ct
      have tw7 := tl_same tw6 ct
      have el7 := ct _ _ el6
      generalize upd H6 t (.tup [.int (i : Int), .ref tr]) = H8 at *
      refine ⟨t, _, rfl, SqT.of et, rfl, _, _, rfl, _, _, rfl, tr, _, rfl, SqT.of htr7, rfl, _, _, rfl, _, _, rfl, _, _, rfl, rfl, rfl, ?_⟩
      have lws : ws.length = i := by
        have z := congrArg List.length ew
        rw [List.length_map, List.length_map, List.length_take] at z
        omega
      refine ⟨_, rfl, _, rfl, _, _, rfl, rfl, seed, _, rfl, fseed, by omega, by omega, fun g g0 g1 => ?_⟩
      refine ⟨_, _, rfl, rfl, (by show (0 : Int) < 2; decide), rfl, _, rfl, _, _, rfl, rfl, _, rfl, _, _, rfl, rfl, (by omega), _, rfl, rfl, _, rfl, _, rfl, _, _, rfl, rfl, (by show 3 ≤ sizeLine; decide), fun bl hbl => ?_⟩
      have cb : ∀ o, Same H8 (upd H8 bl o) := fun o => same_new hbl
      refine ⟨_, rfl, ix3 upd_same r3 fun b => ?_⟩
      refine (fun (go : ∀ H9, Same H8 H9 → (_ : Hp → Prop) H9) => go _ (cb _)) ?_
      intro H9 sm9
      have W9 := W7.same sm9
      have tl9 := tl_same tl7 sm9
      have el9 := sm9 _ _ el7
      obtain ⟨vw, ew9, tw9⟩ := tl_same tw7 sm9
      have lvw : vw.length = ws.length := by rw [tups_len tw9, List.length_map]
      have step : ∀ (z : TRow) (g : Addr) (H10 : Hp), normR z = normR rr → Same H9 H10 → H10 g = some (.tup (rowV z)) → TownAt (gA K "Town") (upd H10 L (.lst (vw ++ [V.ref g]))) p d m rows n ∧ TL (upd H10 L (.lst (vw ++ [V.ref g]))) l (rows.map rowV) ∧ upd H10 L (.lst (vw ++ [V.ref g])) l = some (.lst vs) ∧ TL (upd H10 L (.lst (vw ++ [V.ref g]))) L ((ws ++ [z]).map rowV) ∧ (ws ++ [z]).map normR = (rows.take (i + 1)).map normR := fun z g H10 hz s10 hg => by
        have e10 := s10 _ _ ew9
        refine ⟨town_over (W9.same s10) e10, tl_over (tl_same tl9 s10) e10 nlL, by rw [upd_ne nlL]; exact s10 _ _ el9, ⟨_, upd_same, ?_⟩, ?_⟩
        · rw [List.map_append]
          refine tups_snoc ?_ (tups_over e10 (tups_ext (fun t xs e => s10 _ _ e) tw9))
          rw [upd_ne (ne_of hg e10 (by intro z; cases z))]
          exact hg
        · rw [List.map_append, ew, take_snoc hrr, List.map_append, List.map_cons, List.map_nil, List.map_cons, List.map_nil, hz]
      refine ⟨_, rfl, .inl ⟨rfl, _, SqL.of ew9⟩, _, rfl, b, rfl, ?_⟩
      cases b with
      | true =>
        refine ⟨_, rfl, _, rfl, _, rfl, (by show 3 ≤ sizeLine; decide), fun g hg => ?_⟩
        have cg := same_new (o := .tup (rowV rr)) hg
        obtain ⟨z1, z2, z3, z4, z5⟩ := step rr g _ rfl cg upd_same
        exact ⟨L, vw, _, rfl, rfl, cg _ _ ew9, by rw [lvw, sizeLine_eq]; omega, ws ++ [rr], _, _, _, _, _, rfl, z1, z2, z3, z4, z5⟩
      | false =>
        refine ⟨_, rfl, _, rfl, _, rfl, (by show 3 ≤ sizeLine; decide), fun g hg => ?_⟩
        have cg := same_new (o := .tup (rowV (flipR rr))) hg
        obtain ⟨z1, z2, z3, z4, z5⟩ := step (flipR rr) g _ (normR_flipR rr) cg upd_same
        exact ⟨L, vw, _, rfl, rfl, cg _ _ ew9, by rw [lvw, sizeLine_eq]; omega, ws ++ [flipR rr], _, _, _, _, _, rfl, z1, z2, z3, z4, z5⟩
    · rintro σ H6 ⟨ws, u8, u9, u10, u11, u12, rfl, W6, tl6, el6, tw6, ew⟩
      rw [List.take_of_length_le (by omega)] at ew
      obtain ⟨vw, ewl, tw⟩ := tw6
      have lws : ws.length = rows.length := by
        have z := congrArg List.length ew
        rw [List.length_map, List.length_map] at z
        exact z
      have lvw : vw.length = ws.length := by rw [tups_len tw, List.length_map]
      have inw : ∀ q ∈ ends ws, q.1 < m ∧ q.2 < m := fun q hq => by
        obtain ⟨x, hx, rfl⟩ := List.mem_map.mp hq
        have mem : normR x ∈ rows.map normR := ew ▸ List.mem_map.mpr ⟨x, hx, rfl⟩
        obtain ⟨y, hy, e⟩ := List.mem_map.mp mem
        have b := inm _ (List.mem_map.mpr ⟨y, hy, rfl⟩)
        rcases norm_iff.mp e.symm with z | z
        · rw [z]
          exact b
        · rw [z]
          exact ⟨b.2, b.1⟩
      -- kept, and what is told of the ways
      refine ⟨_, rfl, L, vw, rfl, .inl (SqL.of ewl), fun kp hkp => ?_⟩
      have ck := same_new (o := .lst vw) hkp
      have ekp := upd_same (H := H6) (a := kp) (o := .lst vw)
      have W7 := W6.same ck
      have tl7 := tl_same tl6 ck
      have tw7 : TL (upd H6 kp (.lst vw)) L (ws.map rowV) := tl_same ⟨vw, ewl, tw⟩ ck
      have tk7 : TL (upd H6 kp (.lst vw)) kp (ws.map rowV) := ⟨vw, ekp, tups_ext (fun t xs e => ck _ _ e) tw⟩
      generalize upd H6 kp (.lst vw) = H7 at *
      clear ck ekp hkp W6 tl6 el6 ewl tw el tv W5 eL
      refine ⟨_, rfl, _, rfl, ?_⟩
      dsimp only [tNil]
      refine is_any_rows _ _ _ _ ⟨p, d, L, m, rows, ws, n, rfl, W7, tw7, by omega, fun H8 sm8 => ?_⟩
      dsimp only [gName]
      refine nice (σ' := [some (.ref a), some (.int seed), some (.int (m : Int)), some (.ref pl), some (.ref p), some (.ref l), some (.int kind), some (.ref L), u8, u9, u10, u11, u12, some (.ref kp), some (.bl (goodB m rows ws)), none]) rfl ?_
      have W8 := W7.same sm8
      have tl8 := tl_same tl7 sm8
      have tw8 := tl_same tw7 sm8
      have tk8 := tl_same tk7 sm8
      clear W7 tl7 tw7 tk7 sm8
      refine at_seqP (fun σ' H' => σ' = [some (.ref a), some (.int seed), some (.int (m : Int)), some (.ref pl), some (.ref p), some (.ref l), some (.int kind), some (.ref L), u8, u9, u10, u11, u12, some (.ref kp), some (.bl (goodB m rows ws)), none] ∧ Same H8 H') ?rest1 fun N hN => ?test1
      case test1 =>
        refine at_ifP (fun b H' => b = false ∧ Same H8 H') (fun H' z => by cases z.1) (fun H' z => hN _ _ ⟨rfl, z.2⟩) fun M hM => ?_
        refine ⟨_, rfl, .inl ⟨.bl (goodB m rows ws), .ty "bool", .type "bool", .type "bool", true, rfl, .ty _, .base (.bl _), by unfold PySem.W.kitOne; rw [if_pos (by decide)], _, rfl, ?_⟩⟩
        refine ⟨_, rfl, _, rfl, _, rfl, _, rfl, m, l, L, rows, ws, rfl, tl8, tw8, inw, m1, m16, few60, by omega, fun H9 sm9 => ⟨rfl, _, rfl, ?_⟩⟩
        rw [show (!decide (V.bl (goodB m rows ws) = V.bl (goodB m rows ws))) = false by simp]
        refine ⟨_, rfl, _, rfl, _, _, dp_town (tl_same tw8 sm9), dp_town (tl_same tk8 sm9), (lay_rows ws).shaped (by decide), (lay_rows ws).shaped (by decide), ?_⟩
        rw [(lay_rows ws).eqv]
        exact ⟨_, rfl, hM _ _ ⟨rfl, sm9⟩⟩
      rintro σ' H9 ⟨rfl, sm9⟩
      have W9 := W8.same sm9
      obtain ⟨vw9, ew9, tv9⟩ := tl_same tw8 sm9
      have lvw9 : vw9.length = ws.length := by rw [tups_len tv9, List.length_map]
      clear W8 tl8 tw8 tk8 sm9 lvw
      -- odd things
      refine ⟨_, rfl, L, vw9, rfl, .inl ⟨SqL.of ew9, fun o1 h1 => ?_⟩⟩
      have c1 := same_new (o := .tup vw9) h1
      have d1 : OddV (upd H9 o1 (.tup vw9)) rows (.ref o1) := .inl ⟨"tuple", by simp only [tyName]; rw [upd_same], by decide⟩
      have W10 := W9.same c1
      have ew10 := c1 _ _ ew9
      have tv10 : Tups (upd H9 o1 (.tup vw9)) vw9 (ws.map rowV) := tups_ext (fun t xs e => c1 _ _ e) tv9
      generalize upd H9 o1 (.tup vw9) = H10 at *
      clear c1 h1 W9 ew9 tv9 H9
      intro o2 h2
      have c2 := same_new (o := .dK []) h2
      have d2 : OddV (upd H10 o2 (.dK [])) rows (.ref o2) := .inl ⟨"dict", by simp only [tyName]; rw [upd_same], by decide⟩
      have d1' := d1.same c2
      have W11 := W10.same c2
      have ew11 := c2 _ _ ew10
      have tv11 : Tups (upd H10 o2 (.dK [])) vw9 (ws.map rowV) := tups_ext (fun t xs e => c2 _ _ e) tv10
      generalize upd H10 o2 (.dK []) = H11 at *
      -- [ways]
      refine ⟨_, rfl, (by show 1 ≤ sizeLine; decide), fun o3 h3 => ?_⟩
      have c3 := same_new (o := .lst [V.ref L]) h3
      have e3 := upd_same (H := H11) (a := o3) (o := .lst [V.ref L])
      have ew12 := c3 _ _ ew11
      have stepL : ∀ H', H' L = some (.lst vw9) → StepV H' (.ref L) := fun H' e => ⟨⟨"list", by simp only [tyName]; rw [e]⟩, fun a xs z y => by
        cases z
        rw [e] at y
        cases y⟩
      have d3 : OddV (upd H11 o3 (.lst [V.ref L])) rows (.ref o3) := .inr ⟨o3, rfl, [V.ref L], e3, fun v hv => by
        rw [List.mem_singleton.mp hv]
        exact stepL _ ew12, fun ws' tw' ew' => by
        cases ws' with
        | nil => cases tw'
        | cons q _ =>
          cases tw' with
          | cons z _ =>
            obtain ⟨t, e, ht⟩ := z
            cases e
            rw [ew12] at ht
            cases ht⟩
      have d1'' := d1'.same c3
      have d2' := d2.same c3
      have W12 := W11.same c3
      have tv12 : Tups (upd H11 o3 (.lst [V.ref L])) vw9 (ws.map rowV) := tups_ext (fun t xs e => c3 _ _ e) tv11
      generalize upd H11 o3 (.lst [V.ref L]) = H12 at *
      -- ways + [None]
      refine ⟨_, rfl, (by show 1 ≤ sizeLine; decide), fun o4 h4 => ?_⟩
      have c4 := same_new (o := .lst [V.non]) h4
      refine ⟨L, o4, _, _, rfl, rfl, c4 _ _ ew12, upd_same, by rw [sizeLine_eq]; show vw9.length + 1 ≤ _; omega, fun o5 h5 => ?_⟩
      have c5 := c4.trans (same_new (o := .lst (vw9 ++ [V.non])) h5)
      have e5 := upd_same (H := upd H12 o4 (.lst [V.non])) (a := o5) (o := .lst (vw9 ++ [V.non]))
      have d1x := d1''.same c5
      have d2x := d2'.same c5
      have d3x := d3.same c5
      have W13 := W12.same c5
      have ew13 := c5 _ _ ew12
      have tv13 : Tups (upd (upd H12 o4 (.lst [V.non])) o5 (.lst (vw9 ++ [V.non]))) vw9 (ws.map rowV) := tups_ext (fun t xs e => c5 _ _ e) tv12
      generalize upd (upd H12 o4 (.lst [V.non])) o5 (.lst (vw9 ++ [V.non])) = H13 at *
      have d5 : OddV H13 rows (.ref o5) := .inr ⟨o5, rfl, badL_len e5 (fun v hv => by
        rcases List.mem_append.mp hv with z | z
        · exact tups_steps tv13 v z
        · rw [List.mem_singleton.mp z]
          exact ⟨⟨"NoneType", rfl⟩, fun a xs e _ => by cases e⟩) (by rw [List.length_append]; show vw9.length + 1 ≠ _; omega)⟩
      refine ⟨(by show 8 ≤ sizeLine; decide), fun o6 h6 => ?_⟩
      have c6 := same_new (o := .lst [.non, .int 5, .ref o1, .ref o2, .str "ways", .ref o3, .bl true, .ref o5]) h6
      have e6 := upd_same (H := H13) (a := o6) (o := .lst [.non, .int 5, .ref o1, .ref o2, .str "ways", .ref o3, .bl true, .ref o5])
      have all6 : ∀ v ∈ ([.non, .int 5, .ref o1, .ref o2, .str "ways", .ref o3, .bl true, .ref o5] : List V), OddV (upd H13 o6 (.lst [.non, .int 5, .ref o1, .ref o2, .str "ways", .ref o3, .bl true, .ref o5])) rows v := fun v hv => by
        simp only [List.mem_cons, List.not_mem_nil, or_false] at hv
        rcases hv with z | z | z | z | z | z | z | z <;> rw [z]
        · exact .inl ⟨_, rfl, by decide⟩
        · exact .inl ⟨_, rfl, by decide⟩
        · exact d1x.same c6
        · exact d2x.same c6
        · exact .inl ⟨_, rfl, by decide⟩
        · exact d3x.same c6
        · exact .inl ⟨_, rfl, by decide⟩
        · exact d5.same c6
      have W14 := W13.same c6
      have ew14 := c6 _ _ ew13
      have tv14 : Tups (upd H13 o6 (.lst [.non, .int 5, .ref o1, .ref o2, .str "ways", .ref o3, .bl true, .ref o5])) vw9 (ws.map rowV) := tups_ext (fun t xs e => c6 _ _ e) tv13
      generalize upd H13 o6 (.lst [.non, .int 5, .ref o1, .ref o2, .str "ways", .ref o3, .bl true, .ref o5]) = H14 at *
      clear d5 d1x d2x d3x d1'' d2' d3 d1' d2 d1 c6 c5 c4 c3 h6 h5 h4 h3 W13 W12 W11 ew13 ew12 ew11 tv13 tv12 tv11
      refine ⟨_, rfl, seed, 4, rfl, fseed, by omega, by omega, fun g g0 g1 => ⟨_, _, rfl, rfl, (by show (0 : Int) < 8; decide), ?_⟩⟩
      have g8 := emod_lt (i := g) (m := 8) (by decide)
      obtain ⟨v, hv1, hv2⟩ := at_lt (xs := ([.non, .int 5, .ref o1, .ref o2, .str "ways", .ref o3, .bl true, .ref o5] : List V)) g8.1 (by show g % 8 < 8; omega)
      have ov := all6 v hv2
      refine ⟨o6, _, _, v, rfl, rfl, SqL.of e6, hv1, ?_⟩
      dsimp only [gName]
      refine nice (σ' := [some (.ref a), some (.int seed), some (.int (m : Int)), some (.ref pl), some (.ref p), some (.ref l), some (.int kind), some (.ref L), u8, u9, u10, u11, u12, some (.ref kp), some (.bl (goodB m rows ws)), some v]) rfl ?_
      clear hv1 hv2 e6 all6
      refine ⟨_, rfl, _, rfl, ?_⟩
      dsimp only [tNil]
      refine any_odd W14 ov fun H15 sm15 => ⟨false, false, rfl, rfl, _, rfl, ?_⟩
      have W15 := W14.same sm15
      have ew15 := sm15 _ _ ew14
      have tw15 : TL H15 L (ws.map rowV) := ⟨vw9, ew15, tups_ext (fun t xs e => sm15 _ _ e) tv14⟩
      clear W14 ew14 tv14 ov
      -- no ways at all
      refine ⟨_, rfl, (by show 0 ≤ sizeLine; decide), fun e1 he1 => ?_⟩
      have ce := same_new (o := .lst []) he1
      refine ⟨_, _, dp_town (tl_same tw15 ce), .lst (SqL.of upd_same) .nil, (lay_rows ws).shaped (by decide), by decide, _, rfl, if_both (fun c => kend _) (fun c => ?_)⟩
      rw [eqv_rows_nil] at c
      have wne : ws ≠ [] := fun z => by
        rw [z] at c
        cases c
      have W16 := W15.same ce
      have ew16 := ce _ _ ew15
      have tw16 := tl_same tw15 ce
      generalize upd H15 e1 (.lst []) = H16 at *
      clear ce he1 W15 ew15 tw15 sm15 c
      have rne : rows ≠ [] := fun z => by
        rw [z] at lws
        exact wne (List.length_eq_zero_iff.mp lws)
      obtain ⟨r0', rest', er0⟩ : ∃ r0' rest', rows = r0' :: rest' := by
        cases rows with
        | nil => exact (rne rfl).elim
        | cons x xs => exact ⟨x, xs, rfl⟩
      have hr0' : rows[0]? = some r0' := by rw [er0]; rfl
      have lo0 : r0'.1 ≤ 1 := lo 0 r0' hr0'
      obtain ⟨vw16, ev16, tv16⟩ := id tw16
      rw [ew16] at ev16
      cases ev16
      obtain ⟨w0, hw0⟩ : ∃ w0, ws[0]? = some w0 := by
        cases ws with
        | nil => exact (wne rfl).elim
        | cons x _ => exact ⟨x, rfl⟩
      obtain ⟨y0, hy0⟩ : ∃ y0, vw9[0]? = some y0 := ⟨_, List.getElem?_eq_getElem (by
        have : 0 < ws.length := List.length_pos_iff.mpr wne
        omega)⟩
      obtain ⟨t0, x0, rfl, hx0, ht0⟩ := tups_get tv16 hy0
      rw [List.getElem?_map, hw0] at hx0
      cases hx0
      have ew0 : normR w0 = normR r0' := by
        have z : (ws.map normR)[0]? = (rows.map normR)[0]? := by rw [ew]
        rw [List.getElem?_map, List.getElem?_map, hw0, hr0'] at z
        exact Option.some.inj z
      have en0 : w0.1 = r0'.1 := norm_num1 ew0
      -- the other way round
      refine at_next ?_
      dsimp only
      refine at_seqP (fun σ' H' => σ' = [some (.ref a), some (.int seed), some (.int (m : Int)), some (.ref pl), some (.ref p), some (.ref l), some (.int kind), some (.ref L), u8, u9, u10, u11, u12, some (.ref kp), some (.bl (goodB m rows ws)), some v] ∧ Same H16 H') ?rest2 fun N hN => ?test2
      case test2 =>
        refine at_ifP (fun b H' => b = false ∧ Same H16 H') (fun H' z => by cases z.1) (fun H' z => hN _ _ ⟨rfl, z.2⟩) fun M hM => ?_
        refine ⟨_, rfl, L, vw9, rfl, .inl (SqL.of ew16), _, _, rfl, rfl, _, rfl, if_both (fun c => ?_) (fun c => hM _ _ ⟨rfl, Same.refl _⟩)⟩
        have c := of_decide_eq_true c
        refine ⟨_, rfl, _, rfl, L, vw9, rfl, SqL.of ew16, fun rv hrv => ?_⟩
        have cr := same_new (o := .lst vw9.reverse) hrv
        dsimp only [tNil]
        obtain ⟨yl, hyl⟩ : ∃ yl, vw9[vw9.length - 1]? = some yl := ⟨_, List.getElem?_eq_getElem (by omega)⟩
        obtain ⟨tl', xl, rfl, hxl, htl⟩ := tups_get tv16 hyl
        obtain ⟨wl, hwl⟩ : ∃ wl, ws[vw9.length - 1]? = some wl := ⟨_, List.getElem?_eq_getElem (by omega)⟩
        rw [List.getElem?_map, hwl] at hxl
        cases hxl
        obtain ⟨rl, hrl⟩ : ∃ rl, rows[vw9.length - 1]? = some rl := ⟨_, List.getElem?_eq_getElem (by omega)⟩
        have ewl' : normR wl = normR rl := by
          have z : (ws.map normR)[vw9.length - 1]? = (rows.map normR)[vw9.length - 1]? := by rw [ew]
          rw [List.getElem?_map, List.getElem?_map, hwl, hrl] at z
          exact Option.some.inj z
        have enl : wl.1 = rl.1 := norm_num1 ewl'
        have less : r0'.1 < rl.1 := by
          have hp := W16.ok.rise
          rw [er0] at hp hrl
          obtain ⟨p1, _⟩ := List.pairwise_cons.mp hp
          obtain ⟨kx, hkx⟩ : ∃ kx, vw9.length - 1 = kx + 1 := ⟨vw9.length - 2, by omega⟩
          rw [hkx] at hrl
          exact p1 rl (List.mem_of_getElem? (by simpa using hrl))
        have bad : BadL (upd H16 rv (.lst vw9.reverse)) rows rv := badL_at (k := 0) upd_same (fun u hu => (tups_steps tv16 u (List.mem_reverse.mp hu)).same cr) (by rw [List.getElem?_reverse (by omega)]; exact hyl) hr0' ((not_tup (H := H16) htl (by show 3 ≤ 1000; decide) (fun u hu => ⟨"int", by simp only [rowV, List.mem_cons, List.not_mem_nil, or_false] at hu; rcases hu with z | z | z <;> rw [z] <;> rfl⟩) fun q hq z => by
          have e1 : q.1 = r0'.1 := norm_num1 z
          have e2 := rowV_inj hq
          rw [e2] at enl
          omega).same cr)
        refine any_odd (W16.same cr) (.inr ⟨rv, rfl, bad⟩) fun H17 sm17 => ⟨false, false, rfl, rfl, _, rfl, hM _ _ ⟨rfl, cr.trans sm17⟩⟩
      rintro σ' H17 ⟨rfl, sm17⟩
      have W17 := W16.same sm17
      have ew17 := sm17 _ _ ew16
      have tw17 := tl_same tw16 sm17
      have tv17 : Tups H17 vw9 (ws.map rowV) := tups_ext (fun t xs e => sm17 _ _ e) tv16
      have ht17 := sm17 _ _ ht0
      clear W16 ew16 tw16 tv16 ht0 sm17
      -- spoilt
      refine at_seq ?_
      refine ⟨(6 : Int), rfl, by decide, by decide, for_it walk_range (fun i σ' H' => ∃ u8 : Option V, σ' = [some (.ref a), some (.int seed), some (.int (m : Int)), some (.ref pl), some (.ref p), some (.ref l), some (.int kind), some (.ref L), u8, u9, u10, u11, u12, some (.ref kp), some (.bl (goodB m rows ws)), some v] ∧ Same H17 H') ⟨_, rfl, Same.refl _⟩ (fun _ _ _ _ _ => trivial) ?_ ?_⟩
      · rintro i x σ H18 H19 hi ⟨u8', rfl, sm18⟩ ⟨rfl, ex⟩
        dsimp only at ex
        rw [Int.zero_add] at ex
        subst ex
        have i6 : i < 6 := by
          have z : (Int.toNat 6) = 6 := rfl
          omega
        have W18 := W17.same sm18
        refine ⟨_, rfl, _, rfl, _, rfl, _, rfl, _, rfl, _, _, rfl, rfl, seed, _, rfl, fseed, by omega, by omega, fun g g0 g1 => ?_⟩
        dsimp only [tNil]
        refine ⟨L, m, g, rows, ws, rfl, tl_same tw17 sm18, ew, fun r hr => ?_, m16, rne, few60, g0, fun bl H20 hbl sm20 bad => ?_⟩
        · obtain ⟨a1, a2, a3⟩ := W18.ok.ends r hr
          obtain ⟨j, hj⟩ := List.getElem?_of_mem hr
          have := lo j r hj
          have := (List.getElem?_eq_some_iff.mp hj).1
          exact ⟨a1, a2, a3, by omega⟩
        · dsimp only [tNil]
          refine any_odd (W18.same sm20) (.inr ⟨bl, rfl, bad⟩) fun H21 sm21 => ⟨false, false, rfl, rfl, _, rfl, ?_⟩
          exact ⟨_, rfl, (sm18.trans sm20).trans sm21⟩
      · rintro σ H18 ⟨u8', rfl, sm18⟩
        have W18 := W17.same sm18
        have ew18 := sm18 _ _ ew17
        have tw18 := tl_same tw17 sm18
        have ht18 := sm18 _ _ ht17
        refine ⟨_, rfl, _, rfl, ?_⟩
        dsimp only [tNil]
        refine ⟨L, ws, rfl, tw18, by omega, fun tr zs H19 htr sm19 etr ttr => ?_⟩
        dsimp only [tNil]
        obtain ⟨yt, hyt⟩ : ∃ yt, zs[0]? = some yt := ⟨_, List.getElem?_eq_getElem (by
          rw [tups_len ttr, List.length_map]
          exact List.length_pos_iff.mpr wne)⟩
        have tyT : ∀ r : TRow, ∀ y ∈ (rowV r).map truthV, ∃ n, tyName y H19 = some n := fun r y hy => by
          obtain ⟨u, hu, rfl⟩ := List.mem_map.mp hy
          simp only [rowV, List.mem_cons, List.not_mem_nil, or_false] at hu
          rcases hu with z | z | z <;> rw [z] <;> (unfold truthV; dsimp only; split <;> exact ⟨_, rfl⟩)
        have bad : BadL H19 rows tr := badL_at (k := 0) etr (fun u hu => ?sv) hyt hr0' ?no
        case sv =>
          obtain ⟨j, hj⟩ := List.getElem?_of_mem hu
          obtain ⟨t, xs, rfl, hxs, ht⟩ := tups_get ttr hj
          rw [List.getElem?_map] at hxs
          cases hw : ws[j]? with
          | none =>
            rw [hw] at hxs
            cases hxs
          | some q =>
            rw [hw] at hxs
            cases hxs
            exact (not_tup (r := (q.1 + 1, q.2)) ht (by show 3 ≤ 1000; decide) (tyT q) fun q' h z => by
              have e1 : q'.1 = q.1 + 1 := norm_num1 z
              have h1 := (List.cons.inj h).1
              unfold truthV at h1
              dsimp only at h1
              split at h1
              · cases h1
              · have := Int.ofNat.inj (V.int.inj h1)
                omega).sv
        case no =>
          obtain ⟨t, xs, rfl, hxs, ht⟩ := tups_get ttr hyt
          rw [List.getElem?_map, hw0] at hxs
          cases hxs
          refine not_tup ht (by show 3 ≤ 1000; decide) (tyT w0) fun q' h z => ?_
          have h1 := (List.cons.inj h).1
          unfold truthV at h1
          dsimp only at h1
          rw [if_pos (by omega)] at h1
          cases h1
        refine any_odd ((W18.same sm19)) (.inr ⟨tr, rfl, bad⟩) fun H20 sm20 => ⟨false, false, rfl, rfl, _, rfl, ?_⟩
        have sm21 := sm19.trans sm20
        have W20 := W18.same sm21
        have ew20 := sm21 _ _ ew18
        have ht20 := sm21 _ _ ht18
        -- a street that is none
        refine ⟨_, rfl, (by show 1 ≤ sizeLine; decide), fun t1 ht1 => ?_⟩
        have c1 := same_new (o := .tup [.int 1000]) ht1
        refine ⟨_, rfl, L, vw9, _, _, rfl, rfl, SqL.of (c1 _ _ ew20), atI_nat (j := 0) hy0, _, rfl, t0, _, rfl, SqT.of (c1 _ _ ht20), (by show ¬ (HT.sIx 3 0 (some 1) = 0 ∧ HT.sIx 3 3 none = 3); decide), fun t2 ht2 => ?_⟩
        have ecut : cutV (rowV w0) (some 1) none = [.int (w0.2.1 : Int), .int (w0.2.2 : Int)] := cut_drop (rowV w0) 1
        rw [ecut]
        have c2 := same_new (o := .tup [.int (w0.2.1 : Int), .int (w0.2.2 : Int)]) ht2
        refine ⟨t1, t2, _, _, rfl, rfl, SqT.of (c2 _ _ upd_same), SqT.of upd_same, (by intro z; cases z), (by show 1 + 2 ≤ sizeLine; decide), (fun z => by cases z), fun _ t3 ht3 => ?_⟩
        have c3 := same_new (o := .tup [.int 1000, .int (w0.2.1 : Int), .int (w0.2.2 : Int)]) ht3
        have e3 := upd_same (H := upd (upd H20 t1 (.tup [.int 1000])) t2 (.tup [.int (w0.2.1 : Int), .int (w0.2.2 : Int)])) (a := t3) (o := .tup [.int 1000, .int (w0.2.1 : Int), .int (w0.2.2 : Int)])
        refine ⟨(by show 1 ≤ sizeLine; decide), fun t4 ht4 => ?_⟩
        have c4 := same_new (o := .lst [.ref t3]) ht4
        have S4 := ((c1.trans c2).trans c3).trans c4
        dsimp only [tNil]
        have bad2 : NotStep (upd (upd (upd H20 t1 (.tup [.int 1000])) t2 (.tup [.int (w0.2.1 : Int), .int (w0.2.2 : Int)])) t3 (.tup [.int 1000, .int (w0.2.1 : Int), .int (w0.2.2 : Int)])) r0' (.ref t3) := not_tup e3 (by show 3 ≤ 1000; decide) (fun u hu => ⟨"int", by simp only [List.mem_cons, List.not_mem_nil, or_false] at hu; rcases hu with z | z | z <;> rw [z] <;> rfl⟩) fun q' h z => by
          have e1 : q'.1 = r0'.1 := norm_num1 z
          have h1 : (1000 : Int) = (q'.1 : Int) := V.int.inj (List.cons.inj h).1
          omega
        refine any_odd (W20.same S4) (.inr ⟨t4, rfl, badL_at (k := 0) upd_same (fun u hu => ?_) rfl hr0' (bad2.same c4)⟩) fun H22 _ => ⟨false, false, rfl, rfl, kend _⟩
        rw [List.mem_singleton.mp hu]
        exact bad2.sv.same c4
end
end K06

set_option Elab.async false
set_option linter.all false
set_option maxRecDepth 100000
set_option maxHeartbeats 4000000
namespace K06
open PySem PySem.Spec PyProof.Rows L2 Own
/-! ### the head -/
def gd (i : Nat) (n : Str) : He.DefD := ⟨(n, none), n, n, defArgs (top i), defBody (top i), defScope (top i), [], []⟩
def md (i j : Nat) (c n q : Str) : He.DefD := ⟨(c, some n), n, q, defArgs (inClass (top i) j), defBody (inClass (top i) j), defScope (inClass (top i) j), [], []⟩
def fn : List He.DefD := [gd 7 "is_whole", gd 8 "walks_from", gd 10 "_is_step_along", gd 11 "is_one_way", md 15 0 "Town" "__init__" "Town.__init__", md 15 1 "Town" "places" "Town.places", md 15 2 "Town" "build" "Town.build", md 15 3 "Town" "dig" "Town.dig", md 15 4 "Town" "streets" "Town.streets", gd 17 "_law_mixed", gd 18 "_law_seed", gd 19 "_law_ends", gd 20 "_law_pairs", gd 21 "_law_many", gd 22 "_law_made", gd 23 "_law_led", gd 24 "_law_good", gd 25 "_law_steps", gd 26 "_law_spoilt", gd 27 "_law_truths", gd 28 "law"]
def gloNames : List Str := ["TownError", "BadCount", "BadPlace", "BadStreet", "TooMany", "Town", "is_whole", "walks_from", "_is_step_along", "is_one_way", "_law_mixed", "_law_seed", "_law_ends", "_law_pairs", "_law_many", "_law_made", "_law_led", "_law_good", "_law_steps", "_law_spoilt", "_law_truths", "law"]
def freeNames : List Str := ["ValueError", "all", "any", "bool", "enumerate", "int", "isinstance", "len", "list", "max", "min", "range", "sorted", "str", "super", "tuple", "type", "zip"]
def fa : List He.Fa := gloNames.map .glo ++ (freeNames.map .free ++ [.int "MOST_PLACES" 16, .int "MOST_STREETS" 60, .cls "Town", .noat "Town" "_many", .noat "Town" "_ends", .noat "Town" "_built", .meth "Town" "build", .meth "Town" "dig", .meth "Town" "streets", .meth "Town" "places", .mkr "Town", .exc "BadCount", .exc "BadPlace", .exc "BadStreet", .exc "TooMany"])
def tf : List He.Defn := []
abbrev P_k06 : Program := PySem.Challenge.rw_onewaytown_k06_ways_looked_at.prog
def ex (K : PySem.W.Frag) : Bool := true
abbrev R_ : PySem.W.OpenRow := PySem.W.OpenLaw.row PySem.Challenge.rw_onewaytown_k06_ways_looked_at
abbrev hk : PySem.W.Hook := He.hookX 7 fa fn [] tf ex
def ob (s : PySem.W.SharedT) : He.AlX := He.obsX 7 fa fn [] tf ex (HandSHeadRun.getT s)
theorem ob_eq (s : PySem.W.SharedT) : ob s = hk.obs s.abs := He.obsX_eq (HandSHeadRun.getT_eq s)
def looseNames : List PySem.Str := ["TownError", "BadCount", "BadPlace", "BadStreet", "TooMany", "Town", "is_whole", "walks_from", "_is_step_along", "is_one_way", "_law_mixed", "_law_seed", "_law_ends", "_law_pairs", "_law_many", "_law_made", "_law_led", "_law_good", "_law_steps", "_law_spoilt", "_law_truths", "MOST_PLACES", "MOST_STREETS"]
theorem run (w : World) : HandSHeadRun.RunEq R_ (PySem.W.view R_.prog [28]) hk ob 6000 looseNames w := by
  intro os
  kernel_rfl
end K06

set_option Elab.async false
set_option linter.all false
set_option maxRecDepth 100000
set_option maxHeartbeats 4000000
namespace K06
open PySem PySem.Spec PyProof.Rows L2 Own
/-! ### the facts, the end -/
def TT_ (K : PySem.W.Frag) : List (Addr × Str) := []
section
variable {w : World} {K : PySem.W.Frag} {h base : Heap} {mg : Str → Option Value}
theorem glo_of (X : K.In h) (G : h.Ns mainGlobals mg) (d : He.SaysD fa fn K) {x : Str} (hx : x ∈ gloNames) : mg x = some (.ref (gA K x)) := He.glo_ok X G (d.facts (List.mem_append_left _ (List.mem_map_of_mem hx)))
theorem free_of (X : K.In h) (G : h.Ns mainGlobals mg) (d : He.SaysD fa fn K) {x : Str} (hx : x ∈ freeNames) : mg x = none := He.free_ok X G (d.facts (List.mem_append_right _ (List.mem_append_left _ (List.mem_map_of_mem hx))))
theorem txt_of (X : K.In h) (G : h.Ns mainGlobals mg) (d : He.SaysD fa fn K) : Txt K mg := by
  have err : ∀ {x : Str}, x ∈ gloNames → (He.Fa.exc x).ok K = true → ErrT K mg x := fun hx e => by
    obtain ⟨e1, e2, e3, e4⟩ := He.exc_ok e
    exact ⟨glo_of X G d hx, e1, e2, e3, e4⟩
  refine ⟨free_of X G d (by decide +kernel), free_of X G d (by decide +kernel), free_of X G d (by decide +kernel), ?_, ?_, He.cls_ok (d.fact 42 (f := .cls "Town") rfl), He.noat_ok (d.fact 43 (f := .noat "Town" "_many") rfl), He.noat_ok (d.fact 44 (f := .noat "Town" "_ends") rfl), He.noat_ok (d.fact 45 (f := .noat "Town" "_built") rfl),
    err (by decide +kernel) (d.fact 51 (f := .exc "BadCount") rfl), err (by decide +kernel) (d.fact 52 (f := .exc "BadPlace") rfl), err (by decide +kernel) (d.fact 53 (f := .exc "BadStreet") rfl), err (by decide +kernel) (d.fact 54 (f := .exc "TooMany") rfl)⟩
  · obtain ⟨t, e⟩ := He.int_ok X G (d.fact 40 (f := .int "MOST_PLACES" 16) rfl)
    exact ⟨_, e, t, rfl⟩
  · obtain ⟨t, e⟩ := He.int_ok X G (d.fact 41 (f := .int "MOST_STREETS" 60) rfl)
    exact ⟨_, e, t, rfl⟩
set_option maxHeartbeats 8000000 in
theorem law_at {f : Addr} (X : K.In h) (G : h.Ns mainGlobals mg) (hfa : mg ("law" : Str) = some (.ref f)) (c : He.SaysX fa fn [] tf ex w h K) : LamX.LawAtS PySem.Challenge.rw_onewaytown_k06_ways_looked_at w K (L2.CX P_k06 w) 12 63 "_law_script" mg f h := by
  have d := c.t.d
  have e0 : ex K = true := c.more
  have T := txt_of X G d
  have fr : ∀ {x : Str}, x ∈ freeNames → mg x = none := fun hx => free_of X G d hx
  have g : ∀ {x : Str}, x ∈ gloNames → mg x = some (.ref (gA K x)) := fun hx => glo_of X G d hx
  have TL : TxtL mg := ⟨fr (by decide +kernel), fr (by decide +kernel), fr (by decide +kernel), fr (by decide +kernel)⟩
  have TM : TxtM mg := ⟨TL, fr (by decide +kernel), fr (by decide +kernel)⟩
  have TG : TxtG mg := ⟨fr (by decide +kernel), fr (by decide +kernel), fr (by decide +kernel)⟩
  have TIO : TxtIO mg := ⟨fr (by decide +kernel), fr (by decide +kernel), fr (by decide +kernel), fr (by decide +kernel), fr (by decide +kernel), fr (by decide +kernel), fr (by decide +kernel), fr (by decide +kernel)⟩
  have TSp : TxtSp mg := ⟨fr (by decide +kernel), fr (by decide +kernel), fr (by decide +kernel)⟩
  have TTr : TxtTr mg := ⟨fr (by decide +kernel)⟩
  have T6 : Txt6 mg := ⟨TL, fr (by decide +kernel), fr (by decide +kernel), fr (by decide +kernel), fr (by decide +kernel)⟩
  have ef : f = gA K "law" := by
    have z := hfa.symm.trans (g (x := "law") (by decide +kernel))
    cases z
    rfl
  subst ef
  obtain ⟨_, D_is_whole⟩ := d.def_ 0 (d := gd 7 "is_whole") rfl
  obtain ⟨_, D_walks_from⟩ := d.def_ 1 (d := gd 8 "walks_from") rfl
  obtain ⟨_, D_is_step_along⟩ := d.def_ 2 (d := gd 10 "_is_step_along") rfl
  obtain ⟨_, D_is_one_way⟩ := d.def_ 3 (d := gd 11 "is_one_way") rfl
  obtain ⟨_, D_init⟩ := d.def_ 4 (d := md 15 0 "Town" "__init__" "Town.__init__") rfl
  obtain ⟨_, D_places⟩ := d.def_ 5 (d := md 15 1 "Town" "places" "Town.places") rfl
  obtain ⟨_, D_build⟩ := d.def_ 6 (d := md 15 2 "Town" "build" "Town.build") rfl
  obtain ⟨_, D_dig⟩ := d.def_ 7 (d := md 15 3 "Town" "dig" "Town.dig") rfl
  obtain ⟨_, D_streets⟩ := d.def_ 8 (d := md 15 4 "Town" "streets" "Town.streets") rfl
  obtain ⟨_, D_law_mixed⟩ := d.def_ 9 (d := gd 17 "_law_mixed") rfl
  obtain ⟨_, D_law_seed⟩ := d.def_ 10 (d := gd 18 "_law_seed") rfl
  obtain ⟨_, D_law_ends⟩ := d.def_ 11 (d := gd 19 "_law_ends") rfl
  obtain ⟨_, D_law_pairs⟩ := d.def_ 12 (d := gd 20 "_law_pairs") rfl
  obtain ⟨_, D_law_many⟩ := d.def_ 13 (d := gd 21 "_law_many") rfl
  obtain ⟨_, D_law_made⟩ := d.def_ 14 (d := gd 22 "_law_made") rfl
  obtain ⟨_, D_law_led⟩ := d.def_ 15 (d := gd 23 "_law_led") rfl
  obtain ⟨_, D_law_good⟩ := d.def_ 16 (d := gd 24 "_law_good") rfl
  obtain ⟨_, D_law_steps⟩ := d.def_ 17 (d := gd 25 "_law_steps") rfl
  obtain ⟨_, D_law_spoilt⟩ := d.def_ 18 (d := gd 26 "_law_spoilt") rfl
  obtain ⟨_, D_law_truths⟩ := d.def_ 19 (d := gd 27 "_law_truths") rfl
  obtain ⟨fd, D_law⟩ := d.def_ 20 (d := gd 28 "law") rfl
  have inT : ∀ p ∈ tf, He.cT K p ∈ tf.map (He.cT K) := fun p hp => List.mem_map_of_mem hp
  refine ⟨fd, tf.map (He.cT K), spLaw K (TT_ K), fun p hp => ?_, fun p hp => ?_, fun p hp => ?_, fun s u => ?_, fun H a ns hl hbits hT hS => ⟨a, ns, rfl, hS, fun z hz => fit_bits (hbits z hz), hl, ?_, fun _ => rfl⟩, fun base KB GB TB => ?_⟩
  · obtain ⟨q, hq, rfl⟩ := List.mem_map.mp hp
    exact c.empty q hq
  · obtain ⟨q, hq, rfl⟩ := List.mem_map.mp hp
    exact c.out q hq
  · obtain ⟨q, hq, rfl⟩ := List.mem_map.mp hp
    exact PySem.W.codeHd_of_K X (c.hd q hq)
  · exact D_law.bindsA (ps := ["_law_script"]) (fun _ _ _ _ _ _ us hl => match us, hl with | [_], _ => rfl) s [u] rfl
  · intro q hq
    exact absurd hq List.not_mem_nil
  · have tb : ∀ p ∈ tf, LamX.TabB base mg (He.cT K p).1 (He.cT K p).2 := fun p hp => TB _ (inT p hp)
    have c_is_whole : CalX P_k06 w K mg base 1 "is_whole" spWhole := ⟨_, _, _, ok_is_whole T D_is_whole, g (by decide +kernel), D_is_whole.kp, D_is_whole.bindsN fun _ _ _ _ _ _ us hl => match us, hl with | [_, _, _], _ => rfl⟩
    have c_Town : MakX P_k06 w K mg base 2 "Town" (gA K "Town") (spInit K (gA K "Town")) := ⟨_, _, _, He.mkr_ok (d.fact 50 (f := .mkr "Town") rfl), ok_init T D_init c_is_whole, g (by decide +kernel), D_init.bindsN fun _ _ _ _ _ _ us hl => match us, hl with | [_, _], _ => rfl⟩
    have c_build : MetX P_k06 w K mg base 2 (gA K "Town") "build" (spBuild K (gA K "Town")) := ⟨_, _, _, T.cl, He.meth_ok (d.fact 46 (f := .meth "Town" "build") rfl), ok_build T D_build c_is_whole, D_build.bindsN fun _ _ _ _ _ _ us hl => match us, hl with | [_, _, _], _ => rfl⟩
    have c_dig : MetX P_k06 w K mg base 2 (gA K "Town") "dig" (spDig K (gA K "Town")) := ⟨_, _, _, T.cl, He.meth_ok (d.fact 47 (f := .meth "Town" "dig") rfl), ok_dig T D_dig c_is_whole, D_dig.bindsN fun _ _ _ _ _ _ us hl => match us, hl with | [_, _], _ => rfl⟩
    have c_streets : MetX P_k06 w K mg base 1 (gA K "Town") "streets" (spStreets (gA K "Town")) := ⟨_, _, _, T.cl, He.meth_ok (d.fact 48 (f := .meth "Town" "streets") rfl), ok_streets T D_streets, D_streets.bindsN fun _ _ _ _ _ _ us hl => match us, hl with | [_], _ => rfl⟩
    have c_places : MetX P_k06 w K mg base 1 (gA K "Town") "places" (spPlaces (gA K "Town")) := ⟨_, _, _, T.cl, He.meth_ok (d.fact 49 (f := .meth "Town" "places") rfl), ok_places T D_places, D_places.bindsN fun _ _ _ _ _ _ us hl => match us, hl with | [_], _ => rfl⟩
    have c_walks_from : CalX P_k06 w K mg base 1 "walks_from" spWalks := ⟨_, _, _, ok_walks_from D_walks_from, g (by decide +kernel), D_walks_from.kp, D_walks_from.bindsN fun _ _ _ _ _ _ us hl => match us, hl with | [_, _], _ => rfl⟩
    have c_is_step_along : CalX P_k06 w K mg base 1 "_is_step_along" spAlong := ⟨_, _, _, ok_along TIO D_is_step_along, g (by decide +kernel), D_is_step_along.kp, D_is_step_along.bindsN fun _ _ _ _ _ _ us hl => match us, hl with | [_, _], _ => rfl⟩
    have c_is_one_way : CalX P_k06 w K mg base 2 "is_one_way" (spIsAny (gA K "Town")) := ⟨_, _, _, ok_is_one_way TIO D_is_one_way c_is_step_along c_walks_from c_places c_streets, g (by decide +kernel), D_is_one_way.kp, D_is_one_way.bindsN fun _ _ _ _ _ _ us hl => match us, hl with | [_, _], _ => rfl⟩
    have c_law_mixed : CalX P_k06 w K mg base 1 "_law_mixed" spMixed := ⟨_, _, _, ok_mixed D_law_mixed, g (by decide +kernel), D_law_mixed.kp, D_law_mixed.bindsN fun _ _ _ _ _ _ us hl => match us, hl with | [_, _], _ => rfl⟩
    have c_law_seed : CalX P_k06 w K mg base 2 "_law_seed" (spSeed K) := ⟨_, _, _, ok_seed TL D_law_seed c_law_mixed, g (by decide +kernel), D_law_seed.kp, D_law_seed.bindsN fun _ _ _ _ _ _ us hl => match us, hl with | [_], _ => rfl⟩
    have c_law_ends : CalX P_k06 w K mg base 1 "_law_ends" spEnds := ⟨_, _, _, ok_ends TL D_law_ends, g (by decide +kernel), D_law_ends.kp, D_law_ends.bindsN fun _ _ _ _ _ _ us hl => match us, hl with | [_, _, _, _], _ => rfl⟩
    have c_law_pairs : CalX P_k06 w K mg base 4 "_law_pairs" (spPairs K) := ⟨_, _, _, (ok_pairs TL D_law_pairs c_law_mixed c_law_ends).mono (by decide), g (by decide +kernel), D_law_pairs.kp, D_law_pairs.bindsN fun _ _ _ _ _ _ us hl => match us, hl with | [_, _, _, _], _ => rfl⟩
    have c_law_many : CalX P_k06 w K mg base 2 "_law_many" spMany := ⟨_, _, _, ok_many TL D_law_many c_law_mixed, g (by decide +kernel), D_law_many.kp, D_law_many.bindsN fun _ _ _ _ _ _ us hl => match us, hl with | [_, _], _ => rfl⟩
    have c_law_made : CalX P_k06 w K mg base 4 "_law_made" (spMade (gA K "Town")) := ⟨_, _, _, ok_made TL D_law_made c_law_mixed c_Town c_build c_dig, g (by decide +kernel), D_law_made.kp, D_law_made.bindsN fun _ _ _ _ _ _ us hl => match us, hl with | [_, _, _], _ => rfl⟩
    have c_law_led : CalX P_k06 w K mg base 1 "_law_led" spLed := ⟨_, _, _, ok_led TG D_law_led, g (by decide +kernel), D_law_led.kp, D_law_led.bindsN fun _ _ _ _ _ _ us hl => match us, hl with | [_, _], _ => rfl⟩
    have c_law_good : CalX P_k06 w K mg base 2 "_law_good" spGood := ⟨_, _, _, ok_good TM D_law_good c_law_led, g (by decide +kernel), D_law_good.kp, D_law_good.bindsN fun _ _ _ _ _ _ us hl => match us, hl with | [_, _, _], _ => rfl⟩
    have c_law_spoilt : CalX P_k06 w K mg base 1 "_law_spoilt" spSpoilt := ⟨_, _, _, ok_spoilt TSp D_law_spoilt, g (by decide +kernel), D_law_spoilt.kp, D_law_spoilt.bindsN fun _ _ _ _ _ _ us hl => match us, hl with | [_, _, _], _ => rfl⟩
    have c_law_truths : CalX P_k06 w K mg base 1 "_law_truths" spTruths := ⟨_, _, _, ok_truths TTr D_law_truths, g (by decide +kernel), D_law_truths.kp, D_law_truths.bindsN fun _ _ _ _ _ _ us hl => match us, hl with | [_], _ => rfl⟩
    exact ok_law (T_ := TT_ K) T6 D_law c_law_mixed c_law_seed c_law_many c_law_pairs c_law_made c_law_good c_law_spoilt c_law_truths c_is_one_way
end
end K06

set_option Elab.async false
set_option linter.all false
set_option maxRecDepth 100000
set_option maxHeartbeats 4000000
namespace K06
open PySem PySem.Spec PyProof.Rows L2 Own
end K06
open PySem PySem.W PySem.Calls PyProof.Rows
theorem PySem.Challenge.cw_onewaytown_k06_ways_looked_at_holds : PySem.Challenge.rw_onewaytown_k06_ways_looked_at.Holds := by
  w_on; o_law
  refine HandSHeadRun.head_any (r := OpenLaw.row PySem.Challenge.rw_onewaytown_k06_ways_looked_at) (q := view (OpenLaw.row PySem.Challenge.rw_onewaytown_k06_ways_looked_at).prog [28]) (H := K06.hk) (ob := K06.ob) (M := 6000) (loose := K06.looseNames) (d := HandSHeadRun.topDef (OpenLaw.row PySem.Challenge.rw_onewaytown_k06_ways_looked_at).prog 28) (kwd := []) K06.ob_eq
    (by kernel_rfl) (fun s => by kernel_rfl) K06.run (by kernel_rfl) (by kernel_rfl) (by kernel_rfl) (by rfl) (by first | assumption | decide +kernel) (by decide +kernel) ⟨rfl, rfl, rfl, rfl, rfl, by decide +kernel⟩ ?hw ?hc
  case hw => w_witness2
  case hc =>
    refine LamX.walk_ofTsE (l := PySem.Challenge.rw_onewaytown_k06_ways_looked_at) (n := 63) (k := 12) (x := "_law_script") (CX := fun w => L2.CX K06.P_k06 w) rfl (by decide) (by kernel_rfl) ⟨rfl, by decide, by decide⟩ ?F (fun w H s e s' z => by
      obtain ⟨_, _, _, _, _, _, _, _, _, _, _, _, q⟩ := z
      exact q)
    intro w mg fa h Y G hmg0
    obtain ⟨K, KX, c⟩ := Y
    have hmg : mg ("law" : PySem.Str) = some (.ref fa) := by
      have e : (HandSHeadRun.topDef (OpenLaw.row PySem.Challenge.rw_onewaytown_k06_ways_looked_at).prog 28).name = ("law" : PySem.Str) := by kernel_rfl
      rw [← e]
      exact hmg0
    exact ⟨K, KX, K06.law_at KX G hmg c⟩

