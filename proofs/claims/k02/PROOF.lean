import PyProof.Rows.All
import Wide.All
import OpenK.AllK
import Wide.FinOn
import PyProof.TypeEq
import PyProof.TypeOfCall
import HandS.ForMost
import HandS.ForExc
import HandS.Lambda
import HandS.Codes
import HandS.Deep
import HandS.IsInst
import HandS.ExcIs
import HandS.ExcValue
import HandS.More
import HandS.Defaults
import HandS.Walk
import HandS.HeadHook4
import HandS.HeadWalk
import HandS.Head2
import PyProof.Rows.SeqMore
import KE.KExcSuper
import KE.KSuper
import HandS.ExcSuper
import HandS.ExcInit
import HandS.ExcField
import PyProof.InstNe
import HandS.Conv
import HandS.DictComp
import HandS.Iter
import KE.KDictZip
import HandS.ListItems
import HandS.TupSets
import HandS.Style
import PySem.Challenge.RW_onewaytown_k02_whole_fewest_streets
set_option Elab.async false
set_option linter.all false
set_option maxRecDepth 100000
set_option maxHeartbeats 4000000
/-! Rules of our own, law-independent: products of script numbers, type(x) == int, an exception kept behind its except clause. -/
namespace Own
open PySem PySem.Spec PyProof.Rows L2
/-! ### products of numbers of a million bits and more -/
def CMulG (i j : Int) : Prop := i.natAbs.log2 + j.natAbs.log2 < 100000000
theorem CMulG.fits {i j : Int} (h : CMulG i j) : IntMulOk i j := by
  have bits : ∀ x : Int, Builtin.Int.intBits x ≤ x.natAbs.log2 + 1 := by
    intro x
    unfold Builtin.Int.intBits
    split <;> omega
  have hi := bits i
  have hj := bits j
  have hs : i.natAbs.log2 + j.natAbs.log2 < 100000000 := h
  have line : bitsLine = 134217728 := by decide
  unfold IntMulOk
  intro big
  rw [Bool.and_eq_true] at big
  have over := big.2
  unfold Builtin.Int.intTooBig at over
  have over2 := of_decide_eq_true over
  rw [line] at over2
  omega
section
variable {X : Cx}
theorem op_mulG : OpR X (binaryOp .Mult) (rI CMulG fun i j => .int (i * j)) :=
  opI fun _ _ _ _ _ _ _ hc q => mul_int q hc.fits
/-! ### type(x), and types compared -/
/-- the name of a thing's kind, where it is one of the kinds that a script's program hands around -/
def tyName : V → Hp → Option String
  | .non, _ => "NoneType"
  | .bl _, _ => "bool"
  | .int _, _ => "int"
  | .str _, _ => "str"
  | .ref p, H => match H p with
    | some (.lst _) | some (.frz _ (.lst _)) => "list"
    | some (.tup _) => "tuple"
    | some (.dK _) => "dict"
    | _ => none
  | _, _ => none
/-- what the name says, in the library's own words of kinds -/
theorem tyName_is (K : PySem.W.Frag) : ∀ {x : V} {H : Hp} {n : String}, tyName x H = some n → TyB K H x n
  | .non, _, _, rfl => .non
  | .bl b, _, _, rfl => .bl b
  | .int i, _, _, rfl => .int i
  | .str z, _, _, rfl => .str z
  | .ref p, H, n, e => by
    unfold tyName at e
    dsimp only at e
    split at e <;> cases e
    · exact .lst (.of ‹_›)
    · exact .lst (.inl (.inr ⟨_, ‹_›⟩))
    · exact .tup (.of ‹_›)
    · exact .dK ‹_›
theorem call_tyOf : CallR X (.type "type") (fun xs H Q => ∃ x n, xs = [x] ∧ tyName x H = some n ∧ Q (.ty n) H) :=
  fun pins s σ H xs us Q I r ⟨x, n, one, e, q⟩ => call_type1 pins s σ H xs us Q I r ⟨x, n, one, tyName_is X.K e, q⟩
/-- the kind n is itself of the kind of kinds -/
def metaOk (n : String) : Prop := ∀ s' : Shared, s'.TypeIs (.type n) "type"
theorem meta_all : metaOk "NoneType" ∧ metaOk "bool" ∧ metaOk "int" ∧ metaOk "str" ∧ metaOk "list" ∧ metaOk "tuple" ∧ metaOk "dict" :=
  open PySem.TypeEq in ⟨meta_NoneType, meta_bool, meta_int, meta_str, meta_list, meta_tuple, meta_dict⟩
theorem tyName_meta {x : V} {H : Hp} {n : String} (e : tyName x H = some n) : metaOk n := by
  obtain ⟨m1, m2, m3, m4, m5, m6, m7⟩ := meta_all
  unfold tyName at e
  (split at e <;> try split at e) <;> cases e <;> assumption
theorem op_eqTy : OpR X (compareOp .Eq) (fun x y H Q => ∃ m n, x = .ty m ∧ y = .ty n ∧ metaOk m ∧ metaOk n ∧ Q (.bl (decide (m = n))) H) := by
  rintro pins s σ H _ _ a b Q I ra rb ⟨m, n, rfl, rfl, hm, hn, q⟩
  obtain rfl : a = .type m := ra
  obtain rfl : b = .type n := rb
  have same := ty_beq m n
  cases e : (Value.type m == Value.type n) <;> rw [e] at same <;> rw [← same] at q
  · exact PySem.TypeEq.eq_type_other hm hn e (fin_bl I q rfl)
  · cases of_decide_eq_true same.symm
    exact PySem.TypeEq.eq_type_same hm (fin_bl I q rfl)
end
end Own

set_option Elab.async false
set_option linter.all false
set_option maxRecDepth 100000
set_option maxHeartbeats 4000000
/-! An exception that stays known behind the except clause that caught it: caught = e. -/
namespace Own
open PySem PySem.Spec PyProof.Rows L2
/-! ### a record, told in one -/
/-- at a stands the record o with the fields vs -/
structure RecAt (h : Heap) (a : Addr) (o : Obj) (vs : Array Value) : Prop where
  at_ : h.get? a = some o
  fl : o.data = .fields vs
/-- at a stands an exception object of the class cls, its own dict d -/
def ExK (cls : Value) (d : Option Addr) (a : Addr) : HO := .ext fun h => ∃ (ob : Obj) (vals : Array Value), h.get? a = some ob ∧ Zc cls d ob ∧ ob.data = .fields vals
section
variable {X : Cx} {pins : List (Addr × Obj)} {σ : L2.St} {H : Hp} {s : Shared}
theorem exK_there {P : Program} {w : World} {h : Heap} {cls : Value} {d : Option Addr} {a : Addr} (hok : HOk P w H h) (e : H a = some (ExK cls d a)) :
    ∃ (ob : Obj) (vals : Array Value), h.get? a = some ob ∧ Zc cls d ob ∧ ob.data = .fields vals :=
  (show ObjOk P w H h a (.ext fun h => ∃ (ob : Obj) (vals : Array Value), h.get? a = some ob ∧ Zc cls d ob ∧ ob.data = .fields vals) from hok a _ e).1
/-- a is none of what the def around leans on -/
structure Fresh (X : Cx) (pins : List (Addr × Obj)) (a : Addr) : Prop where
  entry : ∀ b o, X.s_0.heap.get? b = some o → b ∉ X.ex → b ≠ a
  frame : X.env.locals ≠ a
  cells : ∀ x c, X.env.cells.lookup x = some c → c ≠ a
  pins : ∀ p ∈ X.pn ++ pins, p.1 ≠ a
/-- so is each place that is not there yet -/
theorem Fresh.of {a : Addr} (I : Inv X pins σ H s) (absent : s.heap.get? a = none) : Fresh X pins a := by
  have not : ∀ {b o}, s.heap.get? b = some o → b ≠ a := fun e z => by cases absent.symm.trans ((congrArg s.heap.get? z).symm.trans e)
  refine ⟨fun b o e out => (I.base.there b o e out).elim fun _ q => not q, ?_, fun x c e => ?_, fun p hp => not (I.pin p hp).1⟩
  · obtain ⟨_, ⟨_, _, _, q, _⟩, _⟩ := I.loc
    exact not q
  · obtain ⟨_, _, q, _⟩ := I.cell x c e
    exact not q
/-- what stands at such a place, untracked so far, is tracked from now on -/
theorem track {a : Addr} {u : HO} (I : Inv X pins σ H s) (un : H a = none) (f : Fresh X pins a) (is : ObjOk X.prog X.w (upd H a u) s.heap a u) : Inv X pins σ (upd H a u) s := by
  have still : ∀ {b o}, H b = some o → upd H a u b = some o := fun e => (upd_ne (ne_of_none e un)).trans e
  have off : ∀ {b}, b ≠ a → H b = none → upd H a u b = none := fun n e => (upd_ne n).trans e
  refine ⟨I.ok, I.os, I.bare, ⟨I.base.keep, I.base.slot, fun b o e n out => off (f.entry b o e out) (I.base.free b o e n out), I.base.there, fun b xs e => still (I.base.tups b xs e), fun b o v e => still (I.base.frzs b o v e), fun b ps e => ?_⟩,
    I.loc, I.cell, off f.frame I.free, fun x c e => off (f.cells x c e) (I.freeC x c e), fun p hp => ?_, fun b o e => ?_, I.len⟩
  · obtain ⟨more, z⟩ := I.base.tbls b ps e
    exact ⟨more, still z⟩
  · obtain ⟨p1, p2, rest⟩ := I.pin p hp
    exact ⟨p1, off (f.pins p hp) p2, rest⟩
  · rcases Decidable.em (b = a) with rfl | n
    · cases upd_same.symm.trans e
      exact is
    · rw [upd_ne n] at e
      exact (I.hok b o e).stay (fun _ _ _ q => q) (fun _ q => still q) fun _ _ q => still q
/-- what such a clause wishes of an exception of its body: slot i the clause's name, slot j the keeper -/
def wKept (K : PySem.W.Frag) (c : Value) (fin : L2.St → Addr → L2.St) (out : WX) (D : Ends) : WX := fun cls d σ H =>
  ∃ hit, PySem.W.exmOne K cls c = some hit ∧ (hit = true → ∀ a, H a = none → D.nx (fin σ a) (upd H a (ExK cls d a))) ∧ (hit = false → out cls d σ H)
/-- the slots behind the clause, or less of them -/
def Less (n i j : Nat) (fin : L2.St → Addr → L2.St) : Prop := ∀ (σ : L2.St) (a : Addr), σ.length = n → (fin σ a).length = n ∧ ∀ (k : Nat) (v : V), (fin σ a)[k]? = some (some v) → (((σ.set i (some (.ref a))).set j (some (.ref a))).set i none)[k]? = some (some v)
def allOf (i j : Nat) : L2.St → Addr → L2.St := fun σ a => ((σ.set i (some (.ref a))).set j (some (.ref a))).set i none
theorem allOf_less {n i j : Nat} : Less n i j (allOf i j) := fun σ a h => ⟨by unfold allOf; simpa using h, fun _ _ e => e⟩
/-- the keeper alone -/
def oneOf (n j : Nat) : L2.St → Addr → L2.St := fun _ a => (List.replicate n none).set j (some (.ref a))
theorem oneOf_less {n i j : Nat} (hij : i ≠ j) : Less n i j (oneOf n j) := fun σ a h => by
  refine ⟨by unfold oneOf; simp, fun k v e => ?_⟩
  unfold oneOf at e
  by_cases hk : k = j
  · subst hk
    have lt : k < n := by
      have z := (List.getElem?_eq_some_iff.mp e).1
      simpa using z
    rw [List.getElem?_set_self (by simpa using lt)] at e
    rw [List.getElem?_set_ne hij, List.getElem?_set_self (by simpa [h] using lt)]
    exact e
  · rw [List.getElem?_set_ne (Ne.symm hk)] at e
    rw [List.getElem?_replicate] at e
    split at e <;> simp at e
end
section
variable {prog : Program} {w : World} {h : Heap} {a : Addr} {o : Obj} {vs : Array Value}
theorem RecAt.ty (r : RecAt h a o vs) : PySem.W.Looks (model prog w) h (typeOf (.ref a)) o.cls := fun _ _ _ _ keep q => wpAny_typeOf_ref (keep a o r.at_) q
end
/-! ### records off the frames -/
theorem RecAt.off {B h : Heap} {l : List Env} {a : Addr} {o : Obj} {vs : Array Value} (r : RecAt h a o vs) (ff : h.FunFrames B l) : a ∉ frs l := fun hm => by
  obtain ⟨_, o2, e, no⟩ := ff.mem hm
  cases r.at_.symm.trans e
  exact no vs r.fl
/-- what a pin says of p -/
def PinFacts (X : Cx) (H : Hp) (s : Shared) (p : Addr × Obj) : Prop := s.heap.get? p.1 = some p.2 ∧ H p.1 = none ∧ p.1 ≠ X.env.locals ∧ p.1 ∉ X.fs ∧ ∀ v, p.2.data ≠ .cell v
theorem RecAt.pin {X : Cx} {H : Hp} {s : Shared} {a : Addr} {o : Obj} {vs : Array Value} (r : RecAt s.heap a o vs) (un : H a = none) (hf : X.env.frame = some X.env.locals) (off : a ∉ frs (X.env :: X.outer)) : PinFacts X H s (a, o) := by
  refine ⟨r.at_, un, fun z => off ?_, fun hm => off ?_, fun v z => ?_⟩
  · exact List.mem_filterMap.mpr ⟨X.env, List.mem_cons_self, by rw [hf, ← z]⟩
  · obtain ⟨en, he, q⟩ := List.mem_filterMap.mp hm
    exact List.mem_filterMap.mpr ⟨en, List.mem_cons_of_mem _ he, q⟩
  · exact nomatch r.fl.symm.trans z
/-! ### a try's body, as the def around sees it -/
section
variable {X : Cx} {pins pn : List (Addr × Obj)} {xe : Value → Shared → Prop} {D : Ends} {Wout : WX}
theorem body_out (ok : X.Ok) : ∀ {f : Flow} {s : Shared}, SP (X.tr (X.pn ++ pins) xe) pn D f s → SP X pins D f s
  | .next, _, ⟨_, _, J, q⟩ => ⟨_, _, Inv.ofTry J ok, q⟩
  | .brk, _, ⟨_, _, J, q⟩ => ⟨_, _, Inv.ofTry J ok, q⟩
  | .cont, _, ⟨_, _, J, q⟩ => ⟨_, _, Inv.ofTry J ok, q⟩
  | .ret _, _, ⟨_, _, _, J, rel, q⟩ => ⟨_, _, _, Inv.ofTry J ok, rel, q⟩
/-- the name of a clause's class, read where the exception a is handled -/
theorem clause_name {x : Str} {c : Value} {np : Pos} {a : Addr} {σ : L2.St} {H : Hp} {s : Shared} {Q E : Value → Shared → Prop} (is : Names X x c) (S : Inv (X.suite a pn) pins σ H s) (q : Q c s) :
    wpAny (model X.prog X.w) (X.A.mark (some (.ref a))) (eval (.Name x np) X.env) Q E s := by
  rcases is with ⟨glob, dbg, own | ⟨hidden, built, noName⟩⟩
  · exact ld_glob (X := X.suite a pn) S glob own q dbg
  · exact ld_blt (X := X.suite a pn) S glob hidden built q noName dbg
/-- what no clause names flies on -/
theorem flies_by {B : Heap} {sI s' : Shared} {ps pins : List (Addr × Obj)} {σ : L2.St} {H : Hp} {a : Addr} {cls : Value} {d : Option Addr} {D : Ends} (hs : X.stack = X.env :: X.outer) (hf : X.env.frame = some X.env.locals) (tk : Takes X Wout) (J : Inv X ps σ H sI)
    (ground : ∀ b u, sI.heap.get? b = some u → b ∉ frs X.stack → B.get? b = some u) (upto : sI.heap.UpToSlots s'.heap) (fl : HandSPX.FlyingZ B (X.env :: X.outer) a (Zc cls d) s'.heap) (un : H a = none) (os : s'.os = sI.os) (bare : AllBare s'.gens) (wish : Wout cls d σ H) :
    wpAny (model X.prog X.w) X.A (handleBy (.ref a) X.env []) (SP X pins D) X.xe s' := by
  obtain ⟨_, _, _, o, vs, T, oT, ts, at_, _, rec, traced, _⟩ := id fl
  have end_ : wpAny (model X.prog X.w) X.A (setFlight (.ref a) X.env.frame) (fun _ s2 => wpAny (model X.prog X.w) X.A (throw (.ref a) : Sem Flow) (SP X pins D) X.xe s2) X.xe s' := by
    rw [hf]
    refine HandSPX.setFlight_upZ fl fun h2 held up2 => wpAny_throw (tk _ _ ⟨a, B, sI, ps, σ, H, cls, d, rfl, J, ground, upto.trans up2, .inr (.inr ?_), un, os, bare, wish⟩)
    rw [hs]
    exact held
  refine wpAny_handleBy_nil ?_
  unfold PySem.passOn
  refine wpAny_bind (wpAny_field at_ rec traced ?_)
  rw [if_neg (fun z => by simp at z)]
  first
    | exact wpAny_bind (wpAny_pure (wpAny_bind end_))
    | exact wpAny_bind end_
end
/-- what flies in from the body was not there ahead of it -/
theorem first_seen {X : Cx} {pins : List (Addr × Obj)} {σ : L2.St} {H : Hp} {s : Shared} {B : Heap} {a : Addr} (J : Inv X pins σ H s) (hx : X.ex = []) (ground : ∀ b o, s.heap.get? b = some o → b ∉ frs X.stack → B.get? b = some o) (anew : B.get? a = none) (off : a ∉ frs X.stack) :
    X.s_0.heap.get? a = none ∧ ∀ p ∈ X.pn ++ pins, p.1 ≠ a := by
  have absent : ∀ o, s.heap.get? a ≠ some o := fun o q => nomatch anew.symm.trans (ground a o q off)
  refine ⟨?_, fun p hp z => absent p.2 (z ▸ (J.pin p hp).1)⟩
  cases q : X.s_0.heap.get? a with
  | none => rfl
  | some o =>
    obtain ⟨_, z⟩ := J.base.there a o q (by rw [hx]; exact List.not_mem_nil)
    exact absurd z (absent _)
/-! ### caught = e -/
section
variable {X : Cx} {x n y : Str} {c : Value} {i j : Nat} {body : List Stmt} {np py pn2 pos pos' pos2 : Pos} {tb : WX → TS} {out : WX} {fin : L2.St → Addr → L2.St}
/-- the suite y = n, the exception in slot i: in slot j too, then the clause's name is gone, and the object is known -/
theorem keep_it {a : Addr} {o : Obj} {vs : Array Value} {cls : Value} {d : Option Addr} {pins : List (Addr × Obj)} {σ : L2.St} {H : Hp} {s : Shared} {Q : Flow → Shared → Prop} {E : Value → Shared → Prop} (ok : X.Ok) (hN : X.N.Nodup) (hi : X.N[i]? = some n) (hln : X.env.kindOf n = some .local) (hj : X.N[j]? = some y) (hlj : X.env.kindOf y = some .local)
    (hd1 : (n == ("__debug__" : Str)) = false) (hd2 : (n == ("__classdict__" : Str)) = false) (S : Inv (X.suite a ((a, o) :: (X.pn ++ pins))) [] (σ.set i (some (.ref a))) H s) (kind : Zc cls d o) (rec : o.data = .fields vs) (un : H a = none)
    (new : X.s_0.heap.get? a = none) (nL : a ≠ X.env.locals) (npin : ∀ p ∈ X.pn ++ pins, p.1 ≠ a) (there : i < σ.length)
    (go : ∀ s', Inv X pins ((σ.set i (some (.ref a))).set j (some (.ref a))) (upd H a (ExK cls d a)) s' → Q .next s') :
    wpAny (model X.prog X.w) (X.A.mark (some (.ref a))) (execs [.Assign [.Name y py] (.Name n pn2) pos2] X.env) Q E s := by
  have suite : PSs (X.suite a ((a, o) :: (X.pn ++ pins))) [.Assign [.Name y py] (.Name n pn2) pos2] (tAsg (tVar i) (gName j)) :=
    pss_one (ps_asg (pe_var hi (.inl hln) hd1 hd2) (pg_name hN hj (.inl hlj) (.inr hlj)))
  have read : (σ.set i (some (V.ref a)))[i]? = some (some (.ref a)) := List.getElem?_set_self there
  refine wpAny_mono (suite.run [] s _ H { nx := fun σ' H' => σ' = (σ.set i (some (V.ref a))).set j (some (V.ref a)) ∧ H' = H, rt := fun _ _ => False } S ⟨.ref a, read, rfl, rfl⟩) (fun f s' told => ?_) fun _ _ z => False.elim z
  match f, told with
  | .next, ⟨_, _, S', e1, e2⟩ =>
    subst e1 e2
    have at_ := (S'.pin (a, o) (List.mem_append_left _ (List.mem_cons_self ..))).1
    have J := S'.unsuite ok
    have ncell : ∀ x c, X.env.cells.lookup x = some c → c ≠ a := by
      rintro x c e rfl
      obtain ⟨_, _, is, cel⟩ := J.cell x c e
      cases at_.symm.trans is
      exact nomatch rec.symm.trans cel
    exact go s' (track J un ⟨fun b _ e _ z => (by cases new.symm.trans ((congrArg X.s_0.heap.get? z).symm.trans e)), nL.symm, ncell, npin⟩ ⟨⟨o, vs, at_, kind, rec⟩, ⟨o, at_⟩, fun _ _ ⟨o1, v1, q1, q2⟩ k => ⟨o1, v1, k o1 q1, q2⟩⟩)
  | .brk, ⟨_, _, _, z⟩ => exact z.elim
  | .cont, ⟨_, _, _, z⟩ => exact z.elim
  | .ret _, ⟨_, _, _, _, _, z⟩ => exact z.elim
/-- try: body / except x as n: y = n -/
theorem ps_try_kept (hs : X.stack = X.env :: X.outer) (hf : X.env.frame = some X.env.locals) (hN : X.N.Nodup) (hi : X.N[i]? = some n) (hln : X.env.kindOf n = some .local) (hj : X.N[j]? = some y) (hlj : X.env.kindOf y = some .local) (hc : Names X x c) (hx : X.ex = []) (less : Less X.N.length i j fin) (tk : Takes X out)
    (hb : ∀ (W : WX) (pn : List (Addr × Obj)) (xe : Value → Shared → Prop), Takes (X.tr pn xe) W → PassesOwn (model X.prog X.w) X.A X.env xe → PSs (X.tr pn xe) body (tb W))
    (hd1 : (n == ("__debug__" : Str)) = false := by decide) (hd2 : (n == ("__classdict__" : Str)) = false := by decide) :
    PS X (.Try body [.ExceptHandler (some (.Name x np)) (some n) [.Assign [.Name y py] (.Name n pn2) pos2] pos'] [] [] pos) (fun D σ H => tb (wKept X.K c fin out D) D σ H) := by
  refine ⟨fun pins s σ H D I wish => wpAny_Try_except ?_⟩
  have ok := I.ok
  have run := hb (wKept X.K c fin out D) (X.pn ++ pins) (fun e s1 => wpAny (model X.prog X.w) X.A (noteFrame e X.env) (fun _ s2 => wpAny (model X.prog X.w) X.A (setFlight e none) (fun _ s3 =>
    wpAny (model X.prog X.w) X.A (handleBy e X.env [.ExceptHandler (some (.Name x np)) (some n) [.Assign [.Name y py] (.Name n pn2) pos2] pos']) (SP X pins D) X.xe s3) X.xe s2) X.xe s1) ?caught PassesOwn.looking
  case caught =>
    rintro _ s' ⟨a, B, sI, ps', σ', H', cls, d, rfl, J0, ground, upto, sky, un, os, bare, hit, names, yes, no⟩
    have J : Inv X pins σ' H' sI := Inv.ofTry J0 ok
    rw [show (X.tr (X.pn ++ pins) _).stack = X.env :: X.outer from hs] at sky
    refine Sky.land (s := s') Zc.steady (ok.frames.trans (congrArg some hs)) hf sky fun h3 fl3 up3 => ?_
    obtain ⟨o3, v3, at3, kind3, rec3⟩ := fl3.there
    have off := RecAt.off ⟨at3, rec3⟩ fl3.2.2.1
    obtain ⟨_, _, nL, nF, _⟩ := RecAt.pin (s := { s' with heap := h3 }) ⟨at3, rec3⟩ un hf off
    obtain ⟨new, npin⟩ := first_seen J hx ground fl3.2.1 (by rw [hs]; exact off)
    have S3 := (J.landed (s' := { s' with heap := h3 }) ground fl3.1 (upto.trans up3) os bare).suite at3 rec3 un nL nF
    have isOf := RecAt.ty (prog := X.prog) (w := X.w) (h := h3) ⟨at3, rec3⟩
    rw [kind3.1] at isOf
    refine wpAny_handleBy_cons (codeAny_handlers_test (clause_name hc S3 ((PySem.W.exm_one (M := model X.prog X.w) S3.kIn isOf names).here ?_))) (fun z => nomatch z)
    cases hit with
    | false => exact flies_by (s' := { s' with heap := h3 }) hs hf tk J ground (upto.trans up3) fl3 un os bare (no rfl)
    | true =>
      refine codeAny_handlers_suite_as (HandSPX.lands_againZ fl3 fun h4 fl4 up4 => ?_)
      obtain ⟨o4, v4, at4, kind4, rec4⟩ := fl4.there
      have S4 := (J.landed (s' := { s' with heap := h4 }) ground fl4.1 ((upto.trans up3).trans up4) os bare).suite at4 rec4 un nL nF
      have room : i < σ'.length := J.len ▸ (List.getElem?_eq_some_iff.mp hi).1
      refine store_ok (X := X.suite a ((a, o4) :: (X.pn ++ pins))) (v := .ref a) S4 hN hi (.inl hln) rfl (fun s5 S5 => ?_) (.inr hln)
      refine keep_it ok hN hi hln hj hlj hd1 hd2 S5 kind4 rec4 un new nL npin room fun s6 known => ?_
      obtain ⟨long, less'⟩ := less σ' a J.len
      exact gone_ok known hN hi hln fun s7 J7 => ⟨_, _, J7.weak (by rw [long, ← J.len, List.length_set, List.length_set, List.length_set]) less', yes rfl a un⟩
  refine wpAny_mono (run.run [] s σ H D (I.toTry _) wish) (fun f s1 told => ?_) fun _ _ z => z
  cases f with
  | next => exact wpAny_execs_nil (body_out ok told)
  | _ => exact body_out ok told
end
/-! ### isinstance of such an exception -/
section
variable {X : Cx}
/-- isinstance(e, C), e an exception without a dict of its own -/
def rIsK (K : PySem.W.Frag) : List V → Hp → VK → Prop := fun xs H Q => ∃ (a D : Addr) (c : V) (cv : Value) (b : Bool), xs = [.ref a, c] ∧ H a = some (ExK (.ref D) none a) ∧ ExcC K D ∧ (∀ u, RelV c u → u = cv) ∧ PySem.W.kitOne K (.ref D) cv = some b ∧ Q (.bl b) H
theorem ref_and {a : Addr} {c : V} : ∀ {us : List Value}, Vals [.ref a, c] us → ∃ u, us = [.ref a, u] ∧ RelV c u
  | _, .cons rfl (.cons rc .nil) => ⟨_, rfl, rc⟩
/-- one without a dict of its own, as an instance -/
theorem exK_bare {D a : Addr} {h : Heap} {P : Program} {w : World} (hok : HOk P w H h) (ea : H a = some (ExK (.ref D) none a)) : ∃ ob, PySem.W.InstAt h a ob D none := by
  obtain ⟨⟨_, _, _, _⟩, _, there, ⟨rfl, rfl, _⟩, rfl⟩ := exK_there hok ea
  exact ⟨_, there, rfl, rfl, trivial⟩
theorem call_isK : CallR X (.builtin "isinstance") (rIsK X.K) := by
  rintro pins s σ H _ us Q I r ⟨a, D, c, cv, b, rfl, ea, C, one, told, q⟩
  obtain ⟨u, rfl, ru⟩ := ref_and r
  obtain rfl := one u ru
  obtain ⟨ob, inst⟩ := exK_bare I.hok ea
  have kit := PySem.W.handS_kitx_exc (x := a) (ox := ob) C.hg C.hk C.hs C.hd C.ha C.hn C.ht C.hm
  exact PySem.W.kia_one kit I.kIn inst told (fun z => nomatch z) fun tk => fin_bl (I.tok tk) q rfl
/-- isinstance(x, C), x None or such an exception -/
theorem call_isBoth : CallR X (.builtin "isinstance") (fun xs H Q => rIsi X.K xs H Q ∨ rIsK X.K xs H Q) :=
  fun pins s σ H xs us Q I r h => h.elim (call_isi pins s σ H xs us Q I r) (call_isK pins s σ H xs us Q I r)
end
end Own

set_option Elab.async false
set_option linter.all false
set_option maxRecDepth 100000
set_option maxHeartbeats 4000000
/-! Callees as one thing: a def of the module, a method, a class that is made; those that may raise. -/
namespace Own
open PySem PySem.Spec PyProof.Rows L2
abbrev EF : XK := fun _ _ _ => False
theorem passF {P : Program} {w : World} {X : Cx} : Passes (L2.CX P w) X EF := fun _ _ _ _ _ _ _ c => by
  obtain ⟨_, _, _, _, _, _, _, _, _, _, _, _, z⟩ := c
  exact z.elim
section
variable (P : Program) (w : World) (K : PySem.W.Frag) (mg : Str → Option Value) (base : Heap)
structure CalX (k : Nat) (x : Str) (sp : Sp) : Prop where
  ex : ∃ (f : Addr) (fd : FuncData) (ps : List Str), FnOk P w K mg base (L2.CX P w) k f fd ps sp ∧ mg x = some (.ref f) ∧ PySem.W.keepIn K (.ref f) = true ∧ Binds K fd ps []
structure MetX (k : Nat) (C : Addr) (m : Str) (sp : Sp) : Prop where
  ex : ∃ (f : Addr) (fd : FuncData) (ps : List Str), Cls K C ∧ Meth K C m f ∧ FnOk P w K mg base (L2.CX P w) k f fd ps sp ∧ Binds K fd ps []
structure MakX (k : Nat) (x : Str) (C : Addr) (sp : Sp) : Prop where
  ex : ∃ (f : Addr) (fd : FuncData) (ps : List Str), Mk K C f ∧ FnOk P w K mg base (L2.CX P w) k f fd ps sp ∧ mg x = some (.ref C) ∧ Binds K fd ps []
end
/-- a def that lets nothing out, as one that may -/
theorem lift0 {P : Program} {w : World} {K : PySem.W.Frag} {mg : Str → Option Value} {base : Heap} {k : Nat} {f : Addr} {fd : FuncData} {ps : List Str} {sp : Sp} (F : FnOk P w K mg base CX0 k f fd ps sp) : FnOk P w K mg base (L2.CX P w) k f fd ps sp := by
  refine ⟨F.len, fun A outer s H args us vs Q E hr e0 hb hv h => codeAny_mono (F.run A outer s H args us vs Q E hr e0 hb hv h) fun r s' hq => ?_⟩
  cases r with
  | error e => exact (show False from hq).elim
  | ok fl =>
    cases fl with
    | ret u => exact hq
    | next => exact (show False from hq).elim
    | brk => exact (show False from hq).elim
    | cont => exact (show False from hq).elim
end Own

set_option Elab.async false
set_option linter.all false
set_option maxRecDepth 100000
set_option maxHeartbeats 4000000
/-! Lists of tuples in the heap; numbers as whole numbers of a range. -/
namespace Own
open PySem PySem.Spec PyProof.Rows L2
theorem tyName_int {x : V} {H : Hp} (e : tyName x H = some "int") : ∃ i, x = .int i := by
  have no : ∀ {n : String}, n ≠ "int" → some n = some "int" → False := fun h z => h (Option.some.inj z)
  cases x with
  | int i => exact ⟨i, rfl⟩
  | ref p =>
    simp only [tyName] at e
    split at e
    · exact (no (by decide) e).elim
    · exact (no (by decide) e).elim
    · exact (no (by decide) e).elim
    · exact (no (by decide) e).elim
    · cases e
  | byt y => cases e
  | flt y => cases e
  | ty y => cases e
  | _ => exact (no (by decide) e).elim
/-- is_whole's answer -/
def isW (x : V) (lo hi : Int) : Bool := match x with
  | .int i => decide (lo ≤ i) && decide (i ≤ hi)
  | _ => false
theorem isW_int {x : V} {lo hi : Int} (h : isW x lo hi = true) : ∃ i, x = .int i ∧ lo ≤ i ∧ i ≤ hi := by
  cases x with
  | int i =>
    have z : (decide (lo ≤ i) && decide (i ≤ hi)) = true := h
    rw [Bool.and_eq_true, decide_eq_true_eq, decide_eq_true_eq] at z
    exact ⟨i, rfl, z.1, z.2⟩
  | _ => cases h
theorem isW_nat {x : V} {n : Nat} (h : isW x 0 ((n : Int) - 1) = true) : ∃ i : Nat, x = .int (i : Int) ∧ i < n := by
  obtain ⟨i, rfl, h1, h2⟩ := isW_int h
  refine ⟨i.toNat, ?_, by omega⟩
  rw [Int.toNat_of_nonneg h1]
theorem isW_true {i lo hi : Int} (h1 : lo ≤ i) (h2 : i ≤ hi) : isW (.int i) lo hi = true := by
  show (decide (lo ≤ i) && decide (i ≤ hi)) = true
  rw [decide_eq_true h1, decide_eq_true h2]
  rfl
/-- the values are references to these tuples -/
abbrev Tups (H : Hp) : List V → List (List V) → Prop := Paired fun v xs => ∃ t, v = V.ref t ∧ H t = some (.tup xs)
theorem tups_ext {H H' : Hp} (k : ∀ t xs, H t = some (.tup xs) → H' t = some (.tup xs)) : ∀ {vs : List V} {xss : List (List V)}, Tups H vs xss → Tups H' vs xss
  | _, _, .nil => .nil
  | _, _, .cons ⟨t, e, h⟩ r => .cons ⟨t, e, k t _ h⟩ (tups_ext k r)
theorem tups_snoc {H : Hp} {t : Addr} {xs : List V} (h : H t = some (.tup xs)) : ∀ {vs : List V} {xss : List (List V)}, Tups H vs xss → Tups H (vs ++ [V.ref t]) (xss ++ [xs])
  | _, _, .nil => .cons ⟨t, rfl, h⟩ .nil
  | _, _, .cons r q => .cons r (tups_snoc h q)
theorem tups_get {H : Hp} : ∀ {vs : List V} {xss : List (List V)} {i : Nat} {v : V}, Tups H vs xss → vs[i]? = some v → ∃ t xs, v = V.ref t ∧ xss[i]? = some xs ∧ H t = some (.tup xs)
  | _, _, _, _, .nil, e => by simp at e
  | _, _, 0, _, .cons ⟨t, e, h⟩ _, q => by
    simp at q
    exact ⟨t, _, by rw [← q, e], rfl, h⟩
  | _, _, i + 1, v, .cons _ r, q => by
    obtain ⟨t, xs, h1, h2, h3⟩ := tups_get (i := i) (v := v) r (by simpa using q)
    exact ⟨t, xs, h1, by simpa using h2, h3⟩
theorem tups_len {H : Hp} {vs : List V} {xss : List (List V)} (h : Tups H vs xss) : vs.length = xss.length := Paired.length h
/-- at l a list of these tuples -/
def TL (H : Hp) (l : Addr) (xss : List (List V)) : Prop := ∃ vs, H l = some (.lst vs) ∧ Tups H vs xss
theorem same_new {H : Hp} {p : Addr} {o : HO} (n : H p = none) : Same H (upd H p o) := fun b u e => by
  rw [upd_ne (ne_of_none e n)]
  exact e
theorem upd_none {H : Hp} {p d : Addr} {o : HO} (h : upd H p o d = none) : d ≠ p ∧ H d = none := by
  by_cases e : d = p
  · rw [e, upd_same] at h
    cases h
  · rw [upd_ne e] at h
    exact ⟨e, h⟩
theorem take_snoc {α : Type} : ∀ {l : List α} {i : Nat} {x : α}, l[i]? = some x → l.take (i + 1) = l.take i ++ [x]
  | [], i, x, h => by simp at h
  | a :: l, 0, x, h => by
    simp at h
    simp [h]
  | a :: l, i + 1, x, h => by
    have ih := take_snoc (l := l) (i := i) (x := x) (by simpa using h)
    rw [List.take_succ_cons, ih]
    rfl
/-! ### lookups in written lists of attributes -/
theorem at_here {k : Str} {v : V} {r : List (Str × V)} : List.lookup k ((k, v) :: r) = some v := by
  simp [List.lookup]
theorem at_past {k g : Str} {v : V} {r : List (Str × V)} (h : (k == g) = false) : List.lookup k ((g, v) :: r) = List.lookup k r := by
  simp only [List.lookup, h]
theorem to_here {f : Str} {v x : V} {r : List (Str × V)} : putF f v ((f, x) :: r) = (f, v) :: r := if_pos rfl
theorem to_past {f g : Str} {v x : V} {r : List (Str × V)} (h : ¬ g = f) : putF f v ((g, x) :: r) = (g, x) :: putF f v r := if_neg h
/-! ### ifs over known tests -/
theorem if_yes {c : Bool} {A B : Prop} (hc : c = true) (h : A) : if c = true then A else B := by
  rw [if_pos hc]
  exact h
theorem if_no {c : Bool} {A B : Prop} (hc : c = false) (h : B) : if c = true then A else B := by
  rw [hc, if_neg Bool.false_ne_true]
  exact h
theorem if_both {c : Bool} {A B : Prop} (h1 : c = true → A) (h2 : c = false → B) : if c = true then A else B := by
  cases c with
  | true => exact if_yes rfl (h1 rfl)
  | false => exact if_no rfl (h2 rfl)
/-! ### a town -/
abbrev TRow := Nat × Nat × Nat
def rowV (r : TRow) : List V := [.int (r.1 : Int), .int (r.2.1 : Int), .int (r.2.2 : Int)]
def endV (r : TRow) : List V := [.int (r.2.1 : Int), .int (r.2.2 : Int)]
abbrev Ents (H : Hp) : List (Key × V) → List TRow → Prop := Paired fun kv r => kv.1 = Sum.inl (r.1 : Int) ∧ ∃ t, kv.2 = V.ref t ∧ H t = some (.tup (endV r))
theorem ents_ext {H H' : Hp} (k : ∀ t xs, H t = some (.tup xs) → H' t = some (.tup xs)) : ∀ {kvs : List (Key × V)} {rows : List TRow}, Ents H kvs rows → Ents H' kvs rows
  | _, _, .nil => .nil
  | _, _, .cons ⟨e, t, h1, h2⟩ r => .cons ⟨e, t, h1, k t _ h2⟩ (ents_ext k r)
theorem ents_snoc {H : Hp} {t : Addr} {r : TRow} (h : H t = some (.tup (endV r))) : ∀ {kvs : List (Key × V)} {rows : List TRow}, Ents H kvs rows → Ents H (kvs ++ [(Sum.inl (r.1 : Int), V.ref t)]) (rows ++ [r])
  | _, _, .nil => .cons ⟨rfl, t, rfl, h⟩ .nil
  | _, _, .cons z q => .cons z (ents_snoc h q)
theorem ents_get {H : Hp} : ∀ {kvs : List (Key × V)} {rows : List TRow} {i : Nat} {kv : Key × V}, Ents H kvs rows → kvs[i]? = some kv → ∃ r t, rows[i]? = some r ∧ kv = (Sum.inl (r.1 : Int), V.ref t) ∧ H t = some (.tup (endV r))
  | _, _, _, _, .nil, e => by simp at e
  | (k0, v0) :: _, _, 0, _, .cons ⟨e, t, h1, h2⟩ _, q => by
    simp at q
    refine ⟨_, t, rfl, ?_, h2⟩
    have e1 : k0 = _ := e
    have e2 : v0 = _ := h1
    rw [← q, e1, e2]
  | _, _, i + 1, v, .cons _ r, q => by
    obtain ⟨a, t, h1, h2, h3⟩ := ents_get (i := i) (kv := v) r (by simpa using q)
    exact ⟨a, t, by simpa using h1, h2, h3⟩
theorem ents_drop {H : Hp} (k : Nat) : ∀ {kvs : List (Key × V)} {rows : List TRow}, Ents H kvs rows → Ents H (dropK kvs (Sum.inl (k : Int))) (rows.filter fun r => decide (r.1 ≠ k))
  | _, _, .nil => .nil
  | kv :: kvs, r :: rows, .cons z q => by
    obtain ⟨e, t, h1, h2⟩ := id z
    have ih := ents_drop k q
    by_cases h : r.1 = k
    · rw [dropK_pos (by rw [e, h])]
      simp only [List.filter_cons, h]
      simpa using ih
    · have ne : ¬ kv.1 = Sum.inl (k : Int) := by
        rw [e]
        intro y
        exact h (Int.ofNat.inj (Sum.inl.inj y))
      rw [dropK_neg ne]
      simp only [List.filter_cons]
      rw [if_pos (by simpa using h)]
      exact .cons z ih
theorem ents_has {H : Hp} (k : Nat) : ∀ {kvs : List (Key × V)} {rows : List TRow}, Ents H kvs rows → (valV kvs (Sum.inl (k : Int) : Key)).isSome = decide (k ∈ rows.map (·.1))
  | _, _, .nil => by simp [valV_nil]
  | kv :: kvs, r :: rows, .cons z q => by
    obtain ⟨e, t, h1, h2⟩ := id z
    by_cases h : r.1 = k
    · rw [valV_pos (by rw [e, h])]
      simp [h]
    · have ne : ¬ kv.1 = Sum.inl (k : Int) := by
        rw [e]
        intro y
        exact h (Int.ofNat.inj (Sum.inl.inj y))
      rw [valV_neg ne, ents_has k q]
      have h' : ¬ k = r.1 := fun y => h y.symm
      simp [h']
theorem ents_len {H : Hp} {kvs : List (Key × V)} {rows : List TRow} (h : Ents H kvs rows) : kvs.length = rows.length := Paired.length h
def tF (m : Nat) (d : Addr) (n : Nat) : List (Str × V) := [("_many", .int (m : Int)), ("_ends", .ref d), ("_built", .int (n : Int))]
theorem tF_many (m : Nat) (d : Addr) (n : Nat) : (tF m d n).lookup ("_many" : Str) = some (.int (m : Int)) := at_here
theorem tF_ends (m : Nat) (d : Addr) (n : Nat) : (tF m d n).lookup ("_ends" : Str) = some (.ref d) := (at_past (by decide +kernel)).trans at_here
theorem tF_built (m : Nat) (d : Addr) (n : Nat) : (tF m d n).lookup ("_built" : Str) = some (.int (n : Int)) := (at_past (by decide +kernel)).trans ((at_past (by decide +kernel)).trans at_here)
theorem tF_no (m : Nat) (d : Addr) (n : Nat) {x : Str} (h1 : (x == ("_many" : Str)) = false) (h2 : (x == ("_ends" : Str)) = false) (h3 : (x == ("_built" : Str)) = false) : (tF m d n).lookup x = none :=
  (at_past h1).trans ((at_past h2).trans ((at_past h3).trans rfl))
theorem tF_put (m : Nat) (d : Addr) (n k : Nat) : putF "_built" (.int (k : Int)) (tF m d n) = tF m d k :=
  (to_past (by decide +kernel)).trans (congrArg _ ((to_past (by decide +kernel)).trans (congrArg _ to_here)))
theorem tF_new (m : Nat) (d : Addr) : putF "_built" (.int 0) (putF "_ends" (.ref d) (putF "_many" (.int (m : Int)) [])) = tF m d 0 := by
  have e : putF "_ends" (V.ref d) (putF "_many" (.int (m : Int)) []) = [(("_many" : Str), V.int (m : Int)), (("_ends" : Str), V.ref d)] := (to_past (by decide +kernel)).trans rfl
  rw [e]
  exact (to_past (by decide +kernel)).trans (congrArg _ ((to_past (by decide +kernel)).trans rfl))
/-- the streets of a town: numbers rise, below the next one; ends are two unlike places -/
structure RowsOk (m : Nat) (rows : List TRow) (n : Nat) : Prop where
  rise : rows.Pairwise fun a b => a.1 < b.1
  below : ∀ r ∈ rows, r.1 < n
  ends : ∀ r ∈ rows, r.2.1 < m ∧ r.2.2 < m ∧ r.2.1 ≠ r.2.2
  few : rows.length ≤ 60
theorem RowsOk.snoc {m n a b : Nat} {rows : List TRow} (R : RowsOk m rows n) (h : rows.length < 60) (ha : a < m) (hb : b < m) (ne : a ≠ b) : RowsOk m (rows ++ [(n, a, b)]) (n + 1) where
  rise := by
    rw [List.pairwise_append]
    refine ⟨R.rise, List.pairwise_singleton _ _, fun x hx y hy => ?_⟩
    rw [List.mem_singleton] at hy
    rw [hy]
    exact R.below x hx
  below := fun r hr => by
    rcases List.mem_append.mp hr with z | z
    · have := R.below r z
      omega
    · rw [List.mem_singleton] at z
      rw [z]
      exact Nat.lt_succ_self n
  ends := fun r hr => by
    rcases List.mem_append.mp hr with z | z
    · exact R.ends r z
    · rw [List.mem_singleton] at z
      rw [z]
      exact ⟨ha, hb, ne⟩
  few := by
    rw [List.length_append]
    exact h
theorem RowsOk.drop {m n : Nat} {rows : List TRow} (R : RowsOk m rows n) (p : TRow → Bool) : RowsOk m (rows.filter p) n where
  rise := R.rise.filter _
  below := fun r hr => R.below r (List.mem_filter.mp hr).1
  ends := fun r hr => R.ends r (List.mem_filter.mp hr).1
  few := Nat.le_trans (List.length_filter_le _ _) R.few
/-- the town at p, its dict at d -/
structure TownAt (C : Addr) (H : Hp) (p d : Addr) (m : Nat) (rows : List TRow) (n : Nat) : Prop where
  ob : ∃ dx, H p = some (.ins C dx (tF m d n))
  dc : ∃ kvs, H d = some (.dK kvs) ∧ Ents H kvs rows
  ok : RowsOk m rows n
  pm : 1 ≤ m ∧ m ≤ 16
theorem TownAt.pd {C : Addr} {H : Hp} {p d : Addr} {m : Nat} {rows : List TRow} {n : Nat} (T : TownAt C H p d m rows n) : p ≠ d := by
  obtain ⟨dx, h1⟩ := T.ob
  obtain ⟨kvs, h2, _⟩ := T.dc
  exact ne_of h1 h2 (by intro z; cases z)
theorem TownAt.same {C : Addr} {H H' : Hp} {p d : Addr} {m : Nat} {rows : List TRow} {n : Nat} (T : TownAt C H p d m rows n) (s : Same H H') : TownAt C H' p d m rows n := by
  obtain ⟨dx, h1⟩ := T.ob
  obtain ⟨kvs, h2, h3⟩ := T.dc
  exact ⟨⟨dx, s _ _ h1⟩, ⟨kvs, s _ _ h2, ents_ext (fun t xs e => s _ _ e) h3⟩, T.ok, T.pm⟩
/-- all but the town's own two objects stands -/
def Keeps (H H' : Hp) (p d : Addr) : Prop := ∀ c o, H c = some o → c ≠ p → c ≠ d → H' c = some o
theorem keeps_tups {C : Addr} {H H' : Hp} {p d : Addr} {m : Nat} {rows : List TRow} {n : Nat} (T : TownAt C H p d m rows n) (k : Keeps H H' p d) : ∀ t xs, H t = some (.tup xs) → H' t = some (.tup xs) := by
  obtain ⟨dx, h1⟩ := T.ob
  obtain ⟨kvs, h2, _⟩ := T.dc
  intro t xs e
  refine k t _ e (fun z => ?_) fun z => ?_
  · rw [z, h1] at e
    cases e
  · rw [z, h2] at e
    cases e
theorem RowsOk.back {m n : Nat} {rows : List TRow} (R : RowsOk m rows n) (a b : Nat) : ((rows ++ [(n, a, b)]).filter fun r => decide (r.1 ≠ n)) = rows := by
  rw [List.filter_append]
  have e1 : (rows.filter fun r => decide (r.1 ≠ n)) = rows := List.filter_eq_self.mpr fun r hr => by
    have := R.below r hr
    rw [decide_eq_true_eq]
    omega
  rw [e1]
  simp
theorem RowsOk.mono {m n k : Nat} {rows : List TRow} (R : RowsOk m rows n) (h : n ≤ k) : RowsOk m rows k :=
  ⟨R.rise, fun r hr => Nat.lt_of_lt_of_le (R.below r hr) h, R.ends, R.few⟩
theorem same_over {H Hz : Hp} {l : Addr} {o : HO} (n : H l = none) (s : Same H Hz) : Same H (upd Hz l o) := fun c u e => by
  rw [upd_ne (ne_of_none e n)]
  exact s c u e
theorem tups_over {Hz : Hp} {l : Addr} {o : HO} {xs : List V} {vs : List V} {xss : List (List V)} (a : Hz l = some (.lst xs)) (u : Tups Hz vs xss) : Tups (upd Hz l o) vs xss := tups_ext (fun t ys e => by
  rw [upd_ne (fun z => by rw [z, a] at e; cases e)]
  exact e) u
end Own

set_option Elab.async false
set_option linter.all false
set_option maxRecDepth 100000
set_option maxHeartbeats 4000000
/-! Sizes of numbers, remainders, the law helpers' facts that speak of no program. -/
namespace Own
open PySem PySem.Spec PyProof.Rows L2
/-- a whole number that the machine multiplies without a thought -/
def Fit (c : Int) : Prop := c.natAbs.log2 < 2000000
theorem fit_small {c : Int} (h : c.natAbs < 2 ^ 64) : Fit c := by
  unfold Fit
  by_cases e : c.natAbs = 0
  · rw [e]
    decide
  · have z := (Nat.log2_lt e).mpr h
    omega
theorem fit_range {c : Int} (h1 : 0 ≤ c) (h2 : c < 18446744073709551616) : Fit c := fit_small (by omega)
theorem fit_bits {c : Int} (h : Builtin.Int.intBits c ≤ 1048576) : Fit c := by
  unfold Fit
  have z : c.natAbs.log2 ≤ Builtin.Int.intBits c := by
    unfold Builtin.Int.intBits
    split
    · rename_i e
      simp_all
    · omega
  omega
theorem mul_fit {i j : Int} (hi : Fit i) (hj : Fit j) : CMulG i j := by
  unfold CMulG
  unfold Fit at hi hj
  omega
theorem emod_lt {i m : Int} (h : 0 < m) : 0 ≤ i % m ∧ i % m < m := ⟨Int.emod_nonneg i (by omega), Int.emod_lt_of_pos i h⟩
theorem nat_of {i : Int} (h : 0 ≤ i) : ∃ n : Nat, i = (n : Int) := ⟨i.toNat, (Int.toNat_of_nonneg h).symm⟩
/-- an item of a list at a remainder -/
theorem at_mod {α : Type} {xs : List α} {i : Int} (h : xs ≠ []) : ∃ v, atI xs (i % (xs.length : Int)) = some v ∧ v ∈ xs := by
  have hl : 0 < xs.length := List.length_pos_iff.mpr h
  obtain ⟨h1, h2⟩ := emod_lt (i := i) (m := (xs.length : Int)) (by omega)
  obtain ⟨j, hj⟩ := nat_of h1
  have lt : j < xs.length := by omega
  refine ⟨xs[j], ?_, List.getElem_mem lt⟩
  rw [hj]
  exact atI_nat (List.getElem?_eq_getElem lt)
theorem at_lt {α : Type} {xs : List α} {i : Int} (h1 : 0 ≤ i) (h2 : i < (xs.length : Int)) : ∃ v, atI xs i = some v ∧ v ∈ xs := by
  obtain ⟨j, hj⟩ := nat_of h1
  have lt : j < xs.length := by omega
  refine ⟨xs[j], ?_, List.getElem_mem lt⟩
  rw [hj]
  exact atI_nat (List.getElem?_eq_getElem lt)
abbrev Pair := Nat × Nat
def pairV (p : Pair) : List V := [.int (p.1 : Int), .int (p.2 : Int)]
/-- two unlike places of a town of m -/
def PairOk (m : Nat) (p : Pair) : Prop := p.1 < m ∧ p.2 < m ∧ p.1 ≠ p.2
theorem step_ends {m : Nat} {one num : Int} (hm : 2 ≤ m) (h1 : 0 ≤ one) (h2 : one < m) : 0 ≤ (one + 1 + num % ((m : Int) - 1)) % m ∧ (one + 1 + num % ((m : Int) - 1)) % m < m ∧ (one + 1 + num % ((m : Int) - 1)) % m ≠ one := by
  obtain ⟨a1, a2⟩ := emod_lt (i := num) (m := (m : Int) - 1) (by omega)
  generalize num % ((m : Int) - 1) = q at *
  obtain ⟨b1, b2⟩ := emod_lt (i := one + 1 + q) (m := (m : Int)) (by omega)
  refine ⟨b1, b2, ?_⟩
  by_cases h : one + 1 + q < m
  · rw [Int.emod_eq_of_lt (by omega) h]
    omega
  · have e : (one + 1 + q) % (m : Int) = (one + 1 + q - m) % (m : Int) := (Int.sub_emod_right _ _).symm
    rw [e, Int.emod_eq_of_lt (by omega) (by omega)]
    omega
/-- the items taken so far of a list of whole numbers -/
theorem int_item {ns : List Int} {i : Nat} {y : V} (h : (ns.map V.int)[i]? = some y) : ∃ z, ns[i]? = some z ∧ y = V.int z := by
  rw [List.getElem?_map] at h
  cases e : ns[i]? with
  | none =>
    rw [e] at h
    cases h
  | some z =>
    rw [e] at h
    exact ⟨z, rfl, (Option.some.inj h).symm⟩
end Own
namespace Own
open PySem PySem.Spec PyProof.Rows L2
theorem pair_nat {i j : Int} (hi : 0 ≤ i) (hj : 0 ≤ j) : pairV (i.toNat, j.toNat) = [V.int i, V.int j] := by
  show [V.int ((i.toNat : Nat) : Int), V.int ((j.toNat : Nat) : Int)] = [V.int i, V.int j]
  rw [Int.toNat_of_nonneg hi, Int.toNat_of_nonneg hj]
theorem pair_ok {m : Nat} {i j : Int} (h1 : 0 ≤ i) (h2 : i < m) (h3 : 0 ≤ j) (h4 : j < m) (ne : i ≠ j) : PairOk m (i.toNat, j.toNat) := by
  refine ⟨?_, ?_, ?_⟩
  · show i.toNat < m
    omega
  · show j.toNat < m
    omega
  · show i.toNat ≠ j.toNat
    omega
theorem dp_ints {K : PySem.W.Frag} {H : Hp} : ∀ ns : List Int, DpAll K H (ns.map V.int) (ns.map PyData.int)
  | [] => .nil
  | n :: ns => .cons (.int n) (dp_ints ns)
theorem eqv_nil_nil : PyData.eqv (.list []) (.list []) = true := by simp [PyData.eqv, PyData.eqvAll]
theorem eqv_cons_nil (d : PyData) (ds : List PyData) : PyData.eqv (.list (d :: ds)) (.list []) = false := by simp [PyData.eqv, PyData.eqvAll]
/-- what may be laid, n deep -/
def Lay (n : Nat) (d : PyData) : Prop := d.canLay0 = true ∧ d.depth ≤ n
theorem lay_int (i : Int) : Lay 0 (.int i) := ⟨by simp only [PyData.canLay0], by simp only [PyData.depth]; exact Nat.le_refl _⟩
theorem lay_all {n : Nat} : ∀ {ds : List PyData}, (∀ d ∈ ds, Lay n d) → PyData.canLayAll0 ds = true ∧ PyData.depthAll ds ≤ n
  | [], _ => ⟨by simp only [PyData.canLayAll0], by simp only [PyData.depthAll]; exact Nat.zero_le _⟩
  | d :: ds, h => by
    obtain ⟨h1, h2⟩ := lay_all (ds := ds) fun e he => h e (List.mem_cons_of_mem _ he)
    obtain ⟨h3, h4⟩ := h d List.mem_cons_self
    refine ⟨?_, ?_⟩
    · simp only [PyData.canLayAll0, h1, h3, Bool.and_self]
    · simp only [PyData.depthAll]
      exact Nat.max_le.mpr ⟨h4, h2⟩
theorem lay_list {n : Nat} {ds : List PyData} (h : ∀ d ∈ ds, Lay n d) : Lay (n + 1) (.list ds) := by
  obtain ⟨h1, h2⟩ := lay_all h
  exact ⟨by simp only [PyData.canLay0, h1], by simp only [PyData.depth]; omega⟩
theorem lay_tup {n : Nat} {ds : List PyData} (h : ∀ d ∈ ds, Lay n d) : Lay (n + 1) (.tuple ds) := by
  obtain ⟨h1, h2⟩ := lay_all h
  exact ⟨by simp only [PyData.canLay0, h1], by simp only [PyData.depth]; omega⟩
theorem Lay.shaped {n : Nat} {d : PyData} (h : Lay n d) (hn : n ≤ 64) : SeqAt.shaped d = true := by
  unfold SeqAt.shaped
  rw [h.1, Bool.true_and, decide_eq_true_eq]
  exact Nat.le_trans h.2 hn
theorem lay_ints (ns : List Int) : Lay 1 (.list (ns.map PyData.int)) := lay_list fun d hd => by
  obtain ⟨i, _, rfl⟩ := List.mem_map.mp hd
  exact lay_int i
theorem Lay.eqv {n : Nat} {d : PyData} (h : Lay n d) : PyData.eqv d d = true := SeqAt.eqv_refl d h.1
theorem cut_take (xs : List V) (c : Nat) : cutV xs none (some (c : Int)) = xs.take c := by
  unfold cutV
  rw [HT.sIx_none, HT.sIx_nat, Nat.sub_zero, List.drop_zero]
  by_cases h : c ≤ xs.length
  · rw [Nat.min_eq_left h]
  · rw [Nat.min_eq_right (by omega), List.take_of_length_le (Nat.le_refl _), List.take_of_length_le (by omega)]
theorem at_end {α : Type} {l : List α} {v : α} (h : l[l.length - 1]? = some v) : atI l (-1) = some v := by
  rw [← List.getLast?_eq_getElem?, List.getLast?_eq_some_iff] at h
  obtain ⟨ys, rfl⟩ := h
  exact atI_last ys v
end Own

set_option Elab.async false
set_option linter.all false
set_option maxRecDepth 100000
set_option maxHeartbeats 4000000
/-! Defs that make lambdas: the def's own code object and its table. -/
namespace Own
open PySem PySem.Spec PyProof.Rows L2
theorem fn_lam {P : Program} {w : World} {K : PySem.W.Frag} {mg : Str → Option Value} {base : Heap} {x qual : Str} {params : Arguments} {body : List Stmt} {scope : Scope} {fd : FuncData} {N ps : List Str} {k : Nat} {sp : Sp} {p : Str × Option Str}
    (F : FunD K x qual params body scope [] [] (He.fAd K p) fd) (S : FnScope N ps scope) (len : ∀ vs H Q E, sp vs H Q E → vs.length = ps.length)
    (hbody : ∀ (A : Around) (outer : List Env) (s : Shared) (H : Hp) (vs : List V) (Q : VK) (E : XK), Room k (A.deeper (envOfC qual scope s.heap.objs.size (He.fAd K p) (.ref (He.codeOf K p)))) → sp vs H Q E →
      ∃ t, PSs (cxOf (L2.CX P w) P w K mg base N qual scope (He.fAd K p) (.ref (He.codeOf K p)) A outer s H E) body t ∧ t { nx := fun _ H' => Q .non H', rt := Q } (start N vs) H) : FnOk P w K mg base (L2.CX P w) (k + 1) (He.fAd K p) fd ps sp := by
  obtain ⟨oc, od, dV, kV, doc, pm, an, cdv, ct, osl, rfl, lk, hcd, _, _⟩ := F.ex
  obtain ⟨c, rfl⟩ := He.codeIn_ref hcd
  have ec : He.codeOf K p = c := He.codeOf_eq lk rfl
  refine fn_of lk hcd S len fun A outer s H vs Q E hr hsp => ?_
  have z := hbody A outer s H vs Q E
  rw [ec] at z
  exact z hr hsp
/-- a lambda without parameters takes no arguments -/
abbrev LamBinds (params : Arguments) (body : Expr) (scope : Scope) : Prop := ∀ q cl pm cv ctv, bindArgs (PySem.W.kla_fn "<lambda>" q params body scope cl pm cv ctv) ⟨[], []⟩ = pure []
/-- a def's promise with its tables' heap: all but the tables stays, the tables are known -/
abbrev ExtT (T : List (Addr × Str)) (H H' : Hp) : Prop := LamX.ExtN H H' ∧ LamX.Tabs T H'
theorem ext_same {T : List (Addr × Str)} {H H' : Hp} (t : LamX.Tabs T H) (s : Same H H') : ExtT T H H' := ⟨LamX.ExtN.of s, t.ext s⟩
theorem ext_trans {T : List (Addr × Str)} {H H1 H2 : Hp} (a : LamX.ExtN H H1) (b : ExtT T H1 H2) : ExtT T H H2 := ⟨a.trans b.1, b.2⟩
theorem TownAt.ext {C : Addr} {H H' : Hp} {p d : Addr} {m : Nat} {rows : List TRow} {n : Nat} (T : TownAt C H p d m rows n) (s : LamX.ExtN H H') : TownAt C H' p d m rows n := by
  obtain ⟨dx, h1⟩ := T.ob
  obtain ⟨kvs, h2, h3⟩ := T.dc
  exact ⟨⟨dx, s _ _ h1 (fun _ z => by cases z)⟩, ⟨kvs, s _ _ h2 (fun _ z => by cases z), ents_ext (fun t xs e => s _ _ e (fun _ z => by cases z)) h3⟩, T.ok, T.pm⟩
theorem lst_ext {H H' : Hp} {l : Addr} {xs : List V} (h : H l = some (.lst xs)) (s : LamX.ExtN H H') : H' l = some (.lst xs) := s _ _ h (fun _ z => by cases z)
theorem tl_ext {H H' : Hp} {l : Addr} {xss : List (List V)} (h : TL H l xss) (s : LamX.ExtN H H') : TL H' l xss := by
  obtain ⟨vs, h1, h2⟩ := h
  exact ⟨vs, lst_ext h1 s, tups_ext (fun t xs e => s _ _ e (fun _ z => by cases z)) h2⟩
theorem sql_ext {K : PySem.W.Frag} {H H' : Hp} {l : Addr} {xs : List V} (h : SqL K H l xs) (s : LamX.ExtN H H') : SqL K H' l xs := by
  rcases h with (h | ⟨o, h⟩) | h
  · exact .inl (.inl (s _ _ h (fun _ z => by cases z)))
  · exact .inl (.inr ⟨o, s _ _ h (fun _ z => by cases z)⟩)
  · exact .inr h
theorem lam_none {X : Cx} : defaultsOf ({ posonlyargs := [], args := [], vararg := none, kwonlyargs := [], kw_defaults := [], kwarg := none, defaults := [] } : Arguments) X.env = ([], []) := by rfl
theorem ty_ext {H H' : Hp} {v : V} (s : LamX.ExtN H H') (h : ∃ n, tyName v H = some n) : ∃ n, tyName v H' = some n := by
  obtain ⟨n, e⟩ := h
  refine ⟨n, ?_⟩
  cases v with
  | ref p =>
    simp only [tyName] at e ⊢
    cases there : H p with
    | none => simp [there] at e
    | some o =>
      have stays := s p o there fun ps z => by simp [there, z] at e
      rw [stays, ← there]
      exact e
  | _ => exact e
theorem tabs_keeps {C : Addr} {T : List (Addr × Str)} {H H' : Hp} {p d : Addr} {m : Nat} {rows : List TRow} {n : Nat} (W : TownAt C H p d m rows n) (k : Keeps H H' p d) (t : LamX.Tabs T H) : LamX.Tabs T H' := by
  obtain ⟨dx, h1⟩ := W.ob
  obtain ⟨kvs, h2, _⟩ := W.dc
  intro q hq
  obtain ⟨ps, e1, e2, e3⟩ := t q hq
  refine ⟨ps, k _ _ e1 (fun z => ?_) (fun z => ?_), e2, fun pos cv hc => ?_⟩
  · rw [z, h1] at e1
    cases e1
  · rw [z, h2] at e1
    cases e1
  · obtain ⟨c, f1, f2⟩ := e3 pos cv hc
    refine ⟨c, f1, k _ _ f2 (fun z => ?_) (fun z => ?_)⟩
    · rw [z, h1] at f2
      unfold LamX.CodeO at f2
      cases f2
    · rw [z, h2] at f2
      unfold LamX.CodeO at f2
      cases f2
def rowD (r : TRow) : PyData := .tuple [.int (r.1 : Int), .int (r.2.1 : Int), .int (r.2.2 : Int)]
theorem dp_rows {K : PySem.W.Frag} {H : Hp} : ∀ {vs : List V} {rows : List TRow}, Tups H vs (rows.map rowV) → DpAll K H vs (rows.map rowD)
  | [], [], _ => .nil
  | _ :: _, [], h => by cases h
  | [], _ :: _, h => by cases h
  | v :: vs, r :: rows, .cons ⟨t, e, h⟩ q => by
    rw [e]
    exact .cons (.tup (SqT.of h) (.cons (.int _) (.cons (.int _) (.cons (.int _) .nil)))) (dp_rows q)
theorem lay_rows (rows : List TRow) : Lay 2 (.list (rows.map rowD)) := lay_list fun d hd => by
  obtain ⟨r, _, rfl⟩ := List.mem_map.mp hd
  refine lay_tup fun e he => ?_
  simp only [List.mem_cons, List.not_mem_nil, or_false] at he
  rcases he with h | h | h <;> rw [h] <;> exact lay_int _
/-- two lists of the same rows compared -/
theorem dp_town {K : PySem.W.Frag} {H : Hp} {l : Addr} {rows : List TRow} (h : TL H l (rows.map rowV)) : Dp K H (.ref l) (.list (rows.map rowD)) := by
  obtain ⟨vs, h1, h2⟩ := h
  exact .lst (SqL.of h1) (dp_rows h2)
theorem tl_same {H H' : Hp} {l : Addr} {xss : List (List V)} (h : TL H l xss) (s : Same H H') : TL H' l xss := by
  obtain ⟨vs, h1, h2⟩ := h
  exact ⟨vs, s _ _ h1, tups_ext (fun t xs e => s _ _ e) h2⟩
theorem tl_keeps {C : Addr} {H H' : Hp} {p d l : Addr} {m : Nat} {rows : List TRow} {n : Nat} {xss : List (List V)} (W : TownAt C H p d m rows n) (k : Keeps H H' p d) (h : TL H l xss) : TL H' l xss := by
  obtain ⟨vs, h1, h2⟩ := h
  obtain ⟨dx, e1⟩ := W.ob
  obtain ⟨kvs, e2, _⟩ := W.dc
  exact ⟨vs, k _ _ h1 (ne_of h1 e1 (by intro z; cases z)) (ne_of h1 e2 (by intro z; cases z)), tups_ext (keeps_tups W k) h2⟩
end Own

set_option Elab.async false
set_option linter.all false
set_option maxRecDepth 100000
set_option maxHeartbeats 4000000
/-! An own error class over ValueError whose __init__ begins with super().__init__(text). -/
namespace Own
open PySem PySem.Spec PyProof.Rows L2
section
open PySem.W
/-- at C stands an error class whose objects ValueError makes -/
def VeAt (h : Heap) (C : Addr) : Prop := ∃ nm q N bs bm flag sn sub ab col dd k0 k1 k2 k3 k5, h.get? C = some (excClassObj nm q C N bs bm flag sn sub ab col dd k0 k1 k2 k3 k5 "ValueError.__new__")
theorem VeAt.keeps {h h' : Heap} {C : Addr} (c : VeAt h C) (k : ∀ b o, h.get? b = some o → h'.get? b = some o) : VeAt h' C := by
  obtain ⟨nm, q, N, bs, bm, flag, sn, sub, ab, col, dd, k0, k1, k2, k3, k5, at_⟩ := c
  exact ⟨nm, q, N, bs, bm, flag, sn, sub, ab, col, dd, k0, k1, k2, k3, k5, k _ _ at_⟩
/-- ValueError.__init__, bound to the exception at e, called: it sets e's arguments anew, no more -/
theorem call_bound_ve {prog : Program} {w : World} {A : Around} {E : Value → Shared → Prop} {s : Shared} {C u e t0 : Addr} {rest : List Value} {Q : Value → Shared → Prop}
    (cl : VeAt s.heap C) (he : s.heap.get? e = some (HandSPX.excO C t0)) (hu : s.heap.get? u = some (kxs_mw "ValueError.__init__" e)) (few : rest.length ≤ sizeLine)
    (hq : ∀ (h' : Heap) (t1 : Addr), (∀ b o, b ≠ e → s.heap.get? b = some o → h'.get? b = some o) → h'.get? e = some (HandSPX.excO C t1) → Q .none { s with heap := h' }) :
    wpAny (model prog w) A (call (.ref u) rest) Q E s := by
  obtain ⟨h, g, d, t, os⟩ := s
  obtain ⟨nm, q, N, bs, bm, flag, sn, sub, ab, col, dd, k0, k1, k2, k3, k5, hC⟩ := cl
  have kind : (Value.type "method-wrapper" == Value.type "method" || Value.type "method-wrapper" == Value.type "builtin_function_or_method" || Value.type "method-wrapper" == Value.type "method-wrapper") = true := by decide
  have room : ∀ {o : Obj} {b : Addr}, h.get? b = some o → (h.push (kdv_tup rest)).get? b = some o := fun q => Heap.get?_push_of_some _ q
  refine wpAny_call (codeAny_of_tree (?_ : wpAny (model prog w) A.in1 (callAny (.ref u) ⟨rest, []⟩) _ _ _))
  simp only [callAny]
  refine wpAny_bind (wpAny_load hu ?_)
  simp only [kxs_mw, kind, if_true]
  refine KFB.if_so (by decide) (wpAny_bind (ESX.check_bound F.excBase_ValueError hC he rfl (wpAny_bind (wpAny_pure (wpAny_pure ?_)))))
  refine ⟨Code.quiet_builtin _ (by decide +kernel), codeAny_builtin F.excBase_ValueError.initEntry ?_⟩
  rw [Around.under_plainId F.excBase_ValueError.init.plain _]
  wp_walk
  exact hq _ h.objs.size (fun b o off q => (Heap.get?_update_other _ _ off.symm).trans (room q)) (Heap.get?_update_self _ (room he) rfl)
end
abbrev supN : List Str := ["self", "between", "apart", "part"]
abbrev supEnv (scope : Scope) (s : Shared) (f cda cc : Addr) : Env := PySem.W.ksEnv "Parted.__init__" scope s.heap.objs.size f (.ref cda) cc
/-- Parted.__init__ runs: its class's cell is captured -/
def supCx (P : Program) (w : World) (K : PySem.W.Frag) (mg : Str → Option Value) (base : Heap) (scope : Scope) (f cda cc : Addr) (A : Around) (outer : List Env) (s : Shared) (H : Hp) (E : XK) : Cx where
  prog := P
  w := w
  K := K
  mg := mg
  base := base
  A := A.deeper (supEnv scope s f cda cc)
  N := supN
  s_0 := s
  H_0 := H
  env := supEnv scope s f cda cc
  outer := outer
  stack := supEnv scope s f cda cc :: outer
  ex := []
  fn := fun _ => false
  calm := true
  pn := []
  xe := fun e s' => wpAny (model P w) (A.deeper (supEnv scope s f cda cc)) (leaving (supEnv scope s f cda cc) e) (fun _ s'' => L2.CX P w outer H s E e s'') (fun e' s'' => L2.CX P w outer H s E e' s'') s'
/-- the scope of such a def: three parameters, the comprehension's name elsewhere, the class captured -/
structure SupS (scope : Scope) : Prop where
  kind : scope.kind = .function
  co : scope.isCoroutine = false
  gen : scope.isGenerator = false
  loc : scope.names.lookup ("self" : Str) = some .local ∧ scope.names.lookup ("between" : Str) = some .local ∧ scope.names.lookup ("apart" : Str) = some .local
  cls : scope.names.lookup ("__class__" : Str) = some .free
  sup : scope.names.lookup ("super" : Str) = some .globalImplicit
  nocell : ∀ y ∈ scope.names, y.2 ≠ .cell
  free : ∀ y ∈ scope.names, y.2 = .free → y.1 = "__class__"
  part : ¬ Vis scope "part"
structure SupC (K : PySem.W.Frag) (mg : Str → Option Value) (P : Program) (C fI cda cc : Addr) (params : Arguments) (body : List Stmt) (scope : Scope) (fd : FuncData) : Prop where
  oex : OexC K C
  fn : ∃ (oc dV kV doc pm ct : Value) (od an : Option Addr) (osl : Array (Option Value)), fd = PySem.W.ksFn "__init__" "Parted.__init__" params body scope dV kV doc pm an (.ref cda) ct cc ∧ K.lookup fI = some ⟨oc, od, .func fd, osl⟩
  arg : ∃ ar : Arg, (params.posonlyargs ++ params.args).head? = some ar ∧ ar.arg = "self"
  code : PySem.W.codeIn K (.ref cda) "Parted.__init__" = true
  file : ∃ (ccl : Value) (cdd : Option Addr) (vs : Array Value) (ccs : Array (Option Value)) (f : Str) (tf : Tok), K.lookup cda = some ⟨ccl, cdd, .fields vs, ccs⟩ ∧ vs[2]? = some (.str f tf) ∧ ((P.main.file : Str) == f) = true
  cell : ∃ (cl : Value) (cld : Option Addr) (csl : Array (Option Value)), K.lookup cc = some ⟨cl, cld, .cell (some (.ref C)), csl⟩
  sup : mg "super" = none
  opq : PySem.W.nsIn K cStatics "thirdparty.any" = some none
  meth : PySem.W.ks_superIn K C C "__init__" = some (some (.builtin "ValueError.__init__"))
  ve : PySem.W.subIn K (.ref C) (.type "ValueError") = some true
  own : PySem.W.mroIn K C (.ref C) = some true
  top : (P.main.scope.names.lookup ("super" : Str)).isSome = false
section
variable {P : Program} {w : World} {K : PySem.W.Frag} {mg : Str → Option Value} {base : Heap} {C fI cda cc : Addr} {params : Arguments} {body : List Stmt} {scope : Scope} {A : Around} {outer : List Env} {s : Shared} {H : Hp} {E : XK} {v0 v1 v2 : V} {u0 u1 u2 : Value}
theorem sup_start {h0 : Heap} {tk : Nat} (S : SupS scope) (hc : ∃ (cl : Value) (cld : Option Addr) (csl : Array (Option Value)), K.lookup cc = some ⟨cl, cld, .cell (some (.ref C)), csl⟩) (hd : A.handled = none) (e0 : Env0 P w K mg base A outer s H) (r0 : RelV v0 u0) (r1 : RelV v1 u1) (r2 : RelV v2 u2)
    (hns : h0.Ns s.heap.objs.size fun x => ([(("self" : Str), u0), ("between", u1), ("apart", u2)] : List (Str × Value)).reverse.lookup x) (kp : ∀ b o, s.heap.get? b = some o → h0.get? b = some o) :
    Inv (supCx P w K mg base scope fI cda cc A outer s H E) [] [some v0, some v1, some v2, none] H { s with heap := h0, toks := tk } := by
  obtain ⟨cl, cld, csl, hcc⟩ := hc
  have ccB := e0.mod.kin cc _ hcc
  have ccS := e0.bs cc _ ccB
  have only : ∀ {x c}, (supEnv scope s fI cda cc).cells.lookup x = some c → x = "__class__" ∧ c = cc := by
    intro x c e
    have e' : List.lookup x [(("__class__" : Str), cc)] = some c := e
    by_cases hx : x = "__class__"
    · subst hx
      rw [List.lookup_cons_self] at e'
      exact ⟨rfl, (Option.some.inj e').symm⟩
    · have nx : (x == ("__class__" : Str)) = false := by simpa using hx
      simp [List.lookup, nx] at e'
  have noA : ∀ b : Addr, b ∉ (supCx P w K mg base scope fI cda cc A outer s H E).ex := fun b z => absurd (show b ∈ ([] : List Addr) from z) (by simp)
  refine ⟨⟨e0.mod, S.kind, rfl, rfl, Nat.le_refl _, fun y z c a b => (only a).1.trans (only b).1.symm, fun y hy => ?_, fun y c z _ => ?_, fun _ => hd, Around.frames_deeper e0.frames, .inr ⟨rfl, rfl⟩, fun b z => absurd z (noA b), e0.bs, e0.bsz, fun b _ _ => noA b, fun b z => absurd z (noA b), e0.funs, e0.frf⟩,
    rfl, e0.bare, Un.kept kp, ⟨_, hns, fun i y v a b z => ?_⟩, fun y c e => ?_, e0.hok.fresh (Nat.le_refl _), fun y c e => ?_, fun q hq => absurd (show q ∈ ([] : List (Addr × Obj)) ++ [] from hq) (by simp), e0.hok.kept kp, rfl⟩
  · have hy : scope.names.lookup y = some .cell ∨ scope.names.lookup y = some .free := hy
    rcases hy with hy | hy
    · exact absurd rfl (S.nocell _ (PySem.mem_of_lookup hy))
    · have ey : y = "__class__" := S.free _ (PySem.mem_of_lookup hy) rfl
      subst ey
      exact ⟨cc, List.lookup_cons_self⟩
  · have z : false = true := z
    cases z
  · obtain ⟨l0, l1, l2⟩ := S.loc
    match i, a, b with
    | 0, a, b =>
      cases a
      cases b
      exact ⟨u0, r0, .inl ⟨l0, rfl⟩⟩
    | 1, a, b =>
      cases a
      cases b
      exact ⟨u1, r1, .inl ⟨l1, rfl⟩⟩
    | 2, a, b =>
      cases a
      cases b
      exact ⟨u2, r2, .inl ⟨l2, rfl⟩⟩
    | 3, a, b => cases b
    | n + 4, a, b => simp at b
  · obtain ⟨_, rfl⟩ := only e
    exact ⟨_, _, kp _ _ ccS.1, rfl⟩
  · obtain ⟨_, rfl⟩ := only e
    exact ccS.2
end
end Own

set_option Elab.async false
set_option linter.all false
set_option maxRecDepth 100000
set_option maxHeartbeats 4000000
/-! The run of an own __init__ that begins with super().__init__(text). -/
namespace Own
open PySem PySem.Spec PyProof.Rows L2
section
variable {P : Program} {w : World} {K : PySem.W.Frag} {mg : Str → Option Value} {base : Heap} {C fI cda cc : Addr} {params : Arguments} {body rest : List Stmt} {scope : Scope} {fd : FuncData} {A : Around} {outer : List Env} {s : Shared} {H : Hp} {E : XK} {v1 v2 : V} {u1 u2 : Value} {args : Args} {Q : VK} {a : Addr} {k : Nat}
theorem sup_run {p0 p1 pa pc p3 p4 : Pos} {j : Nat} {m : Str} {pl : Sem Bool} (S : SupS scope) (T : SupC K mg P C fI cda cc params body scope fd)
    (eb : body = Stmt.Expr (.Call (.Attribute (.Call (.Name "super" p0) [] [] p1) "__init__" pa) [.Constant (.str m) j pc] [] p3) p4 :: rest)
    (he : ∀ env : Env, eval (.Call (.Attribute (.Call (.Name "super" p0) [] [] p1) "__init__" pa) [.Constant (.str m) j pc] [] p3) env = (do
      let ov ← attributeBase (.Call (.Name "super" p0) [] [] p1) "__init__" env (eval (.Call (.Name "super" p0) [] [] p1) env)
      standAt pa.atName
      let (f, first) ← holding [ov] (getMethod ov "__init__" pl)
      callWith p3 f first (backTo p3 (starEach [.Constant (.str m) j pc] env)) []))
    (hr : Room (k + 1) A) (e0 : Env0 P w K mg base A outer s H) (hb : BindsTo s fd args (([("self" : Str), "between", "apart"]).zip [.ref a, u1, u2])) (r1 : RelV v1 u1) (r2 : RelV v2 u2) (ea : H a = some (exo a C none))
    (hrest : ∃ t, PSs (supCx P w K mg base scope fI cda cc A outer s H E) rest t ∧ t { nx := fun _ H' => Q .non H', rt := Q } [some (.ref a), some v1, some v2, none] H) :
    codeAny (model P w) A (.call (.ref fI) args) (CR (L2.CX P w) outer P w H s Q E) s := by
  obtain ⟨oc, dV, kV, doc, pm, ct, od, an, osl, ef, lk⟩ := T.fn
  obtain ⟨ccl, cdd, vs, ccs, file, tf, lc, ev2, hfile⟩ := T.file
  obtain ⟨cl, cld, csl, lcc⟩ := T.cell
  obtain ⟨nm, q, N, bs, bm, sn, sub, ab, col, dd, k0, k1, k2, k3, k5, hC, hbm⟩ := T.oex.cls
  obtain ⟨ar, har, earg⟩ := T.arg
  have stood : ∀ b o, base.get? b = some o → s.heap.get? b = some o := fun b o e => (e0.bs b o e).1
  have KX := e0.mod.kin.keeps stood
  subst ef
  refine ks_codeAny_call_defAt (fd := PySem.W.ksFn "__init__" "Parted.__init__" params body scope dV kV doc pm an (.ref cda) ct cc) (body := body) (binds := [("self", .ref a), ("between", u1), ("apart", u2)]) hr.depth (KX _ _ lk) rfl (e0.mod.nolimit.keeps stood) (PySem.W.codeRec_of KX T.code) rfl hb S.nocell
    (fun x hx => ?_) (fun h0 hns kp => ?_) S.co S.gen S.kind
  · have hx : x ∈ [(("self" : Str), Value.ref a), ("between", u1), ("apart", u2)] := hx
    simp only [List.mem_cons, List.mem_nil_iff, or_false] at hx
    rcases hx with rfl | rfl | rfl
    · exact S.loc.1
    · exact S.loc.2.1
    · exact S.loc.2.2
  have I : Inv (supCx P w K mg base scope fI cda cc A outer s H E) [] [some (.ref a), some v1, some v2, none] H { s with heap := h0, toks := s.toks + 3 } := sup_start S T.cell hr.hd e0 (v0 := .ref a) rfl r1 r2 hns kp
  obtain ⟨t, ht, hq⟩ := hrest
  obtain ⟨t1, ho⟩ := exo_at I.hok ea
  rcases s with ⟨hh, g, d, tk, os⟩
  obtain ⟨mb, hb1, hb2⟩ := I.mod.blt
  have X0 := I.kIn
  have hD := X0 _ _ hC
  have Ia : PySem.W.InstAt h0 a { cls := .ref C, dict := none, data := .fields #[.ref t1, .none, .none, .none, .bool false, .none] } C none := ⟨ho, rfl, rfl, trivial⟩
  have hcl : PySem.W.clsIn K C = some { name := nm, bases := bs, mro := .ref C :: bm, ns := N, qualname := q, hasDict := true, slotNames := sn, subclasses := sub, abstract := ab, collection := col, hasDel := false } := by unfold PySem.W.clsIn; rw [hC] <;> rfl
  have alo : PySem.W.alongIn K "__init__" (((Value.ref C :: bm).dropWhile (· != .ref C)).drop 1) = some (some (.builtin "ValueError.__init__")) := by
    have z := T.meth
    unfold PySem.W.ks_superIn at z
    rw [hcl] at z
    exact z
  have hke : (supEnv scope ⟨hh, g, d, tk, os⟩ fI cda cc).scope.kind = .function := S.kind
  subst eb
  refine ks_wpAt_execs_cons (ks_wpAt_Expr_any (ks_wpAt_MethodCall (pl := pl) ?_ (he _)) (by show (scope.kind == .module && _) = false; rw [S.kind]; rfl))
  refine ks_wpAt_super_base (env := supEnv scope ⟨hh, g, d, tk, os⟩ fI cda cc) S.sup S.cls (by decide) rfl (X0 _ _ lk) rfl har rfl (X0 _ _ lc) rfl ev2 hfile T.top ?_
  refine PySem.W.ks_loadName_global hke S.sup (Calls.loadGlobal_builtin (env := supEnv scope ⟨hh, g, d, tk, os⟩ fI cda cc) (I.mod.glob.keeps I.bk) T.sup (hb1.keeps I.bk) ((hb2 _ (by decide +kernel)).trans PyProof.Rows.Boot.«super») ⟨rfl, ?_⟩)
  refine wpAny_loadName_free hke S.cls rfl ⟨_, X0 _ _ lcc, rfl⟩ ?_
  rw [earg]
  refine wpAny_loadName_local hke S.loc.1 hns rfl ?_
  refine ks_wpAny_isType_cls hD rfl ⟨rfl, ?_⟩
  refine ks_wpAny_call_super hD rfl ho rfl (fun c e => by cases e) (PySem.W.looks_mroIn X0 T.own) (fun h1 e1 kp1 => ?_)
  have X1 : K.In h1 := X0.keeps kp1
  have I1 : PySem.W.InstAt h1 a { cls := .ref C, dict := none, data := .fields #[.ref t1, .none, .none, .none, .bool false, .none] } C none := ⟨kp1 _ _ ho, rfl, rfl, trivial⟩
  refine PySem.W.kxs_getMethod PySem.W.kxs_ValueError e1 (PySem.W.looks_opaque X1 T.opq) (l₀ := .ref C :: bm) (fun A Q E s k q => wpAny_bind ((PySem.W.looks_clsIn X1 hcl) A _ E s k (wpAny_pure q))) rfl X1 alo (I1.type.andThen (PySem.W.looks_subIn X1 T.ve)) (PySem.W.ks_ne X1 I1 hcl) (by decide) ?_
  have hu : (h1.push (PySem.W.kxs_mw "ValueError.__init__" a)).get? h1.objs.size = some (PySem.W.kxs_mw "ValueError.__init__" a) := Heap.get?_push_at rfl rfl
  have kp2 : ∀ b o, h1.get? b = some o → (h1.push (PySem.W.kxs_mw "ValueError.__init__" a)).get? b = some o := fun b o e => Heap.get?_push_of_some _ e
  refine PySem.W.kxs_callWith (i := "ValueError.__init__") (x := a) (by rfl) ?_
  refine Calls.evalArgs_plain (Calls.spliced_cons (Calls.Constant_str (k := j) (pos := pc) (Calls.spliced_nil ⟨hu, ?_⟩)))
  refine call_bound_ve (VeAt.keeps ⟨_, _, _, _, _, _, _, _, _, _, _, _, _, _, _, _, hD⟩ fun b o q => kp2 b o (kp1 b o q)) (kp2 _ _ (kp1 _ _ ho)) hu (by show 1 ≤ sizeLine; rw [sizeLine_eq]; omega) (fun h3 t3 kp3 e3 => ?_)
  have J := I.write (t' := tk + 3 + 1 + 1) (x := a) (e := a) (h' := h3) (o := exo a C none) (by rw [ea]; exact True.intro) (.inl rfl) (fun b o hb e => kp3 b o hb (kp2 _ _ (kp1 _ _ e))) ⟨_, e3⟩ (exo_ok e3)
  rw [show upd H a (exo a C none) = H from funext fun b => (Decidable.em (b = a)).elim (fun z => by rw [z, upd_same, ea]) upd_ne] at J
  refine wpAt_of_wpAny (wpAny_mono (ht.run [] _ _ _ _ J hq) (fun fl s' told => ?_) fun _ _ z => z)
  match fl, told with
  | .next, ⟨_, H', J', q⟩ => exact ⟨.non, H', J'.os, J'.bare, J'.base, J'.hok, rfl, q⟩
  | .ret _, ⟨v, _, H', J', rel, q⟩ => exact ⟨v, H', J'.os, J'.bare, J'.base, J'.hok, rel, q⟩
  | .brk, ⟨_, _, _, z⟩ => exact z.elim
  | .cont, ⟨_, _, _, z⟩ => exact z.elim
end
end Own

set_option Elab.async false
set_option linter.all false
set_option maxRecDepth 100000
set_option maxHeartbeats 4000000
/-! An own error with its dict, kept as a value: made, and its attributes read. -/
namespace Own
open PySem PySem.Spec PyProof.Rows L2
/-- at p a list of references to these lists -/
abbrev Lsts (H : Hp) : List V → List (List V) → Prop := Paired fun v xs => ∃ t, v = V.ref t ∧ H t = some (.lst xs)
theorem lsts_ext {H H' : Hp} (k : ∀ t xs, H t = some (.lst xs) → H' t = some (.lst xs)) : ∀ {vs : List V} {xss : List (List V)}, Lsts H vs xss → Lsts H' vs xss
  | _, _, .nil => .nil
  | _, _, .cons ⟨t, e, h⟩ r => .cons ⟨t, e, k t _ h⟩ (lsts_ext k r)
theorem lsts_snoc {H : Hp} {t : Addr} {xs : List V} (h : H t = some (.lst xs)) : ∀ {vs : List V} {xss : List (List V)}, Lsts H vs xss → Lsts H (vs ++ [V.ref t]) (xss ++ [xs])
  | _, _, .nil => .cons ⟨t, rfl, h⟩ .nil
  | _, _, .cons r q => .cons r (lsts_snoc h q)
theorem lsts_get {H : Hp} : ∀ {vs : List V} {xss : List (List V)} {i : Nat}, Lsts H vs xss → i < vs.length → ∃ t xs, vs[i]? = some (V.ref t) ∧ xss[i]? = some xs ∧ H t = some (.lst xs)
  | _, _, _, .nil, e => by simp at e
  | _, _, 0, .cons ⟨t, e, h⟩ _, q => ⟨t, _, by rw [e]; rfl, rfl, h⟩
  | _, _, i + 1, .cons _ r, q => by
    obtain ⟨t, xs, h1, h2, h3⟩ := lsts_get (i := i) r (by simpa using q)
    exact ⟨t, xs, by simpa using h1, by simpa using h2, h3⟩
section
variable {X : Cx} {e : Expr} {es : List Expr} {te : TE} {ta : TA} {n x : Str} {p pos : Pos} {C fI : Addr} {k : Nat} {fd : FuncData} {ps : List Str} {sp : Sp} {CX : CXT}
/-- such an error's attribute -/
theorem pe_exf (he : PE X e te) (hb : attributeBase e n X.env (eval e X.env) = eval e X.env := by rfl) :
    PE X (.Attribute e n pos) (fun σ H Q => te σ H fun x H1 => ∃ (a C d : Addr) (fs : List (Str × V)) (v : V), x = .ref a ∧ XfC X.K C ∧ PySem.W.findIn X.K (.ref C) n = some none ∧ H1 a = some (exo a C (some d)) ∧ H1 d = some (exd d fs) ∧ fs.lookup n = some v ∧ Q v H1) := by
  refine ⟨fun pins s σ H Q I wish => attr_of hb (thn (he.run pins s σ H _ I wish) ?_)⟩
  rintro _ s1 ⟨_, H1, I1, here, a, C, d, fs, v, rfl, T, noIn, ea, ed, found, q⟩
  cases here
  obtain ⟨_, at_⟩ := exo_at I1.hok ea
  obtain ⟨mA, ns, rel⟩ := exd_at I1.hok ed
  obtain ⟨od, dict, look⟩ := lookIn_ns ns
  have of := rel n
  rw [found] at of
  obtain ⟨u, there, ru⟩ := RelO.some_of of
  have inst : PySem.W.InstAt s1.heap a _ C (some od) := ⟨at_, rfl, rfl, dict⟩
  have own := PySem.W.findObj_own T.hdC noIn rfl ((look n).trans (congrArg some there))
  exact HandSPX.exc_get I1.kIn inst T.ga T.gg T.exC own (handed_of ru) ⟨v, H1, I1.tok _, ru, q⟩
/-! ### C(e, ..) as a value -/
/-- the heap in which C's __init__ begins: the arguments' tuple, and the exception behind it -/
def excHeap (h : Heap) (C : Addr) (us : List Value) : Heap := (h.push (PySem.W.kdv_tup us)).push (PySem.HandSPX.excO C h.objs.size)
theorem exc_made {pins : List (Addr × Obj)} {σ : L2.St} {H : Hp} {s : Shared} (C : Addr) (us : List Value) (I : Inv X pins σ H s) : H (s.heap.objs.size + 1) = none ∧ Inv X pins σ (upd H (s.heap.objs.size + 1) (exo (s.heap.objs.size + 1) C none)) { s with heap := excHeap s.heap C us } := by
  have behind : s.heap.objs.size ≤ s.heap.objs.size + 1 := by omega
  have there : (excHeap s.heap C us).get? (s.heap.objs.size + 1) = some (PySem.HandSPX.excO C s.heap.objs.size) := by
    unfold excHeap
    heap_get
  exact ⟨I.hok.fresh behind, I.laid (t' := s.toks) (h' := excHeap s.heap C us) (fun b o q => Heap.get?_push_of_some _ (Heap.get?_push_of_some _ q)) behind (exo_ok there)⟩
/-- C's own __init__ keeping sp -/
theorem pe_mkO (T : OexC X.K C) (iC : PySem.W.findIn X.K (.ref C) "__init__" = some (some (.ref fI))) (tI : PySem.W.typeIn X.K (.ref fI) = some (.type "function"))
    (F1 : FnOk X.prog X.w X.K X.mg X.base CX k fI fd ps sp) (hr : Room (k + 1) X.A) (hb : Binds X.K fd ps []) (hx : Passes CX X (fun _ _ _ => False)) (hg : Gl X x) (hm : X.mg x = some (.ref C)) (ha : PA X (e :: es) ta)
    (hdb : (x == ("__debug__" : Str)) = false := by decide) (he : starEach (e :: es) X.env = (false, eval e X.env) :: starEach es X.env := by rfl) (hpl : (backTo pos (starEach es X.env)).any (·.1) = false := by rfl) :
    PE X (.Call (.Name x p) (e :: es) [] pos) (fun σ H Q => ta σ H fun vs H1 => vs.length ≤ 1000 ∧ ∀ a, H1 a = none → sp (.ref a :: vs) (upd H1 a (exo a C none)) (fun v H2 => v = .non ∧ Q (.ref a) H2) (fun _ _ _ => False)) := by
  refine ⟨fun pins s σ H Q I wish => wpAny_Call_Name_kw (ld_glob I hg hm (PySem.W.callWith_K (h₀ := X.base) I.ok.mod.kin T.kC (thn (ha.run pos pins s σ H _ I wish) ?_) he hpl) hdb)⟩
  rintro us s1 ⟨vs, H1, I1, rel, few, go⟩
  refine ⟨I1.kIn, ?_⟩
  obtain ⟨new, I2⟩ := exc_made C us I1
  have want := go _ new
  have all : Vals (V.ref (s1.heap.objs.size + 1) :: vs) (Value.ref (s1.heap.objs.size + 1) :: us) := .cons rfl rel
  have binds := hb _ (Value.ref (s1.heap.objs.size + 1) :: us) I2.kIn (by rw [List.append_nil, ← F1.len _ _ _ _ want]; exact all.length.symm)
  rw [List.append_nil] at binds
  have small : us.length ≤ sizeLine := by
    have z := rel.length
    rw [sizeLine_eq]
    omega
  have init := F1.run _ X.stack _ _ ⟨Value.ref (s1.heap.objs.size + 1) :: us, []⟩ _ _ _ (fun _ _ _ => False) (hr.make C us []) (I2.env0.make C us []) binds all want
  obtain ⟨_, _, _, _, _, _, _, _, _, _, _, _, _, _, _, isC, base⟩ := T.cls
  refine wpAny_call (PySem.HandSPX.call_own F.excBase_ValueError (fun Y => PySem.HandSPX.refsVE_contains Y _ base) (I1.kIn _ _ isC) (PySem.W.looks_findIn I1.kIn iC) (fun self => PySem.W.bind_fn I1.kIn self tI) small (codeAny_mono init fun r s' out => ?_))
  match r, out with
  | .error _, out => exact hx pins σ _ _ _ s' I2 out
  | .ok (.ret _), out =>
    obtain ⟨_, H2, J, rv, none_, q⟩ := I2.after out
    cases none_
    exact ⟨rv, .ref _, H2, J, rfl, q⟩
  | .ok .next, out => exact out.elim
  | .ok .brk, out => exact out.elim
  | .ok .cont, out => exact out.elim
end
/-- new lists of these, none at r -/
abbrev NewL (H H' : Hp) (r : Addr) : List V → List (List V) → Prop := Paired fun v ys => ∃ t, v = V.ref t ∧ t ≠ r ∧ H t = none ∧ H' t = some (.lst ys)
theorem newL_ext {H H1 H2 : Hp} {r : Addr} (k : ∀ t ys, t ≠ r → H t = none → H1 t = some (.lst ys) → H2 t = some (.lst ys)) : ∀ {vs : List V} {yss : List (List V)}, NewL H H1 r vs yss → NewL H H2 r vs yss
  | _, _, .nil => .nil
  | _, _, .cons ⟨t, e, n, z, h⟩ q => .cons ⟨t, e, n, z, k t _ n z h⟩ (newL_ext k q)
theorem newL_snoc {H H' : Hp} {r t : Addr} {ys : List V} (n : t ≠ r) (z : H t = none) (h : H' t = some (.lst ys)) : ∀ {vs : List V} {yss : List (List V)}, NewL H H' r vs yss → NewL H H' r (vs ++ [V.ref t]) (yss ++ [ys])
  | _, _, .nil => .cons ⟨t, rfl, n, z, h⟩ .nil
  | _, _, .cons q w => .cons q (newL_snoc n z h w)
theorem newL_get {H H' : Hp} {r : Addr} : ∀ {vs : List V} {yss : List (List V)} {i : Nat}, NewL H H' r vs yss → i < vs.length → ∃ t ys, vs[i]? = some (V.ref t) ∧ yss[i]? = some ys ∧ t ≠ r ∧ H t = none ∧ H' t = some (.lst ys)
  | _, _, _, .nil, e => by simp at e
  | _, _, 0, .cons ⟨t, e, n, z, h⟩ _, _ => ⟨t, _, by rw [e]; rfl, rfl, n, z, h⟩
  | _, _, i + 1, .cons _ q, l => by
    obtain ⟨t, ys, h1, h2, h3⟩ := newL_get (i := i) q (by simpa using l)
    exact ⟨t, ys, by simpa using h1, by simpa using h2, h3⟩
theorem newL_lsts {H H' : Hp} {r : Addr} : ∀ {vs : List V} {yss : List (List V)}, NewL H H' r vs yss → Lsts H' vs yss
  | _, _, .nil => .nil
  | _, _, .cons ⟨t, e, _, _, h⟩ q => .cons ⟨t, e, h⟩ (newL_lsts q)
end Own

set_option Elab.async false
set_option linter.all false
set_option maxRecDepth 100000
set_option maxHeartbeats 4000000
/-! The head's look: the library's facts, and an error's own __init__ with its class's cell. -/
namespace Own
open PySem PySem.Spec PyProof.Rows L2
/-! ### Bools of facts -/
/-- an error class with its own __init__ -/
def oexB (K : PySem.W.Frag) (C : Addr) : Bool := (match K.lookup C with
  | some ⟨.type t, _, .cls cd, sl⟩ => decide (t = "type") && ((match cd.mro, sl.toList with
    | .ref D :: bm, [_, _, _, _, some (.builtin n), _] => decide (D = C) && (decide (n = "ValueError.__new__") && PySem.HandSPX.refsVE bm)
    | _, _ => false) && (cd.hasDict && !cd.hasDel))
  | _ => false) && (He.eqO (PySem.W.findIn K (.ref C) "__setattr__") (some (some (.builtin "object.__setattr__"))) && (decide (PySem.W.subIn K (.ref C) (.type "BaseException") = some true) && (decide (PySem.W.typeIn K (.ref C) = some (.type "type")) && PySem.W.keepIn K (.ref C))))
theorem oexB_ok {K : PySem.W.Frag} {C : Addr} (h : oexB K C = true) : OexC K C := by
  obtain ⟨h1, h⟩ := He.ba h
  obtain ⟨h2, h⟩ := He.ba h
  obtain ⟨h3, h⟩ := He.ba h
  obtain ⟨h4, h5⟩ := He.ba h
  refine ⟨?_, He.eqO_ok h2, of_decide_eq_true h3, of_decide_eq_true h4, h5⟩
  split at h1
  · rename_i t dd cd sl ho
    obtain ⟨d1, g1⟩ := He.ba h1
    obtain ⟨h6, g2⟩ := He.ba g1
    obtain ⟨h8, h9⟩ := He.ba g2
    have e1 := of_decide_eq_true d1
    clear d1 g1 g2 h1
    subst e1
    obtain ⟨nm, bs, mro, ns, qn, hd, sn, sub, ab, col, del⟩ := cd
    split at h6
    · rename_i D bm k0 k1 k2 k3 n k5 hm hs
      obtain ⟨d2, h10⟩ := He.ba h6
      obtain ⟨d3, h11⟩ := He.ba h10
      have e2 := of_decide_eq_true d2
      have e3 := of_decide_eq_true d3
      clear d2 d3 h10 h6
      subst e2 e3
      dsimp only at hm h8 h9
      subst hm h8
      have e4 : del = false := by
        cases del with
        | false => rfl
        | true => cases h9
      subst e4
      have hsl : sl = #[k0, k1, k2, k3, some (.builtin "ValueError.__new__"), k5] := by
        obtain ⟨l⟩ := sl
        simp only at hs
        rw [hs]
      subst hsl
      exact ⟨nm, qn, ns, bs, bm, sn, sub, ab, col, dd, k0, k1, k2, k3, k5, ho, h11⟩
    · cases h6
  · cases h1
/-- an error class whose instances are asked for their kind -/
def excCB (K : PySem.W.Frag) (D : Addr) : Bool := He.eqO (PySem.W.findIn K (.ref D) "__getattribute__") (some (some (.builtin "BaseException.__getattribute__"))) && (He.eqO (PySem.W.findIn K (.ref D) "__getattr__") (some none) && (decide (PySem.W.subIn K (.ref D) (.type "BaseException") = some true) &&
  (PySem.W.hasDictIn K D && (He.eqO (PySem.W.findIn K (.ref D) "__class__") (some (some (.builtin "object.__class__"))) && (He.eqO (PySem.W.specialIn K (.builtin "object.__class__") "__get__") (some (some (.builtin "getset_descriptor.__get__"))) &&
  (decide (PySem.W.takesIn K (.builtin "object.__class__") = some true) && decide (PySem.W.mroIn K D (.type "object") = some true)))))))
theorem excCB_ok {K : PySem.W.Frag} {D : Addr} (h : excCB K D = true) : ExcC K D := by
  obtain ⟨h1, h⟩ := He.ba h
  obtain ⟨h2, h⟩ := He.ba h
  obtain ⟨h3, h⟩ := He.ba h
  obtain ⟨h4, h⟩ := He.ba h
  obtain ⟨h5, h⟩ := He.ba h
  obtain ⟨h6, h⟩ := He.ba h
  obtain ⟨h7, h8⟩ := He.ba h
  exact ⟨He.eqO_ok h1, He.eqO_ok h2, of_decide_eq_true h3, h4, He.eqO_ok h5, He.eqO_ok h6, of_decide_eq_true h7, of_decide_eq_true h8⟩
/-! ### a method that captures its class -/
abbrev SupV : Type := Option (Str × Str × Arguments × FuncBody × Scope × Addr × List Str × Value × Addr)
def supObs (K : PySem.W.Frag) (f : Addr) : SupV := match K.lookup f with
  | some ⟨_, _, .func fd, _⟩ => some (fd.name, fd.qualname, fd.params, fd.body, fd.scope, fd.globals, fd.closure.map (·.1), fd.defaults, fd.builtins)
  | _ => none
def supVal (st : Stmt) : SupV := some ("__init__", "Parted.__init__", defArgs st, .stmts (defBody st), defScope st, mainGlobals, ["__class__"], .none, builtinsNs)
def fileB (o : Option Value) (file : Str) : Bool := match o with
  | some (.str g _) => (file == g)
  | _ => false
theorem fileB_ok {o : Option Value} {file : Str} (h : fileB o file = true) : ∃ g t, o = some (.str g t) ∧ (file == g) = true := by
  cases o with
  | none => cases h
  | some v =>
    cases v with
    | str g t => exact ⟨g, t, rfl, h⟩
    | _ => cases h
def supB (K : PySem.W.Frag) (f C : Addr) (file : Str) : Bool := match K.lookup f with
  | some ⟨_, _, .func fd, _⟩ => (match fd.code with
    | .ref cda => PySem.W.codeIn K (.ref cda) "Parted.__init__" && (match K.lookup cda with
      | some ⟨_, _, .fields vs, _⟩ => fileB vs[2]? file
      | _ => false)
    | _ => false) && (match fd.closure with
    | (_, cc) :: _ => (match K.lookup cc with
      | some ⟨_, _, .cell (some (.ref D)), _⟩ => decide (D = C)
      | _ => false)
    | _ => false)
  | _ => false
theorem sup_of {K : PySem.W.Frag} {mg : Str → Option Value} {P : Program} {f C : Addr} {st : Stmt} (e : supObs K f = supVal st) (b : supB K f C P.main.file = true) (oex : OexC K C) (arg : ∃ ar : Arg, ((defArgs st).posonlyargs ++ (defArgs st).args).head? = some ar ∧ ar.arg = "self")
    (sup : mg "super" = none) (opq : PySem.W.nsIn K cStatics "thirdparty.any" = some none) (meth : PySem.W.ks_superIn K C C "__init__" = some (some (.builtin "ValueError.__init__"))) (ve : PySem.W.subIn K (.ref C) (.type "ValueError") = some true) (own : PySem.W.mroIn K C (.ref C) = some true)
    (top : (P.main.scope.names.lookup ("super" : Str)).isSome = false) :
    ∃ (cda cc : Addr) (kV doc pm ct : Value) (an : Option Addr), SupC K mg P C f cda cc (defArgs st) (defBody st) (defScope st) (PySem.W.ksFn "__init__" "Parted.__init__" (defArgs st) (defBody st) (defScope st) .none kV doc pm an (.ref cda) ct cc) := by
  unfold supObs at e
  unfold supB at b
  cases q : K.lookup f with
  | none =>
    rw [q] at b
    cases b
  | some o =>
    obtain ⟨oc, od, dt, osl⟩ := o
    rw [q] at b e
    cases dt with
    | func fd =>
      obtain ⟨n1, n2, n3, n4, n5, n6, n7, n8, n9, n10, n11, n12, n13, n14, n15⟩ := fd
      have e2 : (some (n1, n2, n3, n4, n5, n6, n7.map (·.1), n8, n15) : SupV) = some (("__init__" : Str), ("Parted.__init__" : Str), defArgs st, FuncBody.stmts (defBody st), defScope st, mainGlobals, ([("__class__" : Str)] : List Str), Value.none, builtinsNs) := e
      simp only [Option.some.injEq, Prod.mk.injEq] at e2
      obtain ⟨h1, h2, h3, h4, h5, h6, h7, h8, h9⟩ := e2
      subst h1 h2 h3 h4 h5 h6 h8 h9
      obtain ⟨cc, rfl⟩ : ∃ cc, n7 = [(("__class__" : Str), cc)] := by
        cases n7 with
        | nil => exact absurd (congrArg List.length h7) (by simp)
        | cons p r =>
          cases r with
          | nil =>
            obtain ⟨x, c⟩ := p
            have z : [x] = [("__class__" : Str)] := h7
            have z2 : x = "__class__" := (List.cons.inj z).1
            exact ⟨c, by rw [z2]⟩
          | cons p2 r2 => exact absurd (congrArg List.length h7) (by simp)
      obtain ⟨b1, b2⟩ := He.ba b
      cases n13 with
      | ref cda =>
        obtain ⟨b3, b4⟩ := He.ba b1
        refine ⟨cda, cc, n9, n10, n11, n14, n12, oex, ⟨oc, .none, n9, n10, n11, n14, od, n12, osl, rfl, q⟩, arg, b3, ?_, ?_, sup, opq, meth, ve, own, top⟩
        · cases q2 : K.lookup cda with
          | none =>
            rw [q2] at b4
            cases b4
          | some o2 =>
            obtain ⟨oc2, od2, dt2, osl2⟩ := o2
            rw [q2] at b4
            cases dt2 with
            | fields vs =>
              obtain ⟨g, t, q3, b5⟩ := fileB_ok b4
              exact ⟨oc2, od2, vs, osl2, g, t, rfl, q3, b5⟩
            | _ => cases b4
        · cases q2 : K.lookup cc with
          | none =>
            have b5 : (match K.lookup cc with | some ⟨_, _, .cell (some (.ref D)), _⟩ => decide (D = C) | _ => false) = true := b2
            rw [q2] at b5
            cases b5
          | some o2 =>
            have b5 : (match K.lookup cc with | some ⟨_, _, .cell (some (.ref D)), _⟩ => decide (D = C) | _ => false) = true := b2
            obtain ⟨oc2, od2, dt2, osl2⟩ := o2
            rw [q2] at b5
            cases dt2 with
            | cell u =>
              cases u with
              | none => cases b5
              | some u =>
                cases u with
                | ref D =>
                  have z := of_decide_eq_true b5
                  exact ⟨oc2, od2, osl2, by rw [z]⟩
                | _ => cases b5
            | _ => cases b5
      | _ => cases b1
    | _ => cases b
/-! ### the look -/
def asY (g : Addr → Option Obj) (n : Nat) : List Addr := cStatics :: He.asD g n
abbrev AlY : Type := He.AlX × List SupV
def obsY (n : Nat) (fa : List He.Fa) (fn : List He.DefD) (tf : List He.Defn) (ex : PySem.W.Frag → Bool) (ss : List ((PySem.W.Frag → Addr) × Stmt)) (g : Addr → Option Obj) : AlY :=
  ((He.obsT fa fn [] (He.frT g (asY g n)), ex (He.frT g (asY g n)) && He.tabsB g tf (He.frT g (asY g n))), ss.map fun d => supObs (He.frT g (asY g n)) (d.1 (He.frT g (asY g n))))
def valY (fn : List He.DefD) (ss : List ((PySem.W.Frag → Addr) × Stmt)) (w : World) : AlY := (He.valX fn [] w, ss.map fun d => supVal d.2)
structure SaysY (fa : List He.Fa) (fn : List He.DefD) (tf : List He.Defn) (ex : PySem.W.Frag → Bool) (ss : List ((PySem.W.Frag → Addr) × Stmt)) (w : World) (h : Heap) (K : PySem.W.Frag) : Prop where
  x : He.SaysX fa fn [] tf ex w h K
  s : ss.map (fun d => supObs K (d.1 K)) = ss.map fun d => supVal d.2
theorem saysY_of {n : Nat} {fa : List He.Fa} {fn : List He.DefD} {tf : List He.Defn} {ex : PySem.W.Frag → Bool} {ss : List ((PySem.W.Frag → Addr) × Stmt)} {w : World} {h : Heap} (e : obsY n fa fn tf ex ss h.get? = valY fn ss w) : SaysY fa fn tf ex ss w h (He.frT h.get? (asY h.get? n)) := by
  obtain ⟨e12, e3⟩ := Prod.mk.inj e
  obtain ⟨e1, e2⟩ := Prod.mk.inj e12
  obtain ⟨m, tb⟩ := He.ba e2
  have look : ∀ p ∈ tf, PySem.W.codeHdIn (He.frT h.get? (asY h.get? n)) (He.cT (He.frT h.get? (asY h.get? n)) p).1 (He.cT (He.frT h.get? (asY h.get? n)) p).2 = true ∧ ∃ o, h.get? (He.cT (He.frT h.get? (asY h.get? n)) p).2 = some o ∧ He.emptyTab o = true := fun p hp => by
    obtain ⟨z1, z2⟩ := He.ba (List.all_eq_true.mp tb p hp)
    refine ⟨z1, ?_⟩
    revert z2
    cases h.get? (He.cT (He.frT h.get? (asY h.get? n)) p).2 with
    | none => exact fun z => by cases z
    | some o => exact fun z => ⟨o, rfl, z⟩
  refine ⟨⟨e1, m, fun p hp => (look p hp).1, fun p hp => ?_, fun p hp => ?_⟩, e3⟩
  · obtain ⟨_, o, q, z⟩ := look p hp
    exact He.frT_none q z
  · obtain ⟨_, o, q, z⟩ := look p hp
    rw [q, He.emptyTab_eq z]
def hookY (n : Nat) (fa : List He.Fa) (fn : List He.DefD) (tf : List He.Defn) (ex : PySem.W.Frag → Bool) (ss : List ((PySem.W.Frag → Addr) × Stmt)) : PySem.W.Hook where
  α := AlY
  obs := fun s => obsY n fa fn tf ex ss s.heap.get?
  val := fun w => valY fn ss w
  says := fun w h => ∃ K : PySem.W.Frag, K.In h ∧ SaysY fa fn tf ex ss w h K
  of := fun _ _ e => ⟨_, He.frT_in, saysY_of e⟩
  keeps := fun _ _ _ ⟨K, hK, c⟩ k => ⟨K, PySem.W.Frag.In.keeps hK k, ⟨⟨c.x.t, c.x.more, c.x.hd, c.x.out, fun p hp => k _ _ (c.x.empty p hp)⟩, c.s⟩⟩
theorem obsY_eq {n : Nat} {fa : List He.Fa} {fn : List He.DefD} {tf : List He.Defn} {ex : PySem.W.Frag → Bool} {ss : List ((PySem.W.Frag → Addr) × Stmt)} {g : Addr → Option Obj} {s : Shared} (h : ∀ a, g a = s.heap.get? a) : obsY n fa fn tf ex ss g = (hookY n fa fn tf ex ss).obs s := by
  have e : g = s.heap.get? := funext h
  rw [e] <;> rfl
theorem sup_binds {K : PySem.W.Frag} {name qual : Str} {params : Arguments} {body : List Stmt} {scope : Scope} {dV kV doc pm cdv ct : Value} {an : Option Addr} {cc : Addr} {ps : List Str}
    (h : ∀ us : List Value, us.length = ps.length → bindArgs (PySem.W.ksFn name qual params body scope dV kV doc pm an cdv ct cc) ⟨us, []⟩ = pure (ps.zip us)) : Binds K (PySem.W.ksFn name qual params body scope dV kV doc pm an cdv ct cc) ps [] := fun s us _ hl => by
  rw [List.append_nil] at hl ⊢
  exact .of_eq (h us hl)
end Own

set_option Elab.async false
set_option linter.all false
set_option maxRecDepth 100000
set_option maxHeartbeats 4000000
/-! Places joined by streets: ways, classes, their least places. -/
namespace Own
abbrev Join := List (Nat × Nat)
inductive Way (ps : Join) : Nat → Nat → Prop
  | stay (a : Nat) : Way ps a a
  | fwd {a b c : Nat} : Way ps a b → (b, c) ∈ ps → Way ps a c
  | bwd {a b c : Nat} : Way ps a b → (c, b) ∈ ps → Way ps a c
section
variable {ps qs : Join} {m a b c x y : Nat}
theorem Way.trans (h : Way ps a b) (k : Way ps b c) : Way ps a c := by
  induction k with
  | stay => exact h
  | fwd _ e ih => exact .fwd ih e
  | bwd _ e ih => exact .bwd ih e
theorem Way.symm (h : Way ps a b) : Way ps b a := by
  induction h with
  | stay => exact .stay _
  | fwd _ e ih => exact (Way.bwd (.stay _) e).trans ih
  | bwd _ e ih => exact (Way.fwd (.stay _) e).trans ih
theorem Way.mono (s : ∀ q ∈ ps, q ∈ qs) (h : Way ps a b) : Way qs a b := by
  induction h with
  | stay => exact .stay _
  | fwd _ e ih => exact .fwd ih (s _ e)
  | bwd _ e ih => exact .bwd ih (s _ e)
theorem Way.lt (s : ∀ q ∈ ps, q.1 < m ∧ q.2 < m) (ha : a < m) (h : Way ps a b) : b < m := by
  induction h with
  | stay => exact ha
  | fwd _ e ih => exact (s _ e).2
  | bwd _ e ih => exact (s _ e).1
/-- what holds the begin and is closed holds all that is come to -/
theorem Way.closed {S : Nat → Prop} (h : Way ps a b) (ha : S a) (cl : ∀ q ∈ ps, (S q.1 ↔ S q.2)) : S b := by
  induction h with
  | stay => exact ha
  | fwd _ e ih => exact (cl _ e).mp ih
  | bwd _ e ih => exact (cl _ e).mpr ih
/-- a street more -/
theorem way_snoc : Way (ps ++ [(a, b)]) x y ↔ Way ps x y ∨ (Way ps x a ∧ Way ps b y) ∨ (Way ps x b ∧ Way ps a y) := by
  have up : ∀ {u v}, Way ps u v → Way (ps ++ [(a, b)]) u v := fun h => h.mono fun q hq => List.mem_append_left _ hq
  have e : (a, b) ∈ ps ++ [(a, b)] := List.mem_append_right _ (List.mem_singleton.mpr rfl)
  constructor
  · intro h
    induction h with
    | stay => exact .inl (.stay _)
    | @fwd v w _ e ih =>
      rcases List.mem_append.mp e with e | e
      · rcases ih with h | ⟨h1, h2⟩ | ⟨h1, h2⟩
        · exact .inl (.fwd h e)
        · exact .inr (.inl ⟨h1, .fwd h2 e⟩)
        · exact .inr (.inr ⟨h1, .fwd h2 e⟩)
      · cases List.mem_singleton.mp e
        rcases ih with h | ⟨h1, h2⟩ | ⟨h1, h2⟩
        · exact .inr (.inl ⟨h, .stay _⟩)
        · exact .inr (.inl ⟨h1, .stay _⟩)
        · exact .inl h1
    | @bwd v w _ e ih =>
      rcases List.mem_append.mp e with e | e
      · rcases ih with h | ⟨h1, h2⟩ | ⟨h1, h2⟩
        · exact .inl (.bwd h e)
        · exact .inr (.inl ⟨h1, .bwd h2 e⟩)
        · exact .inr (.inr ⟨h1, .bwd h2 e⟩)
      · cases List.mem_singleton.mp e
        rcases ih with h | ⟨h1, h2⟩ | ⟨h1, h2⟩
        · exact .inr (.inr ⟨h, .stay _⟩)
        · exact .inl h1
        · exact .inr (.inr ⟨h1, .stay _⟩)
  · rintro (h | ⟨h1, h2⟩ | ⟨h1, h2⟩)
    · exact up h
    · exact (Way.fwd (up h1) e).trans (up h2)
    · exact (Way.bwd (up h1) e).trans (up h2)
/-- only what is in the list counts -/
theorem way_same (s : ∀ q, q ∈ ps ↔ q ∈ qs) : Way ps a b ↔ Way qs a b := ⟨fun h => h.mono fun q hq => (s q).mp hq, fun h => h.mono fun q hq => (s q).mpr hq⟩
/-- a street between places that are joined joins no more -/
theorem way_add (h : Way ps a b) (s : ∀ q ∈ qs, q = (a, b) ∨ q ∈ ps) (w : Way qs x y) : Way ps x y := by
  induction w with
  | stay => exact .stay _
  | fwd _ e ih =>
    rcases s _ e with z | z
    · cases z
      exact ih.trans h
    · exact .fwd ih z
  | bwd _ e ih =>
    rcases s _ e with z | z
    · cases z
      exact ih.trans h.symm
    · exact .bwd ih z
end
/-! ### the least of a class -/
def Least (ps : Join) (h : Nat) : Prop := ∀ q, q < h → ¬ Way ps q h
theorem least_of (ps : Join) : ∀ p : Nat, ∃ h, h ≤ p ∧ Way ps h p ∧ Least ps h := fun p => by
  induction p using Nat.strongRecOn with
  | ind p ih =>
    by_cases l : Least ps p
    · exact ⟨p, Nat.le_refl _, .stay _, l⟩
    · have z : ∃ q, q < p ∧ Way ps q p := Classical.byContradiction fun n => l fun q hq w => n ⟨q, hq, w⟩
      obtain ⟨q, hq, w⟩ := z
      obtain ⟨h, h1, h2, h3⟩ := ih q hq
      exact ⟨h, Nat.le_trans h1 (Nat.le_of_lt hq), h2.trans w, h3⟩
theorem least_uniq {ps : Join} {h k : Nat} (a : Least ps h) (b : Least ps k) (w : Way ps h k) : h = k := by
  rcases Nat.lt_trichotomy h k with l | e | l
  · exact (b _ l w).elim
  · exact e
  · exact (a _ l w.symm).elim
noncomputable def cls (m : Nat) (ps : Join) (p : Nat) : List Nat := (List.range m).filter fun q => @decide (Way ps p q) (Classical.propDecidable _)
noncomputable def heads (m : Nat) (ps : Join) : List Nat := (List.range m).filter fun p => @decide (Least ps p) (Classical.propDecidable _)
noncomputable def partsOf (m : Nat) (ps : Join) : List (List Nat) := (heads m ps).map (cls m ps)
section
variable {ps qs : Join} {m a b p q x y : Nat}
theorem mem_cls : q ∈ cls m ps p ↔ q < m ∧ Way ps p q := by
  unfold cls
  rw [List.mem_filter, List.mem_range]
  exact and_congr_right fun _ => @decide_eq_true_iff _ (Classical.propDecidable _)
theorem mem_heads : p ∈ heads m ps ↔ p < m ∧ Least ps p := by
  unfold heads
  rw [List.mem_filter, List.mem_range]
  exact and_congr_right fun _ => @decide_eq_true_iff _ (Classical.propDecidable _)
theorem range_up (m : Nat) : (List.range m).Pairwise (· < ·) := List.pairwise_lt_range
theorem cls_up : (cls m ps p).Pairwise (· < ·) := (range_up m).filter _
theorem heads_up : (heads m ps).Pairwise (· < ·) := (range_up m).filter _
theorem cls_same (w : Way ps p q) : cls m ps p = cls m ps q := by
  unfold cls
  refine List.filter_congr fun x _ => ?_
  have e : Way ps p x ↔ Way ps q x := ⟨fun h => w.symm.trans h, fun h => w.trans h⟩
  exact decide_eq_decide.mpr e
theorem cls_len : (cls m ps p).length ≤ m := by
  have z := List.length_filter_le (fun q => @decide (Way ps p q) (Classical.propDecidable _)) (List.range m)
  rw [List.length_range] at z
  exact z
theorem heads_len : (heads m ps).length ≤ m := by
  have z := List.length_filter_le (fun p => @decide (Least ps p) (Classical.propDecidable _)) (List.range m)
  rw [List.length_range] at z
  exact z
theorem parts_len : (partsOf m ps).length ≤ m := by
  unfold partsOf
  rw [List.length_map]
  exact heads_len
theorem parts_congr (e : ∀ x y, Way ps x y ↔ Way qs x y) : partsOf m ps = partsOf m qs := by
  have h1 : heads m ps = heads m qs := List.filter_congr fun x _ => by
    have z : Least ps x ↔ Least qs x := ⟨fun l q hq w => l q hq ((e _ _).mpr w), fun l q hq w => l q hq ((e _ _).mp w)⟩
    exact decide_eq_decide.mpr z
  have h2 : cls m ps = cls m qs := funext fun p => List.filter_congr fun x _ => by
    exact decide_eq_decide.mpr (e p x)
  unfold partsOf
  rw [h1, h2]
theorem filter_less {α : Type} {l : List α} {f g : α → Bool} (i : ∀ x ∈ l, f x = true → g x = true) (s : ∃ x ∈ l, g x = true ∧ f x = false) : (l.filter f).length < (l.filter g).length := by
  induction l with
  | nil =>
    obtain ⟨x, hx, _⟩ := s
    cases hx
  | cons a l ih =>
    have le : (l.filter f).length ≤ (l.filter g).length := by
      rw [← List.countP_eq_length_filter, ← List.countP_eq_length_filter]
      exact List.countP_mono_left fun x hx => i x (List.mem_cons_of_mem _ hx)
    obtain ⟨x, hx, gx, fx⟩ := s
    rcases List.mem_cons.mp hx with rfl | hx
    · rw [List.filter_cons, List.filter_cons, if_pos gx, if_neg (by rw [fx]; exact Bool.false_ne_true), List.length_cons]
      omega
    · have lt := ih (fun y hy => i y (List.mem_cons_of_mem _ hy)) ⟨x, hx, gx, fx⟩
      rw [List.filter_cons, List.filter_cons]
      by_cases fa : f a = true
      · rw [if_pos fa, if_pos (i a List.mem_cons_self fa), List.length_cons, List.length_cons]
        omega
      · rw [if_neg fa]
        by_cases ga : g a = true
        · rw [if_pos ga, List.length_cons]
          omega
        · rw [if_neg ga]
          exact lt
/-- a street whose ends are not joined without it: a part fewer with it -/
theorem parts_fewer (h : ¬ Way ps a b) (s : ∀ q, q ∈ qs ↔ q = (a, b) ∨ q ∈ ps) (ha : a < m) (hb : b < m) : (partsOf m qs).length < (partsOf m ps).length := by
  unfold partsOf
  rw [List.length_map, List.length_map]
  have up : ∀ {x y}, Way ps x y → Way qs x y := fun w => w.mono fun q hq => (s q).mpr (.inr hq)
  have ab : Way qs a b := .fwd (.stay _) ((s _).mpr (.inl rfl))
  refine filter_less (fun x _ hx => ?_) ?_
  · have l : Least qs x := (@decide_eq_true_iff _ (Classical.propDecidable _)).mp hx
    exact (@decide_eq_true_iff _ (Classical.propDecidable _)).mpr fun q hq w => l q hq (up w)
  · obtain ⟨la, a1, a2, a3⟩ := least_of ps a
    obtain ⟨lb, b1, b2, b3⟩ := least_of ps b
    have ne : la ≠ lb := fun e => h (a2.symm.trans (e ▸ b2))
    have both : Way qs la lb := ((up a2).trans ab).trans (up b2.symm)
    rcases Nat.lt_or_gt_of_ne ne with l | l
    · refine ⟨lb, List.mem_range.mpr (by omega), (@decide_eq_true_iff _ (Classical.propDecidable _)).mpr b3, (@decide_eq_false_iff_not _ (Classical.propDecidable _)).mpr fun z => z _ l both⟩
    · refine ⟨la, List.mem_range.mpr (by omega), (@decide_eq_true_iff _ (Classical.propDecidable _)).mpr a3, (@decide_eq_false_iff_not _ (Classical.propDecidable _)).mpr fun z => z _ l both.symm⟩
theorem parts_grow (s : ∀ q, q ∈ qs ↔ q = (a, b) ∨ q ∈ ps) (ha : a < m) (hb : b < m) : (partsOf m qs).length < (partsOf m ps).length ↔ ¬ Way ps a b := by
  refine ⟨fun l w => ?_, fun h => parts_fewer h s ha hb⟩
  have e : partsOf m ps = partsOf m qs := parts_congr fun x y => ⟨fun h => h.mono fun q hq => (s q).mpr (.inr hq), fun h => way_add w (fun q hq => (s q).mp hq) h⟩
  rw [e] at l
  omega
end
/-! ### lists in order -/
theorem up_uniq : ∀ {l1 l2 : List Nat}, l1.Pairwise (· < ·) → l2.Pairwise (· < ·) → (∀ x, x ∈ l1 ↔ x ∈ l2) → l1 = l2
  | [], [], _, _, _ => rfl
  | [], b :: l2, _, _, e => absurd ((e b).mpr List.mem_cons_self) (by simp)
  | a :: l1, [], _, _, e => absurd ((e a).mp List.mem_cons_self) (by simp)
  | a :: l1, b :: l2, p1, p2, e => by
    rw [List.pairwise_cons] at p1 p2
    have hab : a = b := by
      rcases List.mem_cons.mp ((e a).mp List.mem_cons_self) with h | h
      · exact h
      · rcases List.mem_cons.mp ((e b).mpr List.mem_cons_self) with k | k
        · exact k.symm
        · have := p2.1 a h
          have := p1.1 b k
          omega
    subst hab
    refine congrArg (a :: ·) (up_uniq p1.2 p2.2 fun x => ?_)
    constructor
    · intro h
      rcases List.mem_cons.mp ((e x).mp (List.mem_cons_of_mem _ h)) with k | k
      · have := p1.1 x h
        omega
      · exact k
    · intro h
      rcases List.mem_cons.mp ((e x).mpr (List.mem_cons_of_mem _ h)) with k | k
      · have := p2.1 x h
        omega
      · exact k
theorem nodup_le : ∀ {m : Nat} {xs : List Nat}, xs.Nodup → (∀ x ∈ xs, x < m) → xs.length ≤ m
  | 0, xs, _, h => by
    cases xs with
    | nil => exact Nat.le_refl _
    | cons a r => exact absurd (h a List.mem_cons_self) (by omega)
  | m + 1, xs, nd, h => by
    have ih := nodup_le (m := m) (xs := xs.erase m) (nd.erase _) (fun x hx => by
      have z := (nd.mem_erase_iff).mp hx
      have := h x z.2
      omega)
    have z : xs.length ≤ (xs.erase m).length + 1 := by
      by_cases hm : m ∈ xs
      · rw [List.length_erase_of_mem hm]
        omega
      · rw [List.erase_of_not_mem hm]
        omega
    omega
/-- sorted whole numbers that are these places -/
theorem sorted_cls {S : List Nat} {ys : List Int} {l : List Nat} (p : ys.Perm (S.map fun (q : Nat) => (q : Int))) (up : ys.Pairwise (· ≤ ·)) (nd : S.Nodup) (hl : l.Pairwise (· < ·)) (e : ∀ x, x ∈ S ↔ x ∈ l) : ys = l.map fun (q : Nat) => (q : Int) := by
  have nn : ∀ y ∈ ys, ∃ k : Nat, y = (k : Int) := fun y hy => by
    obtain ⟨k, _, rfl⟩ := List.mem_map.mp (p.mem_iff.mp hy)
    exact ⟨k, rfl⟩
  have back : ∃ zs : List Nat, ys = zs.map fun (q : Nat) => (q : Int) := by
    clear p up
    induction ys with
    | nil => exact ⟨[], rfl⟩
    | cons y ys ih =>
      obtain ⟨k, hk⟩ := nn y List.mem_cons_self
      obtain ⟨zs, hz⟩ := ih fun z hz => nn z (List.mem_cons_of_mem _ hz)
      exact ⟨k :: zs, by rw [hk, hz]; rfl⟩
  obtain ⟨zs, rfl⟩ := back
  have inj : Function.Injective (fun (q : Nat) => (q : Int)) := fun a b h => Int.ofNat.inj h
  have mem : ∀ x, x ∈ zs ↔ x ∈ S := fun x => by
    have z := p.mem_iff (a := (x : Int))
    constructor
    · intro h
      obtain ⟨k, hk, ek⟩ := List.mem_map.mp (z.mp (List.mem_map.mpr ⟨x, h, rfl⟩))
      have : k = x := Int.ofNat.inj ek
      exact this ▸ hk
    · intro h
      obtain ⟨k, hk, ek⟩ := List.mem_map.mp (z.mpr (List.mem_map.mpr ⟨x, h, rfl⟩))
      have : k = x := Int.ofNat.inj ek
      exact this ▸ hk
  have ndz : zs.Nodup := by
    have z : (S.map fun (q : Nat) => (q : Int)).Nodup := by
      rw [List.nodup_iff_pairwise_ne, List.pairwise_map]
      exact (List.nodup_iff_pairwise_ne.mp nd).imp fun h k => h (Int.ofNat.inj k)
    have y := (p.nodup_iff).mpr z
    rw [List.nodup_iff_pairwise_ne, List.pairwise_map] at y
    exact List.nodup_iff_pairwise_ne.mpr (y.imp fun h k => h (by rw [k]))
  have upz : zs.Pairwise (· < ·) := by
    rw [List.pairwise_map] at up
    have y := List.nodup_iff_pairwise_ne.mp ndz
    exact (up.and y).imp fun ⟨h, k⟩ => by omega
  rw [up_uniq upz hl fun x => (mem x).trans (e x)]
end Own

set_option Elab.async false
set_option linter.all false
set_option maxRecDepth 100000
set_option maxHeartbeats 4000000
/-! Steps, and the walks that are found by them: pure. -/
namespace Own
open L2
def natV (q : Nat) : V := .int (q : Int)
def ends (rows : List TRow) : Join := rows.map (·.2)
def normR (r : TRow) : TRow := (r.1, min r.2.1 r.2.2, max r.2.1 r.2.2)
def flipR (r : TRow) : TRow := (r.1, r.2.2, r.2.1)
theorem flipR_flipR (r : TRow) : flipR (flipR r) = r := rfl
theorem normR_flipR (r : TRow) : normR (flipR r) = normR r := by
  show (r.1, min r.2.2 r.2.1, max r.2.2 r.2.1) = (r.1, min r.2.1 r.2.2, max r.2.1 r.2.2)
  rw [Nat.min_comm, Nat.max_comm]
inductive Led (ws : Join) : Nat → Nat → Prop
  | stay (a : Nat) : Led ws a a
  | go {a b c : Nat} : Led ws a b → (b, c) ∈ ws → Led ws a c
section
variable {ws ws' : Join} {m a b c : Nat}
theorem Led.trans (h : Led ws a b) (k : Led ws b c) : Led ws a c := by
  induction k with
  | stay => exact h
  | go _ e ih => exact .go ih e
theorem Led.closed {S : Nat → Prop} (h : Led ws a b) (ha : S a) (cl : ∀ q ∈ ws, S q.1 → S q.2) : S b := by
  induction h with
  | stay => exact ha
  | go _ e ih => exact cl _ e ih
theorem Led.mono (s : ∀ q ∈ ws, q ∈ ws') (h : Led ws a b) : Led ws' a b := by
  induction h with
  | stay => exact .stay _
  | go _ e ih => exact .go ih (s _ e)
theorem Led.way (h : Led ws a b) : Way ws a b := by
  induction h with
  | stay => exact .stay _
  | go _ e ih => exact .fwd ih e
end
/-- both ways -/
def bothWays (rows : List TRow) : List TRow := rows.flatMap fun r => [r, flipR r]
theorem both_nil : bothWays [] = [] := rfl
theorem both_cons (r : TRow) (rows : List TRow) : bothWays (r :: rows) = r :: flipR r :: bothWays rows := rfl
theorem both_snoc (r : TRow) (rows : List TRow) : bothWays (rows ++ [r]) = bothWays rows ++ [r, flipR r] := by
  unfold bothWays
  rw [List.flatMap_append]
  rfl
theorem mem_both {rows : List TRow} {x : TRow} : x ∈ bothWays rows ↔ x ∈ rows ∨ flipR x ∈ rows := by
  unfold bothWays
  rw [List.mem_flatMap]
  constructor
  · rintro ⟨r, hr, h⟩
    simp only [List.mem_cons, List.not_mem_nil, or_false] at h
    rcases h with h | h
    · exact .inl (h ▸ hr)
    · right
      rw [h, flipR_flipR]
      exact hr
  · rintro (h | h)
    · exact ⟨x, h, List.mem_cons_self ..⟩
    · exact ⟨flipR x, h, by rw [flipR_flipR]; simp⟩
theorem both_len (rows : List TRow) : (bothWays rows).length = 2 * rows.length := by
  induction rows with
  | nil => rfl
  | cons r rows ih =>
    rw [both_cons, List.length_cons, List.length_cons, List.length_cons, ih]
    omega
theorem both_flip {rows : List TRow} {x : TRow} (h : x ∈ bothWays rows) : flipR x ∈ bothWays rows := by
  rw [mem_both] at h ⊢
  rw [flipR_flipR]
  exact h.symm
theorem both_filter (p : Nat → Bool) (rows : List TRow) : (bothWays rows).filter (fun x => p x.1) = bothWays (rows.filter fun x => p x.1) := by
  induction rows with
  | nil => rfl
  | cons r rows ih =>
    rw [both_cons]
    have f : (flipR r).1 = r.1 := rfl
    cases h : p r.1 with
    | true => rw [List.filter_cons, if_pos h, List.filter_cons, if_pos (by rw [f]; exact h), ih, List.filter_cons, if_pos h, both_cons]
    | false => rw [List.filter_cons, if_neg (by rw [h]; exact Bool.false_ne_true), List.filter_cons, if_neg (by rw [f, h]; exact Bool.false_ne_true), ih, List.filter_cons, if_neg (by rw [h]; exact Bool.false_ne_true)]
theorem both_filterP (p : Nat → Bool) (rows : List TRow) (h : ∀ r ∈ rows, p r.2.1 = p r.2.2) : (bothWays rows).filter (fun x => p x.2.1) = bothWays (rows.filter fun x => p x.2.1) := by
  induction rows with
  | nil => rfl
  | cons r rows ih =>
    have ih := ih fun x hx => h x (List.mem_cons_of_mem _ hx)
    have hr := h r (List.mem_cons_self ..)
    rw [both_cons]
    have f : (flipR r).2.1 = r.2.2 := rfl
    cases e : p r.2.1 with
    | true => rw [List.filter_cons, if_pos e, List.filter_cons, if_pos (by rw [f, ← hr]; exact e), ih, List.filter_cons, if_pos e, both_cons]
    | false => rw [List.filter_cons, if_neg (by rw [e]; exact Bool.false_ne_true), List.filter_cons, if_neg (by rw [f, ← hr, e]; exact Bool.false_ne_true), ih, List.filter_cons, if_neg (by rw [e]; exact Bool.false_ne_true)]
theorem both_in {m : Nat} {rows : List TRow} (inm : ∀ q ∈ ends rows, q.1 < m ∧ q.2 < m) : ∀ q ∈ ends (bothWays rows), q.1 < m ∧ q.2 < m := fun q hq => by
  obtain ⟨x, hx, rfl⟩ := List.mem_map.mp hq
  rcases mem_both.mp hx with h | h
  · exact inm _ (List.mem_map.mpr ⟨x, h, rfl⟩)
  · have z := inm _ (List.mem_map.mpr ⟨flipR x, h, rfl⟩)
    exact ⟨z.2, z.1⟩
theorem led_both {rows : List TRow} {a b : Nat} : Led (ends (bothWays rows)) a b ↔ Way (ends rows) a b := by
  constructor
  · intro h
    induction h with
    | stay => exact .stay _
    | @go b c _ e ih =>
      obtain ⟨x, hx, ex⟩ := List.mem_map.mp e
      have e1 : x.2.1 = b := congrArg Prod.fst ex
      have e2 : x.2.2 = c := congrArg Prod.snd ex
      rcases mem_both.mp hx with h | h
      · exact .fwd ih (List.mem_map.mpr ⟨x, h, ex⟩)
      · exact .bwd ih (List.mem_map.mpr ⟨flipR x, h, by rw [← e1, ← e2]; rfl⟩)
  · intro h
    induction h with
    | stay => exact .stay _
    | @fwd b c _ e ih =>
      obtain ⟨x, hx, ex⟩ := List.mem_map.mp e
      exact .go ih (List.mem_map.mpr ⟨x, mem_both.mpr (.inl hx), ex⟩)
    | @bwd b c _ e ih =>
      obtain ⟨x, hx, ex⟩ := List.mem_map.mp e
      have e1 : x.2.1 = c := congrArg Prod.fst ex
      have e2 : x.2.2 = b := congrArg Prod.snd ex
      exact .go ih (List.mem_map.mpr ⟨flipR x, mem_both.mpr (.inr hx), by rw [← e1, ← e2]; rfl⟩)
/-! ### walks as they are found -/
abbrev Walks := List (Nat × List TRow)
def wk (W : Walks) : List Nat := W.map (·.1)
def walkTo (W : Walks) (p : Nat) : List TRow := ((W.find? fun e => decide (e.1 = p)).map (·.2)).getD []
def stepW (a : Nat) (S : Walks × List Nat) (st : TRow) : Walks × List Nat :=
  if st.2.1 = a ∧ st.2.2 ∉ wk S.1 then (S.1 ++ [(st.2.2, walkTo S.1 a ++ [st])], S.2 ++ [st.2.2]) else S
def bfs (steps : List TRow) : Nat → Walks × List Nat → Walks
  | 0, S => S.1
  | _ + 1, (W, []) => W
  | n + 1, (W, a :: q) => bfs steps n (steps.foldl (stepW a) (W, q))
def walksF (steps : List TRow) (p : Nat) : Walks := bfs steps 16 ([(p, [])], [p])
theorem bfs_nil (steps : List TRow) (n : Nat) (W : Walks) : bfs steps n (W, []) = W := by
  cases n <;> rfl
theorem walkTo_mem {W : Walks} {k : Nat} (h : k ∈ wk W) : (k, walkTo W k) ∈ W := by
  obtain ⟨e, he, ek⟩ := List.mem_map.mp h
  unfold walkTo
  cases z : W.find? fun e => decide (e.1 = k) with
  | none =>
    have := List.find?_eq_none.mp z e he
    rw [decide_eq_true ek] at this
    exact (this rfl).elim
  | some x =>
    have h1 := List.find?_some z
    have h2 := List.mem_of_find?_eq_some z
    have h3 : x.1 = k := of_decide_eq_true h1
    show (k, x.2) ∈ W
    rw [← h3]
    exact h2
/-- how the walks hang together -/
inductive Tree (steps : List TRow) (p : Nat) : Walks → Prop
  | root : Tree steps p [(p, [])]
  | add {W : Walks} {a : Nat} {w0 : List TRow} {st : TRow} : Tree steps p W → (a, w0) ∈ W → st ∈ steps → st.2.1 = a → st.2.2 ∉ wk W → Tree steps p (W ++ [(st.2.2, w0 ++ [st])])
theorem wk_snoc (W : Walks) (k : Nat) (w : List TRow) : wk (W ++ [(k, w)]) = wk W ++ [k] := by
  unfold wk
  rw [List.map_append]
  rfl
/-- steps in a row from a to c -/
def Run : Nat → List TRow → Nat → Prop
  | a, [], c => a = c
  | a, st :: w, c => st.2.1 = a ∧ Run st.2.2 w c
theorem run_app : ∀ {u v : List TRow} {a c : Nat}, Run a (u ++ v) c ↔ ∃ b, Run a u b ∧ Run b v c
  | [], v, a, c => by
    constructor
    · exact fun h => ⟨a, rfl, h⟩
    · rintro ⟨b, h1, h2⟩
      have e : a = b := h1
      rw [List.nil_append, e]
      exact h2
  | st :: u, v, a, c => by
    show (st.2.1 = a ∧ Run st.2.2 (u ++ v) c) ↔ _
    rw [run_app]
    constructor
    · rintro ⟨e, b, h1, h2⟩
      exact ⟨b, ⟨e, h1⟩, h2⟩
    · rintro ⟨b, ⟨e, h1⟩, h2⟩
      exact ⟨e, b, h1, h2⟩
theorem run_snoc {u : List TRow} {st : TRow} {a : Nat} (h : Run a u st.2.1) : Run a (u ++ [st]) st.2.2 := run_app.mpr ⟨_, h, rfl, rfl⟩
theorem run_led : ∀ {w : List TRow} {a c : Nat}, Run a w c → Led (ends w) a c
  | [], a, c, h => by
    have e : a = c := h
    rw [e]
    exact .stay _
  | st :: w, a, c, ⟨e, h⟩ => by
    have l1 : Led (ends (st :: w)) a st.2.2 := .go (.stay a) (by rw [← e]; exact List.mem_cons_self ..)
    exact l1.trans ((run_led h).mono fun q hq => List.mem_cons_of_mem _ hq)
/-- each place on a run is led to, and leads on -/
theorem run_via : ∀ {w : List TRow} {a c : Nat}, Run a w c → ∀ st ∈ w, Led (ends w) a st.2.2 ∧ Led (ends w) st.2.2 c
  | st :: w, a, c, ⟨e, h⟩, x, hx => by
    have up : ∀ {u v : Nat}, Led (ends w) u v → Led (ends (st :: w)) u v := fun l => l.mono fun q hq => List.mem_cons_of_mem _ hq
    have l1 : Led (ends (st :: w)) a st.2.2 := .go (.stay a) (by rw [← e]; exact List.mem_cons_self ..)
    rcases List.mem_cons.mp hx with z | z
    · rw [z]
      exact ⟨l1, up (run_led h)⟩
    · have ih := run_via h x z
      exact ⟨l1.trans (up ih.1), up ih.2⟩
section
variable {steps : List TRow} {p m : Nat} {W : Walks}
theorem tree_root (T : Tree steps p W) : p ∈ wk W := by
  induction T with
  | root => exact List.mem_cons_self ..
  | add _ _ _ _ _ ih => rw [wk_snoc]; exact List.mem_append_left _ ih
theorem tree_nd (T : Tree steps p W) : (wk W).Nodup := by
  induction T with
  | root => exact (List.nodup_cons.mpr ⟨List.not_mem_nil, List.nodup_nil⟩)
  | add _ _ _ _ n ih =>
    rw [wk_snoc, List.nodup_append]
    refine ⟨ih, (List.nodup_cons.mpr ⟨List.not_mem_nil, List.nodup_nil⟩), fun x hx y hy e => ?_⟩
    rw [List.mem_singleton] at hy
    rw [hy] at e
    rw [e] at hx
    exact n hx
theorem tree_led (T : Tree steps p W) : ∀ k ∈ wk W, Led (ends steps) p k := by
  induction T with
  | root =>
    intro k hk
    rw [List.mem_singleton.mp hk]
    exact .stay _
  | @add W a w0 st T ha hs e n ih =>
    intro k hk
    rw [wk_snoc] at hk
    rcases List.mem_append.mp hk with z | z
    · exact ih k z
    · rw [List.mem_singleton.mp z]
      exact .go (ih a (List.mem_map.mpr ⟨_, ha, rfl⟩)) (List.mem_map.mpr ⟨st, hs, by rw [← e]⟩)
theorem tree_run (T : Tree steps p W) : ∀ e ∈ W, Run p e.2 e.1 ∧ (∀ st ∈ e.2, st ∈ steps ∧ st.2.1 ∈ wk W ∧ st.2.2 ∈ wk W) ∧ e.2.length < W.length := by
  induction T with
  | root =>
    intro e he
    rw [List.mem_singleton.mp he]
    exact ⟨rfl, fun st hst => absurd hst List.not_mem_nil, Nat.zero_lt_one⟩
  | @add W a w0 st T ha hs e n ih =>
    intro x hx
    have len : (W ++ [(st.2.2, w0 ++ [st])]).length = W.length + 1 := by rw [List.length_append]; rfl
    rcases List.mem_append.mp hx with z | z
    · obtain ⟨h1, h2, h3⟩ := ih x z
      refine ⟨h1, fun y hy => ?_, by omega⟩
      obtain ⟨g1, g2, g3⟩ := h2 y hy
      rw [wk_snoc]
      exact ⟨g1, List.mem_append_left _ g2, List.mem_append_left _ g3⟩
    · rw [List.mem_singleton.mp z]
      obtain ⟨h1, h2, h3⟩ := ih _ ha
      refine ⟨run_snoc (by rw [e]; exact h1), fun y hy => ?_, ?_⟩
      · rw [wk_snoc]
        rcases List.mem_append.mp hy with y1 | y1
        · obtain ⟨g1, g2, g3⟩ := h2 y y1
          exact ⟨g1, List.mem_append_left _ g2, List.mem_append_left _ g3⟩
        · rw [List.mem_singleton.mp y1]
          exact ⟨hs, List.mem_append_left _ (by rw [e]; exact List.mem_map.mpr ⟨_, ha, rfl⟩), List.mem_append_right _ (List.mem_singleton.mpr rfl)⟩
      · show (w0 ++ [st]).length < _
        rw [len, List.length_append]
        show w0.length + 1 < _
        have : w0.length < W.length := h3
        omega
/-- where a number has one street, no street is walked twice -/
theorem tree_nums (T : Tree steps p W) (u : ∀ x ∈ steps, ∀ y ∈ steps, x.1 = y.1 → y = x ∨ y = flipR x) : ∀ e ∈ W, (e.2.map (·.1)).Nodup := by
  induction T with
  | root =>
    intro e he
    rw [List.mem_singleton.mp he]
    exact List.nodup_nil
  | @add W a w0 st T ha hs e n ih =>
    intro x hx
    rcases List.mem_append.mp hx with z | z
    · exact ih x z
    · rw [List.mem_singleton.mp z]
      show ((w0 ++ [st]).map (·.1)).Nodup
      rw [List.map_append, List.nodup_append]
      refine ⟨ih _ ha, (List.nodup_cons.mpr ⟨List.not_mem_nil, List.nodup_nil⟩), fun i hi j hj ij => ?_⟩
      obtain ⟨y, hy, ey⟩ := List.mem_map.mp hi
      have hj : j = st.1 := List.mem_singleton.mp hj
      have g := (tree_run T _ ha).2.1 y hy
      rcases u y g.1 st hs (by rw [ey, ij, hj]) with s | s
      · rw [s] at n
        exact n g.2.2
      · rw [s] at n
        exact n g.2.1
/-- the search, in the midst -/
structure BfsI (steps : List TRow) (p m : Nat) (S : Walks × List Nat) : Prop where
  tree : Tree steps p S.1
  lt : ∀ k ∈ wk S.1, k < m
  sub : ∀ a ∈ S.2, a ∈ wk S.1
theorem bfsI_len {S : Walks × List Nat} (I : BfsI steps p m S) : S.1.length ≤ m := by
  have z := nodup_le (tree_nd I.tree) I.lt
  unfold wk at z
  rw [List.length_map] at z
  exact z
theorem stepW_yes {a : Nat} {S : Walks × List Nat} {st : TRow} (h1 : st.2.1 = a) (h2 : st.2.2 ∉ wk S.1) : stepW a S st = (S.1 ++ [(st.2.2, walkTo S.1 a ++ [st])], S.2 ++ [st.2.2]) := if_pos ⟨h1, h2⟩
theorem stepW_no {a : Nat} {S : Walks × List Nat} {st : TRow} (h : ¬ (st.2.1 = a ∧ st.2.2 ∉ wk S.1)) : stepW a S st = S := if_neg h
theorem stepW_I {S : Walks × List Nat} {a : Nat} {st : TRow} (I : BfsI steps p m S) (ha : a ∈ wk S.1) (hs : st ∈ steps) (b : st.2.2 < m) : BfsI steps p m (stepW a S st) := by
  by_cases h : st.2.1 = a ∧ st.2.2 ∉ wk S.1
  · rw [stepW_yes h.1 h.2]
    refine ⟨.add I.tree (walkTo_mem ha) hs h.1 h.2, fun k hk => ?_, fun x hx => ?_⟩
    · rw [wk_snoc] at hk
      rcases List.mem_append.mp hk with z | z
      · exact I.lt k z
      · rw [List.mem_singleton.mp z]
        exact b
    · show x ∈ wk (S.1 ++ [_])
      rw [wk_snoc]
      rcases List.mem_append.mp hx with z | z
      · exact List.mem_append_left _ (I.sub x z)
      · exact List.mem_append_right _ z
  · rw [stepW_no h]
    exact I
theorem stepW_keep {S : Walks × List Nat} {a : Nat} {st : TRow} {k : Nat} (h : k ∈ wk S.1) : k ∈ wk (stepW a S st).1 := by
  by_cases c : st.2.1 = a ∧ st.2.2 ∉ wk S.1
  · rw [stepW_yes c.1 c.2]
    show k ∈ wk (S.1 ++ [_])
    rw [wk_snoc]
    exact List.mem_append_left _ h
  · rw [stepW_no c]
    exact h
theorem stepW_put {S : Walks × List Nat} {a : Nat} {st : TRow} (h : st.2.1 = a) : st.2.2 ∈ wk (stepW a S st).1 := by
  by_cases c : st.2.2 ∈ wk S.1
  · exact stepW_keep c
  · rw [stepW_yes h c]
    show _ ∈ wk (S.1 ++ [_])
    rw [wk_snoc]
    exact List.mem_append_right _ (List.mem_singleton.mpr rfl)
/-- as much as the walks grow, so much longer those that wait; what is new waits -/
theorem stepW_size (S : Walks × List Nat) (a : Nat) (st : TRow) : (stepW a S st).2.length + S.1.length = S.2.length + (stepW a S st).1.length := by
  by_cases c : st.2.1 = a ∧ st.2.2 ∉ wk S.1
  · rw [stepW_yes c.1 c.2, List.length_append, List.length_append]
    show S.2.length + 1 + S.1.length = S.2.length + (S.1.length + 1)
    omega
  · rw [stepW_no c]
theorem stepW_new {S : Walks × List Nat} {a : Nat} {st : TRow} {k : Nat} (h : k ∈ wk (stepW a S st).1) : k ∈ wk S.1 ∨ k ∈ (stepW a S st).2 := by
  by_cases c : st.2.1 = a ∧ st.2.2 ∉ wk S.1
  · rw [stepW_yes c.1 c.2] at h ⊢
    have h : k ∈ wk (S.1 ++ [_]) := h
    rw [wk_snoc] at h
    rcases List.mem_append.mp h with z | z
    · exact .inl z
    · exact .inr (List.mem_append_right _ z)
  · rw [stepW_no c] at h
    exact .inl h
theorem stepW_wait {S : Walks × List Nat} {a : Nat} {st : TRow} {k : Nat} (h : k ∈ S.2) : k ∈ (stepW a S st).2 := by
  by_cases c : st.2.1 = a ∧ st.2.2 ∉ wk S.1
  · rw [stepW_yes c.1 c.2]
    exact List.mem_append_left _ h
  · rw [stepW_no c]
    exact h
/-- all steps of one place -/
structure FoldW (steps : List TRow) (p m a : Nat) (xs : List TRow) (S S' : Walks × List Nat) : Prop where
  I : BfsI steps p m S'
  keep : ∀ k ∈ wk S.1, k ∈ wk S'.1
  size : S'.2.length + S.1.length = S.2.length + S'.1.length
  new : ∀ k ∈ wk S'.1, k ∈ wk S.1 ∨ k ∈ S'.2
  wait : ∀ k ∈ S.2, k ∈ S'.2
  put : ∀ st ∈ xs, st.2.1 = a → st.2.2 ∈ wk S'.1
theorem fold_W {a : Nat} : ∀ {xs : List TRow} {S : Walks × List Nat}, BfsI steps p m S → a ∈ wk S.1 → (∀ st ∈ xs, st ∈ steps ∧ st.2.2 < m) → FoldW steps p m a xs S (xs.foldl (stepW a) S)
  | [], S, I, _, _ => ⟨I, fun _ h => h, rfl, fun _ h => .inl h, fun _ h => h, fun _ h => absurd h List.not_mem_nil⟩
  | x :: xs, S, I, ha, h => by
    have hx := h x (List.mem_cons_self ..)
    have F := fold_W (xs := xs) (S := stepW a S x) (stepW_I I ha hx.1 hx.2) (stepW_keep ha) fun st hst => h st (List.mem_cons_of_mem _ hst)
    have sz := stepW_size S a x
    have sz2 := F.size
    refine ⟨F.I, fun k hk => F.keep k (stepW_keep hk), ?_, fun k hk => ?_, fun k hk => F.wait k (stepW_wait hk), fun st hst e => ?_⟩
    · show (xs.foldl (stepW a) (stepW a S x)).2.length + S.1.length = _
      show _ = S.2.length + (xs.foldl (stepW a) (stepW a S x)).1.length
      omega
    · rcases F.new k hk with z | z
      · rcases stepW_new z with y | y
        · exact .inl y
        · exact .inr (F.wait k y)
      · exact .inr z
    · rcases List.mem_cons.mp hst with z | z
      · rw [z] at e ⊢
        exact F.keep _ (stepW_put e)
      · exact F.put st z e
theorem bfs_spec (inm : ∀ q ∈ ends steps, q.1 < m ∧ q.2 < m) : ∀ {n : Nat} {S : Walks × List Nat}, BfsI steps p m S → (∀ k ∈ wk S.1, k ∉ S.2 → ∀ st ∈ steps, st.2.1 = k → st.2.2 ∈ wk S.1) → S.2.length + (m - S.1.length) ≤ n →
    BfsI steps p m (bfs steps n S, []) ∧ ∀ k ∈ wk (bfs steps n S), ∀ st ∈ steps, st.2.1 = k → st.2.2 ∈ wk (bfs steps n S)
  | n, (W, []), I, cl, _ => by
    rw [bfs_nil]
    exact ⟨I, fun k hk => cl k hk List.not_mem_nil⟩
  | 0, (W, a :: q), I, cl, h => by
    have h : (q.length + 1) + (m - W.length) ≤ 0 := h
    omega
  | n + 1, (W, a :: q), I, cl, h => by
    have h : (q.length + 1) + (m - W.length) ≤ n + 1 := h
    have ha : a ∈ wk W := I.sub a (List.mem_cons_self ..)
    have I0 : BfsI steps p m (W, q) := ⟨I.tree, I.lt, fun x hx => I.sub x (List.mem_cons_of_mem _ hx)⟩
    have F := fold_W (a := a) (xs := steps) I0 ha fun st hst => ⟨hst, (inm _ (List.mem_map.mpr ⟨st, hst, rfl⟩)).2⟩
    have sz : (steps.foldl (stepW a) (W, q)).2.length + W.length = q.length + (steps.foldl (stepW a) (W, q)).1.length := F.size
    have l1 : (steps.foldl (stepW a) (W, q)).1.length ≤ m := bfsI_len F.I
    have l0 : W.length ≤ m := bfsI_len I0
    refine bfs_spec inm (n := n) F.I (fun k hk hn st hst e => ?_) (by omega)
    rcases F.new k hk with z | z
    · by_cases ka : k = a
      · exact F.put st hst (e.trans ka)
      · refine F.keep _ (cl k z (fun y => ?_) st hst e)
        rcases List.mem_cons.mp y with y | y
        · exact ka y
        · exact hn (F.wait k y)
    · exact (hn z).elim
theorem bfs_start (hp : p < m) : BfsI steps p m ([(p, [])], [p]) := ⟨.root, fun k hk => by rw [List.mem_singleton.mp hk]; exact hp, fun a ha => ha⟩
theorem walks_spec (inm : ∀ q ∈ ends steps, q.1 < m ∧ q.2 < m) (hp : p < m) (m16 : m ≤ 16) : Tree steps p (walksF steps p) ∧ (∀ k, k ∈ wk (walksF steps p) ↔ k < m ∧ Led (ends steps) p k) := by
  have z := bfs_spec inm (n := 16) (bfs_start (steps := steps) hp) (fun k hk hn => (hn hk).elim) (by show 1 + (m - 1) ≤ 16; omega)
  refine ⟨z.1.tree, fun k => ⟨fun hk => ⟨z.1.lt k hk, tree_led z.1.tree k hk⟩, fun hk => ?_⟩⟩
  refine hk.2.closed (S := fun k => k ∈ wk (walksF steps p)) (tree_root z.1.tree) fun q hq h1 => ?_
  obtain ⟨st, hst, e⟩ := List.mem_map.mp hq
  rw [← e]
  exact z.2 _ h1 st hst (by rw [← e])
theorem walks_len (inm : ∀ q ∈ ends steps, q.1 < m ∧ q.2 < m) (hp : p < m) (m16 : m ≤ 16) : (walksF steps p).length ≤ m := by
  have z := bfs_spec inm (n := 16) (bfs_start (steps := steps) hp) (fun k hk hn => (hn hk).elim) (by show 1 + (m - 1) ≤ 16; omega)
  exact bfsI_len z.1
end
end Own

set_option Elab.async false
set_option linter.all false
set_option maxRecDepth 100000
set_option maxHeartbeats 4000000
/-! Rows of steps out of a piece: each leads from what is had to what is had. -/
namespace Own
open L2
def rowF (steps : List TRow) (had : List Nat) : List TRow :=
  match steps.filter (fun st => decide (st.2.1 ∈ had)) with
  | [] => []
  | f :: _ =>
    match (wk (walksF (steps.filter fun st => decide (st.1 ≠ f.1)) f.2.2)).filter (fun k => decide (k ∈ had)) with
    | [] => []
    | k :: _ => f :: walkTo (walksF (steps.filter fun st => decide (st.1 ≠ f.1)) f.2.2) k
def leftF (steps row : List TRow) : List TRow := steps.filter fun st => decide (st.1 ∉ row.map (·.1))
def moreF (had : List Nat) (row : List TRow) : List Nat := had ++ row.dropLast.map (·.2.2)
def rowsF : Nat → List TRow → List Nat → List (List TRow)
  | 0, _, _ => []
  | n + 1, steps, had => if steps.isEmpty = true then [] else rowF steps had :: rowsF n (leftF steps (rowF steps had)) (moreF had (rowF steps had))
/-- where a row can be told -/
structure RowAt (steps : List TRow) (had : List Nat) (f : TRow) (fs : List TRow) (k : Nat) (ks : List Nat) : Prop where
  first : steps.filter (fun st => decide (st.2.1 ∈ had)) = f :: fs
  last : (wk (walksF (steps.filter fun st => decide (st.1 ≠ f.1)) f.2.2)).filter (fun k => decide (k ∈ had)) = k :: ks
theorem rowF_eq {steps : List TRow} {had : List Nat} {f : TRow} {fs : List TRow} {k : Nat} {ks : List Nat} (A : RowAt steps had f fs k ks) : rowF steps had = f :: walkTo (walksF (steps.filter fun st => decide (st.1 ≠ f.1)) f.2.2) k := by
  unfold rowF
  rw [A.first]
  dsimp only
  rw [A.last]
/-- a piece: joined, also without any one of its streets -/
structure PieceI (m : Nat) (E : List TRow) (pc : List Nat) : Prop where
  lt : ∀ x ∈ pc, x < m
  inE : ∀ r ∈ E, r.2.1 ∈ pc ∧ r.2.2 ∈ pc
  conn : ∀ x ∈ pc, ∀ y ∈ pc, Way (ends E) x y
  two : ∀ r ∈ E, Way (ends (E.filter fun q => decide (q.1 ≠ r.1))) r.2.1 r.2.2
  nums : ∀ x ∈ E, ∀ y ∈ E, x.1 = y.1 → x = y
structure RowsI (E : List TRow) (pc : List Nat) (steps : List TRow) (had : List Nat) (told : List TRow) : Prop where
  st : steps = bothWays (E.filter fun r => decide (r.1 ∉ told.map (·.1)))
  sub : ∀ x ∈ had, x ∈ pc
  one : had ≠ []
  used : ∀ r ∈ E, r.1 ∈ told.map (·.1) → r.2.1 ∈ had ∧ r.2.2 ∈ had
  strong : ∀ x ∈ had, ∀ y ∈ had, Led (ends told) x y
  mem : ∀ st ∈ told, st ∈ bothWays E
  nd : (told.map (·.1)).Nodup
theorem run_ends : ∀ {w : List TRow} {a c : Nat}, Run a w c → ∀ st ∈ w, (st.2.1 = a ∨ st.2.1 ∈ w.dropLast.map (·.2.2)) ∧ (st.2.2 = c ∨ st.2.2 ∈ w.dropLast.map (·.2.2))
  | [x], a, c, ⟨e, h⟩, st, hst => by
    rw [List.mem_singleton.mp hst]
    exact ⟨.inl e, .inl h⟩
  | x :: y :: w, a, c, ⟨e, h⟩, st, hst => by
    have d : (x :: y :: w).dropLast = x :: (y :: w).dropLast := rfl
    rw [d, List.map_cons]
    rcases List.mem_cons.mp hst with z | z
    · rw [z]
      exact ⟨.inl e, .inr (List.mem_cons_self ..)⟩
    · obtain ⟨h1, h2⟩ := run_ends h st z
      refine ⟨?_, ?_⟩
      · rcases h1 with h1 | h1
        · rw [h1]
          exact .inr (List.mem_cons_self ..)
        · exact .inr (List.mem_cons_of_mem _ h1)
      · rcases h2 with h2 | h2
        · exact .inl h2
        · exact .inr (List.mem_cons_of_mem _ h2)
section
variable {m : Nat} {E steps told : List TRow} {pc had : List Nat}
theorem filter_some {α : Type} {l : List α} {p : α → Bool} (h : ∃ x ∈ l, p x = true) : ∃ y ys, l.filter p = y :: ys := by
  obtain ⟨x, hx, px⟩ := h
  cases z : l.filter p with
  | nil => exact absurd (List.filter_eq_nil_iff.mp z x hx) (fun y => y px)
  | cons y ys => exact ⟨y, ys, rfl⟩
theorem filter_head {α : Type} {l : List α} {p : α → Bool} {y : α} {ys : List α} (h : l.filter p = y :: ys) : y ∈ l ∧ p y = true := List.mem_filter.mp (by rw [h]; exact List.mem_cons_self ..)
theorem rowsI_in (P : PieceI m E pc) (R : RowsI E pc steps had told) : ∀ st ∈ steps, st ∈ bothWays E ∧ st.1 ∉ told.map (·.1) := fun st hst => by
  rw [R.st] at hst
  rcases mem_both.mp hst with z | z
  · obtain ⟨z1, z2⟩ := List.mem_filter.mp z
    exact ⟨mem_both.mpr (.inl z1), of_decide_eq_true z2⟩
  · obtain ⟨z1, z2⟩ := List.mem_filter.mp z
    exact ⟨mem_both.mpr (.inr z1), (show (flipR st).1 ∉ _ from of_decide_eq_true z2)⟩
theorem both_pc (P : PieceI m E pc) {st : TRow} (h : st ∈ bothWays E) : st.2.1 ∈ pc ∧ st.2.2 ∈ pc := by
  rcases mem_both.mp h with z | z
  · exact P.inE st z
  · have := P.inE _ z
    exact ⟨this.2, this.1⟩
theorem both_two (P : PieceI m E pc) {st : TRow} (h : st ∈ bothWays E) : Way (ends (E.filter fun q => decide (q.1 ≠ st.1))) st.2.1 st.2.2 := by
  rcases mem_both.mp h with z | z
  · exact P.two st z
  · exact (P.two _ z).symm
theorem both_nums (P : PieceI m E pc) {x y : TRow} (hx : x ∈ bothWays E) (hy : y ∈ bothWays E) (e : x.1 = y.1) : y = x ∨ y = flipR x := by
  rcases mem_both.mp hx with a | a <;> rcases mem_both.mp hy with b | b
  · exact .inl (P.nums _ a _ b e).symm
  · have z : x = flipR y := P.nums _ a _ b e
    exact .inr (by rw [z]; rfl)
  · have z : flipR x = y := P.nums _ a _ b e
    exact .inr z.symm
  · have z : flipR x = flipR y := P.nums _ a _ b e
    exact .inl (by rw [← flipR_flipR y, ← z]; rfl)
theorem others_eq (R : RowsI E pc steps had told) (k : Nat) : (steps.filter fun st => decide (st.1 ≠ k)) = bothWays ((E.filter fun r => decide (r.1 ∉ told.map (·.1))).filter fun r => decide (r.1 ≠ k)) := by
  rw [R.st]
  exact both_filter (fun n => decide (n ≠ k)) _
theorem others_in (P : PieceI m E pc) (R : RowsI E pc steps had told) (k : Nat) : ∀ q ∈ ends (steps.filter fun st => decide (st.1 ≠ k)), q.1 < m ∧ q.2 < m := fun q hq => by
  obtain ⟨x, hx, rfl⟩ := List.mem_map.mp hq
  have z := both_pc P (rowsI_in P R x (List.mem_filter.mp hx).1).1
  exact ⟨P.lt _ z.1, P.lt _ z.2⟩
theorem row_at (P : PieceI m E pc) (m16 : m ≤ 16) (R : RowsI E pc steps had told) (ne : steps ≠ []) : ∃ f fs k ks, RowAt steps had f fs k ks := by
  obtain ⟨h, hh⟩ := List.exists_mem_of_ne_nil _ R.one
  have first : ∃ st ∈ steps, decide (st.2.1 ∈ had) = true := by
    refine Classical.byContradiction fun no => ?_
    have no' : ∀ st ∈ steps, st.2.1 ∉ had := fun st hst y => no ⟨st, hst, decide_eq_true y⟩
    obtain ⟨x, hx⟩ := List.exists_mem_of_ne_nil _ ne
    have px := both_pc P (rowsI_in P R x hx).1
    have w := P.conn h (R.sub h hh) x.2.1 px.1
    refine no' x hx (w.closed (S := fun q => q ∈ had) hh fun q hq => ?_)
    obtain ⟨e, he, rfl⟩ := List.mem_map.mp hq
    by_cases u : e.1 ∈ told.map (·.1)
    · have z := R.used e he u
      exact ⟨fun _ => z.2, fun _ => z.1⟩
    · have z : e ∈ E.filter fun r => decide (r.1 ∉ told.map (·.1)) := List.mem_filter.mpr ⟨he, decide_eq_true u⟩
      have e1 : e ∈ steps := by rw [R.st]; exact mem_both.mpr (.inl z)
      have e2 : flipR e ∈ steps := by rw [R.st]; exact mem_both.mpr (.inr z)
      exact ⟨fun y => (no' _ e1 y).elim, fun y => (no' _ e2 y).elim⟩
  obtain ⟨f, fs, hf⟩ := filter_some first
  obtain ⟨f1, f2⟩ := filter_head hf
  have f2 : f.2.1 ∈ had := of_decide_eq_true f2
  have f3 := (rowsI_in P R f f1).1
  have f4 := both_pc P f3
  have spec := walks_spec (others_in P R f.1) (P.lt _ f4.2) m16
  have last : ∃ k ∈ wk (walksF (steps.filter fun st => decide (st.1 ≠ f.1)) f.2.2), decide (k ∈ had) = true := by
    refine Classical.byContradiction fun no => ?_
    have oe := others_eq R f.1
    generalize (steps.filter fun st => decide (st.1 ≠ f.1)) = others at *
    have no' : ∀ x ∈ had, ¬ Way (ends ((E.filter fun r => decide (r.1 ∉ told.map (·.1))).filter fun r => decide (r.1 ≠ f.1))) f.2.2 x := fun x hx w => by
      refine no ⟨x, (spec.2 x).mpr ⟨P.lt _ (R.sub x hx), ?_⟩, decide_eq_true hx⟩
      rw [oe]
      exact led_both.mpr w
    refine no' f.2.1 f2 ((both_two P f3).symm.closed (S := fun x => Way (ends ((E.filter fun r => decide (r.1 ∉ told.map (·.1))).filter fun r => decide (r.1 ≠ f.1))) f.2.2 x) (.stay _) fun q hq => ?_)
    obtain ⟨e, he, rfl⟩ := List.mem_map.mp hq
    obtain ⟨he1, he2⟩ := List.mem_filter.mp he
    by_cases u : e.1 ∈ told.map (·.1)
    · have z := R.used e he1 u
      exact ⟨fun y => (no' _ z.1 y).elim, fun y => (no' _ z.2 y).elim⟩
    · have z : e ∈ (E.filter fun r => decide (r.1 ∉ told.map (·.1))).filter fun r => decide (r.1 ≠ f.1) := List.mem_filter.mpr ⟨List.mem_filter.mpr ⟨he1, decide_eq_true u⟩, he2⟩
      have ze : e.2 ∈ ends ((E.filter fun r => decide (r.1 ∉ told.map (·.1))).filter fun r => decide (r.1 ≠ f.1)) := List.mem_map.mpr ⟨e, z, rfl⟩
      exact ⟨fun y => .fwd y ze, fun y => .bwd y ze⟩
  obtain ⟨k, ks, hk⟩ := filter_some last
  exact ⟨f, fs, k, ks, hf, hk⟩
/-- what a row is -/
structure RowIs (steps : List TRow) (had : List Nat) (row : List TRow) : Prop where
  run : ∃ a ∈ had, ∃ c ∈ had, Run a row c
  mem : ∀ st ∈ row, st ∈ steps
  nd : (row.map (·.1)).Nodup
  ne : row ≠ []
  few : row.length ≤ 17
theorem row_is (P : PieceI m E pc) (m16 : m ≤ 16) (R : RowsI E pc steps had told) {f : TRow} {fs : List TRow} {k : Nat} {ks : List Nat} (A : RowAt steps had f fs k ks) : RowIs steps had (rowF steps had) := by
  rw [rowF_eq A]
  obtain ⟨f1, f2⟩ := filter_head A.first
  have f2 : f.2.1 ∈ had := of_decide_eq_true f2
  obtain ⟨k1, k2⟩ := filter_head A.last
  have k2 : k ∈ had := of_decide_eq_true k2
  have f3 := (rowsI_in P R f f1).1
  have spec := walks_spec (others_in P R f.1) (P.lt _ (both_pc P f3).2) m16
  have len := walks_len (others_in P R f.1) (P.lt _ (both_pc P f3).2) m16
  have u : ∀ x ∈ steps.filter (fun st => decide (st.1 ≠ f.1)), ∀ y ∈ steps.filter (fun st => decide (st.1 ≠ f.1)), x.1 = y.1 → y = x ∨ y = flipR x := fun x hx y hy e =>
    both_nums P (rowsI_in P R x (List.mem_filter.mp hx).1).1 (rowsI_in P R y (List.mem_filter.mp hy).1).1 e
  have km := walkTo_mem k1
  obtain ⟨r1, r2, r3⟩ := tree_run spec.1 _ km
  have r4 := tree_nums spec.1 u _ km
  have r1 : Run f.2.2 (walkTo (walksF (steps.filter fun st => decide (st.1 ≠ f.1)) f.2.2) k) k := r1
  generalize hw : walkTo (walksF (steps.filter fun st => decide (st.1 ≠ f.1)) f.2.2) k = w at *
  refine ⟨⟨f.2.1, f2, k, k2, rfl, r1⟩, fun st hst => ?_, ?_, by simp, ?_⟩
  · rcases List.mem_cons.mp hst with z | z
    · rw [z]
      exact f1
    · exact (List.mem_filter.mp (r2 st z).1).1
  · rw [List.map_cons, List.nodup_cons]
    refine ⟨fun z => ?_, r4⟩
    obtain ⟨x, hx, ex⟩ := List.mem_map.mp z
    exact of_decide_eq_true (List.mem_filter.mp (r2 x hx).1).2 ex
  · show w.length + 1 ≤ 17
    have r3 : w.length < _ := r3
    omega
theorem nots (a : Nat) (A B : List Nat) : (decide (a ∉ A) && decide (a ∉ B)) = decide (a ∉ B ++ A) := by
  by_cases h1 : a ∈ A
  · rw [decide_eq_false (p := a ∉ A) (fun z => z h1), decide_eq_false (p := a ∉ B ++ A) (fun z => z (List.mem_append_right _ h1))]
    rfl
  · by_cases h2 : a ∈ B
    · rw [decide_eq_false (p := a ∉ B) (fun z => z h2), decide_eq_false (p := a ∉ B ++ A) (fun z => z (List.mem_append_left _ h2)), Bool.and_false]
    · rw [decide_eq_true h1, decide_eq_true h2, decide_eq_true (p := a ∉ B ++ A) (fun z => (List.mem_append.mp z).elim h2 h1)]
      rfl
theorem row_next (P : PieceI m E pc) (R : RowsI E pc steps had told) {row : List TRow} (I : RowIs steps had row) : RowsI E pc (leftF steps row) (moreF had row) (told ++ row) := by
  obtain ⟨a, ha, c, hc, run⟩ := I.run
  have inBoth : ∀ st ∈ row, st ∈ bothWays E := fun st hst => (rowsI_in P R st (I.mem st hst)).1
  have hadUp : ∀ x ∈ had, x ∈ moreF had row := fun x hx => List.mem_append_left _ hx
  have ledUp : ∀ {x y : Nat}, Led (ends told) x y → Led (ends (told ++ row)) x y := fun l => l.mono fun q hq => by
    unfold ends at hq ⊢
    rw [List.map_append]
    exact List.mem_append_left _ hq
  have ledRow : ∀ {x y : Nat}, Led (ends row) x y → Led (ends (told ++ row)) x y := fun l => l.mono fun q hq => by
    unfold ends at hq ⊢
    rw [List.map_append]
    exact List.mem_append_right _ hq
  have near : ∀ x ∈ moreF had row, (∃ h ∈ had, Led (ends (told ++ row)) h x) ∧ ∃ h ∈ had, Led (ends (told ++ row)) x h := fun x hx => by
    rcases List.mem_append.mp hx with z | z
    · exact ⟨⟨x, z, .stay _⟩, x, z, .stay _⟩
    · obtain ⟨st, hst, rfl⟩ := List.mem_map.mp z
      have v := run_via run st (List.dropLast_subset _ hst)
      exact ⟨⟨a, ha, ledRow v.1⟩, c, hc, ledRow v.2⟩
  refine ⟨?_, fun x hx => ?_, ?_, fun r hr hu => ?_, fun x hx y hy => ?_, fun st hst => ?_, ?_⟩
  · unfold leftF
    rw [R.st]
    have e := both_filter (fun n => decide (n ∉ row.map (·.1))) (E.filter fun r => decide (r.1 ∉ told.map (·.1)))
    rw [e, List.filter_filter]
    refine congrArg bothWays (List.filter_congr fun r _ => ?_)
    rw [List.map_append]
    exact nots _ _ _
  · rcases List.mem_append.mp hx with z | z
    · exact R.sub x z
    · obtain ⟨st, hst, rfl⟩ := List.mem_map.mp z
      exact (both_pc P (inBoth st (List.dropLast_subset _ hst))).2
  · intro z
    exact R.one (List.append_eq_nil_iff.mp z).1
  · rw [List.map_append] at hu
    rcases List.mem_append.mp hu with z | z
    · have y := R.used r hr z
      exact ⟨hadUp _ y.1, hadUp _ y.2⟩
    · obtain ⟨st, hst, e⟩ := List.mem_map.mp z
      have en := run_ends run st hst
      have s1 : st.2.1 ∈ moreF had row := by
        rcases en.1 with y | y
        · rw [y]
          exact hadUp _ ha
        · exact List.mem_append_right _ y
      have s2 : st.2.2 ∈ moreF had row := by
        rcases en.2 with y | y
        · rw [y]
          exact hadUp _ hc
        · exact List.mem_append_right _ y
      rcases both_nums P (inBoth st hst) (mem_both.mpr (.inl hr)) e with y | y
      · rw [y]
        exact ⟨s1, s2⟩
      · rw [y]
        exact ⟨s2, s1⟩
  · obtain ⟨_, h, hh, l1⟩ := near x hx
    obtain ⟨⟨h', hh', l2⟩, _⟩ := near y hy
    exact (l1.trans (ledUp (R.strong h hh h' hh'))).trans l2
  · rcases List.mem_append.mp hst with z | z
    · exact R.mem st z
    · exact inBoth st z
  · rw [List.map_append, List.nodup_append]
    refine ⟨R.nd, I.nd, fun x hx y hy e => ?_⟩
    obtain ⟨st, hst, ey⟩ := List.mem_map.mp hy
    have z := (rowsI_in P R st (I.mem st hst)).2
    rw [ey, ← e] at z
    exact z hx
theorem left_less {row : List TRow} (I : RowIs steps had row) : (leftF steps row).length < steps.length := by
  obtain ⟨st, hst⟩ := List.exists_mem_of_ne_nil _ I.ne
  have z := filter_less (l := steps) (f := fun st => decide (st.1 ∉ row.map (·.1))) (g := fun _ => true) (fun _ _ _ => rfl) ⟨st, I.mem st hst, rfl, decide_eq_false fun y => y (List.mem_map.mpr ⟨st, hst, rfl⟩)⟩
  have e : steps.filter (fun _ => true) = steps := List.filter_eq_self.mpr fun _ _ => rfl
  rw [e] at z
  exact z
/-- at the end -/
theorem rows_all (P : PieceI m E pc) (m16 : m ≤ 16) : ∀ {n : Nat} {steps : List TRow} {had : List Nat} {told : List TRow}, RowsI E pc steps had told → steps.length ≤ n → ∃ had', RowsI E pc [] had' (told ++ (rowsF n steps had).flatten)
  | 0, steps, had, told, R, h => by
    have e : steps = [] := List.length_eq_zero_iff.mp (Nat.le_zero.mp h)
    subst e
    refine ⟨had, ?_⟩
    show RowsI E pc [] had (told ++ [])
    rw [List.append_nil]
    exact R
  | n + 1, steps, had, told, R, h => by
    unfold rowsF
    by_cases e : steps.isEmpty = true
    · rw [if_pos e]
      have e := List.isEmpty_iff.mp e
      subst e
      refine ⟨had, ?_⟩
      show RowsI E pc [] had (told ++ [])
      rw [List.append_nil]
      exact R
    · rw [if_neg e]
      have ne : steps ≠ [] := fun z => e (List.isEmpty_iff.mpr z)
      obtain ⟨f, fs, k, ks, A⟩ := row_at P m16 R ne
      have I := row_is P m16 R A
      have z := rows_all P m16 (n := n) (row_next P R I) (by have := left_less I; omega)
      rw [List.flatten_cons, ← List.append_assoc]
      exact z
theorem rows_start (P : PieceI m E pc) {h : Nat} (hh : h ∈ pc) : RowsI E pc (bothWays E) [h] [] where
  st := by
    congr 1
    exact (List.filter_eq_self.mpr fun r _ => rfl).symm
  sub := fun x hx => by rw [List.mem_singleton.mp hx]; exact hh
  one := by simp
  used := fun r _ hu => absurd hu (by simp)
  strong := fun x hx y hy => by
    rw [List.mem_singleton.mp hx, List.mem_singleton.mp hy]
    exact .stay _
  mem := fun st hst => absurd hst List.not_mem_nil
  nd := List.nodup_nil
/-- when no step is left, each place of the piece is had, each street told -/
theorem rows_done (P : PieceI m E pc) {had' : List Nat} {T : List TRow} (R : RowsI E pc [] had' T) : (∀ r ∈ E, r.1 ∈ T.map (·.1)) ∧ ∀ x ∈ pc, ∀ y ∈ pc, Led (ends T) x y := by
  have all : ∀ r ∈ E, r.1 ∈ T.map (·.1) := fun r hr => by
    refine Classical.byContradiction fun no => ?_
    have z : r ∈ bothWays (E.filter fun r => decide (r.1 ∉ T.map (·.1))) := mem_both.mpr (.inl (List.mem_filter.mpr ⟨hr, decide_eq_true no⟩))
    rw [← R.st] at z
    exact absurd z List.not_mem_nil
  obtain ⟨h, hh⟩ := List.exists_mem_of_ne_nil _ R.one
  have full : ∀ x ∈ pc, x ∈ had' := fun x hx => (P.conn h (R.sub h hh) x hx).closed (S := fun q => q ∈ had') hh fun q hq => by
    obtain ⟨e, he, rfl⟩ := List.mem_map.mp hq
    have z := R.used e he (all e he)
    exact ⟨fun _ => z.2, fun _ => z.1⟩
  exact ⟨all, fun x hx y hy => R.strong x (full x hx) y (full y hy)⟩
end
end Own

set_option Elab.async false
set_option linter.all false
set_option maxRecDepth 100000
set_option maxHeartbeats 4000000
/-! Good ways: pure. -/
namespace Own
open L2
noncomputable def ledOf (m : Nat) (ws : Join) (p : Nat) : List Nat := (List.range m).filter fun q => @decide (Led ws p q) (Classical.propDecidable _)
theorem mem_led {m p q : Nat} {ws : Join} : q ∈ ledOf m ws p ↔ q < m ∧ Led ws p q := by
  unfold ledOf
  rw [List.mem_filter, List.mem_range]
  exact and_congr_right fun _ => @decide_eq_true_iff _ (Classical.propDecidable _)
theorem led_up {m p : Nat} {ws : Join} : (ledOf m ws p).Pairwise (· < ·) := (range_up m).filter _
theorem led_len {m p : Nat} {ws : Join} : (ledOf m ws p).length ≤ m := by
  have z := List.length_filter_le (fun q => @decide (Led ws p q) (Classical.propDecidable _)) (List.range m)
  rw [List.length_range] at z
  exact z
/-- all places are led to just if as many are -/
theorem led_all {m p : Nat} {ws : Join} : (ledOf m ws p).length = m ↔ ∀ q, q < m → Led ws p q := by
  constructor
  · intro h q hq
    have e : ledOf m ws p = List.range m := List.filter_eq_self.mpr (by
      refine List.length_filter_eq_length_iff.mp ?_
      rw [List.length_range]
      exact h)
    exact (mem_led.mp (e ▸ List.mem_range.mpr hq)).2
  · intro h
    have e : ledOf m ws p = List.range m := List.filter_eq_self.mpr fun q hq => (@decide_eq_true_iff _ (Classical.propDecidable _)).mpr (h q (List.mem_range.mp hq))
    rw [e, List.length_range]
/-- without the street its ends are apart -/
noncomputable def bridge (rows : List TRow) (r : TRow) : Bool := @decide (¬ Way (ends (rows.filter fun q => decide (q.1 ≠ r.1))) r.2.1 r.2.2) (Classical.propDecidable _)
noncomputable def piecesOf (m : Nat) (rows : List TRow) : List (List Nat) := partsOf m (ends (rows.filter fun q => decide (q ∉ rows.filter (bridge rows))))
noncomputable def goodB (m : Nat) (rows ways : List TRow) : Bool := decide (ways.map normR = rows.map normR) && (decide ((ledOf m (ends ways) 0).length = m) && decide ((ledOf m (ends (ways.map flipR)) 0).length = m))
/-! ### ways by which each step comes back are good ways -/
theorem led_of_way {ws : Join} {a b : Nat} (back : ∀ q ∈ ws, Led ws q.2 q.1) (w : Way ws a b) : Led ws a b := by
  induction w with
  | stay => exact .stay _
  | fwd _ e ih => exact .go ih e
  | bwd _ e ih => exact ih.trans (back _ e)
theorem way_of_led {ws : Join} {a b : Nat} (l : Led ws a b) : Way ws a b := by
  induction l with
  | stay => exact .stay _
  | go _ e ih => exact .fwd ih e
def swapJ (ws : Join) : Join := ws.map fun q => (q.2, q.1)
theorem led_swap {ws : Join} {a b : Nat} (l : Led ws a b) : Led (swapJ ws) b a := by
  induction l with
  | stay => exact .stay _
  | @go b c l e ih => exact (Led.go (.stay c) (List.mem_map.mpr ⟨(b, c), e, rfl⟩)).trans ih
theorem ends_flip (ws : List TRow) : ends (ws.map flipR) = swapJ (ends ws) := by
  unfold ends swapJ
  rw [List.map_map, List.map_map]
  rfl
/-- the same streets, whichever way -/
theorem way_norm {rows ws : List TRow} (e : ws.map normR = rows.map normR) {a b : Nat} (w : Way (ends rows) a b) : Way (ends ws) a b := by
  have key : ∀ q ∈ ends rows, (q.1, q.2) ∈ ends ws ∨ (q.2, q.1) ∈ ends ws := fun q hq => by
    obtain ⟨r, hr, rfl⟩ := List.mem_map.mp hq
    have mem : normR r ∈ ws.map normR := e ▸ List.mem_map.mpr ⟨r, hr, rfl⟩
    obtain ⟨y, hy, ey⟩ := List.mem_map.mp mem
    have e1 : min y.2.1 y.2.2 = min r.2.1 r.2.2 := congrArg (fun z : TRow => z.2.1) ey
    have e2 : max y.2.1 y.2.2 = max r.2.1 r.2.2 := congrArg (fun z : TRow => z.2.2) ey
    have cases2 : (y.2.1 = r.2.1 ∧ y.2.2 = r.2.2) ∨ (y.2.1 = r.2.2 ∧ y.2.2 = r.2.1) := by omega
    rcases cases2 with ⟨h1, h2⟩ | ⟨h1, h2⟩
    · exact .inl (List.mem_map.mpr ⟨y, hy, Prod.ext h1 h2⟩)
    · exact .inr (List.mem_map.mpr ⟨y, hy, Prod.ext h1 h2⟩)
  induction w with
  | stay => exact .stay _
  | fwd _ h ih =>
    rcases key _ h with k | k
    · exact .fwd ih k
    · exact .bwd ih k
  | bwd _ h ih =>
    rcases key _ h with k | k
    · exact .bwd ih k
    · exact .fwd ih k
/-- one part: each place is joined to the first -/
theorem one_part {m : Nat} {ps : Join} (h : (partsOf m ps).length = 1) (m1 : 1 ≤ m) {q : Nat} (hq : q < m) : Way ps 0 q := by
  obtain ⟨k, h1, h2, h3⟩ := least_of ps q
  have l0 : Least ps 0 := fun x hx => absurd hx (Nat.not_lt_zero x)
  have i0 : 0 ∈ heads m ps := mem_heads.mpr ⟨by omega, l0⟩
  have ik : k ∈ heads m ps := mem_heads.mpr ⟨by omega, h3⟩
  unfold partsOf at h
  rw [List.length_map] at h
  obtain ⟨x, hx⟩ := List.length_eq_one_iff.mp h
  rw [hx, List.mem_singleton] at i0 ik
  rw [i0, ← ik]
  exact h2
theorem good_of {m : Nat} {rows ws : List TRow} (e : ws.map normR = rows.map normR) (one : (partsOf m (ends rows)).length = 1) (m1 : 1 ≤ m) (back : ∀ q ∈ ends ws, Led (ends ws) q.2 q.1) : goodB m rows ws = true := by
  have all : ∀ q, q < m → Led (ends ws) 0 q := fun q hq => led_of_way back (way_norm e (one_part one m1 hq))
  have home : ∀ q, q < m → Led (ends ws) q 0 := fun q hq => led_of_way back (way_norm e (one_part one m1 hq)).symm
  have h2 : ∀ q, q < m → Led (ends (ws.map flipR)) 0 q := fun q hq => by
    rw [ends_flip]
    exact led_swap (home q hq)
  unfold goodB
  rw [decide_eq_true e, decide_eq_true (led_all.mpr all), decide_eq_true (led_all.mpr h2)]
  rfl
/-- and no others are: of good ways each step comes back -/
theorem back_of {m : Nat} {rows ws : List TRow} (h : goodB m rows ws = true) {a b : Nat} (ha : a < m) (hb : b < m) : Led (ends ws) a b := by
  unfold goodB at h
  rw [Bool.and_eq_true, Bool.and_eq_true] at h
  have l1 := led_all.mp (of_decide_eq_true h.2.1) b hb
  have l2 := led_all.mp (of_decide_eq_true h.2.2) a ha
  rw [ends_flip] at l2
  have l3 := led_swap l2
  have twice : swapJ (swapJ (ends ws)) = ends ws := by
    unfold swapJ
    rw [List.map_map]
    have e : ((fun q : Nat × Nat => (q.2, q.1)) ∘ fun q : Nat × Nat => (q.2, q.1)) = id := funext fun q => rfl
    rw [e, List.map_id]
  rw [twice] at l3
  exact l3.trans l1
noncomputable def canB (m : Nat) (rows : List TRow) : Bool := decide ((partsOf m (ends rows)).length = 1) && (rows.filter (bridge rows)).isEmpty
/-- what one_way tells where it can -/
structure Ways (fW : Nat → List TRow → List TRow) : Prop where
  good : ∀ m rows n, RowsOk m rows n → 1 ≤ m → m ≤ 16 → canB m rows = true → goodB m rows (fW m rows) = true
theorem norm_flip (ws : List TRow) : (ws.map flipR).map normR = ws.map normR := by
  rw [List.map_map]
  refine List.map_congr_left fun r _ => ?_
  show (r.1, min r.2.2 r.2.1, max r.2.2 r.2.1) = (r.1, min r.2.1 r.2.2, max r.2.1 r.2.2)
  rw [Nat.min_comm, Nat.max_comm]
theorem flip_flip (ws : List TRow) : (ws.map flipR).map flipR = ws := by
  rw [List.map_map]
  have e : (flipR ∘ flipR) = id := funext fun r => rfl
  rw [e, List.map_id]
theorem good_flip {m : Nat} {rows ws : List TRow} (h : goodB m rows ws = true) : goodB m rows (ws.map flipR) = true := by
  unfold goodB at h ⊢
  rw [norm_flip, flip_flip]
  rw [Bool.and_eq_true, Bool.and_eq_true] at h ⊢
  exact ⟨h.1, h.2.2, h.2.1⟩
theorem good_len {m : Nat} {rows ws : List TRow} (h : goodB m rows ws = true) : ws.length = rows.length := by
  unfold goodB at h
  rw [Bool.and_eq_true] at h
  have e := congrArg List.length (of_decide_eq_true h.1)
  rw [List.length_map, List.length_map] at e
  exact e
theorem good_in {m : Nat} {rows ws : List TRow} (h : goodB m rows ws = true) (inm : ∀ q ∈ ends rows, q.1 < m ∧ q.2 < m) : ∀ q ∈ ends ws, q.1 < m ∧ q.2 < m := fun q hq => by
  unfold goodB at h
  rw [Bool.and_eq_true] at h
  have e := of_decide_eq_true h.1
  obtain ⟨r, hr, rfl⟩ := List.mem_map.mp hq
  have mem : normR r ∈ rows.map normR := e ▸ List.mem_map.mpr ⟨r, hr, rfl⟩
  obtain ⟨y, hy, ey⟩ := List.mem_map.mp mem
  have b := inm _ (List.mem_map.mpr ⟨y, hy, rfl⟩)
  have e1 : min y.2.1 y.2.2 = min r.2.1 r.2.2 := congrArg (fun z : TRow => z.2.1) ey
  have e2 : max y.2.1 y.2.2 = max r.2.1 r.2.2 := congrArg (fun z : TRow => z.2.2) ey
  have b1 : y.2.1 < m := b.1
  have b2 : y.2.2 < m := b.2
  show r.2.1 < m ∧ r.2.2 < m
  constructor <;> omega
/-! ### streets that don't part -/
noncomputable def solid (rows : List TRow) : List TRow := rows.filter fun r => !bridge rows r
theorem bridge_true {rows : List TRow} {r : TRow} : bridge rows r = true ↔ ¬ Way (ends (rows.filter fun q => decide (q.1 ≠ r.1))) r.2.1 r.2.2 := by
  unfold bridge
  exact @decide_eq_true_iff _ (Classical.propDecidable _)
theorem bridge_false {rows : List TRow} {r : TRow} : bridge rows r = false ↔ Way (ends (rows.filter fun q => decide (q.1 ≠ r.1))) r.2.1 r.2.2 := by
  rw [← Bool.not_eq_true, bridge_true]
  exact Classical.not_not
def OneNum (rows : List TRow) : Prop := ∀ x ∈ rows, ∀ y ∈ rows, x.1 = y.1 → x = y
theorem rise_one {rows : List TRow} (h : rows.Pairwise fun a b => a.1 < b.1) : OneNum rows := by
  induction h with
  | nil => exact fun x hx => absurd hx List.not_mem_nil
  | @cons a l h1 _ ih =>
    intro x hx y hy e
    rcases List.mem_cons.mp hx with hx | hx <;> rcases List.mem_cons.mp hy with hy | hy
    · rw [hx, hy]
    · have := h1 y hy
      rw [hx] at e
      omega
    · have := h1 x hx
      rw [hy] at e
      omega
    · exact ih x hx y hy e
theorem solid_in {rows : List TRow} {r : TRow} : r ∈ solid rows ↔ r ∈ rows ∧ bridge rows r = false := by
  unfold solid
  rw [List.mem_filter]
  exact and_congr_right fun _ => by cases bridge rows r <;> simp
theorem solid_kept (rows : List TRow) (u : OneNum rows) : (rows.filter fun q => decide (q ∉ rows.filter (bridge rows))) = solid rows ∧ (rows.filter fun q => decide (q.1 ∉ (rows.filter (bridge rows)).map (·.1))) = solid rows := by
  have key : ∀ q ∈ rows, (decide (q ∉ rows.filter (bridge rows)) = !bridge rows q) ∧ (decide (q.1 ∉ (rows.filter (bridge rows)).map (·.1)) = !bridge rows q) := fun q hq => by
    cases h : bridge rows q with
    | true =>
      have z : q ∈ rows.filter (bridge rows) := List.mem_filter.mpr ⟨hq, h⟩
      exact ⟨decide_eq_false fun y => y z, decide_eq_false fun y => y (List.mem_map.mpr ⟨q, z, rfl⟩)⟩
    | false =>
      refine ⟨decide_eq_true fun y => ?_, decide_eq_true fun y => ?_⟩
      · have := (List.mem_filter.mp y).2
        rw [h] at this
        cases this
      · obtain ⟨x, hx, e⟩ := List.mem_map.mp y
        obtain ⟨x1, x2⟩ := List.mem_filter.mp hx
        rw [u x x1 q hq e, h] at x2
        cases x2
  exact ⟨List.filter_congr fun q hq => (key q hq).1, List.filter_congr fun q hq => (key q hq).2⟩
/-- a set of streets: those for which p holds -/
def Sub (rows : List TRow) (p : TRow → Prop) : Join → Prop := fun J => ∀ q, q ∈ J ↔ ∃ r ∈ rows, p r ∧ r.2 = q
theorem mem_ends_filter {rows : List TRow} {f : TRow → Bool} {q : Nat × Nat} : q ∈ ends (rows.filter f) ↔ ∃ r ∈ rows, f r = true ∧ r.2 = q := by
  unfold ends
  rw [List.mem_map]
  constructor
  · rintro ⟨r, hr, e⟩
    obtain ⟨h1, h2⟩ := List.mem_filter.mp hr
    exact ⟨r, h1, h2, e⟩
  · rintro ⟨r, h1, h2, e⟩
    exact ⟨r, List.mem_filter.mpr ⟨h1, h2⟩, e⟩
theorem way_sub {A B : Join} {a b : Nat} (w : Way A a b) (h : ∀ q ∈ A, q ∈ B) : Way B a b := w.mono h
/-- streets that part, taken away: what didn't part doesn't -/
theorem two_left {rows : List TRow} (u : OneNum rows) {r : TRow} (hr : r ∈ rows) (hb : bridge rows r = false) : ∀ bs : List TRow, (∀ b ∈ bs, b ∈ rows ∧ bridge rows b = true) → Way (ends (rows.filter fun q => decide (q.1 ∉ bs.map (·.1) ∧ q.1 ≠ r.1))) r.2.1 r.2.2
  | [], _ => by
    refine (bridge_false.mp hb).mono fun q hq => ?_
    obtain ⟨x, h1, h2, e⟩ := mem_ends_filter.mp hq
    exact mem_ends_filter.mpr ⟨x, h1, decide_eq_true ⟨List.not_mem_nil, of_decide_eq_true h2⟩, e⟩
  | b :: bs, hbs => by
    have ih := two_left u hr hb bs fun x hx => hbs x (List.mem_cons_of_mem _ hx)
    obtain ⟨hb1, hb2⟩ := hbs b (List.mem_cons_self ..)
    have rb : ∀ x : TRow, x ∈ rows → bridge rows x = true → r.1 ≠ x.1 := fun x hx h e => by
      rw [u r hr x hx e, h] at hb
      cases hb
    have rbs : r.1 ∉ bs.map (·.1) := fun y => by
      obtain ⟨x, hx, e⟩ := List.mem_map.mp y
      have z := hbs x (List.mem_cons_of_mem _ hx)
      exact rb x z.1 z.2 e.symm
    by_cases inb : b.1 ∈ bs.map (·.1)
    · refine ih.mono fun q hq => ?_
      obtain ⟨x, h1, h2, e⟩ := mem_ends_filter.mp hq
      have h2 := of_decide_eq_true h2
      refine mem_ends_filter.mpr ⟨x, h1, decide_eq_true ⟨fun y => ?_, h2.2⟩, e⟩
      rcases List.mem_cons.mp y with y | y
      · exact h2.1 (y ▸ inb)
      · exact h2.1 y
    · -- the streets behind, and b
      generalize hA : ends (rows.filter fun q => decide (q.1 ∉ (b :: bs).map (·.1) ∧ q.1 ≠ r.1)) = A
      have split : ∀ q ∈ ends (rows.filter fun q => decide (q.1 ∉ bs.map (·.1) ∧ q.1 ≠ r.1)), q ∈ A ++ [b.2] := fun q hq => by
        obtain ⟨x, h1, h2, e⟩ := mem_ends_filter.mp hq
        have h2 := of_decide_eq_true h2
        by_cases xb : x.1 = b.1
        · rw [u x h1 b hb1 xb] at e
          exact List.mem_append_right _ (List.mem_singleton.mpr e.symm)
        · refine List.mem_append_left _ ?_
          rw [← hA]
          refine mem_ends_filter.mpr ⟨x, h1, decide_eq_true ⟨fun y => ?_, h2.2⟩, e⟩
          rcases List.mem_cons.mp y with y | y
          · exact xb y
          · exact h2.1 y
      have upA : ∀ q ∈ A, q ∈ ends (rows.filter fun q => decide (q.1 ≠ b.1)) := fun q hq => by
        rw [← hA] at hq
        obtain ⟨x, h1, h2, e⟩ := mem_ends_filter.mp hq
        have h2 := of_decide_eq_true h2
        exact mem_ends_filter.mpr ⟨x, h1, decide_eq_true fun y => h2.1 (y ▸ List.mem_cons_self ..), e⟩
      have rIn : r.2 ∈ ends (rows.filter fun q => decide (q.1 ≠ b.1)) := mem_ends_filter.mpr ⟨r, hr, decide_eq_true (rb b hb1 hb2), rfl⟩
      have no := bridge_true.mp hb2
      have w := ih.mono split
      rcases way_snoc.mp w with h | ⟨h1, h2⟩ | ⟨h1, h2⟩
      · exact h
      · refine (no ?_).elim
        exact ((h1.mono upA).symm.trans (.fwd (.stay _) rIn)).trans (h2.mono upA).symm
      · refine (no ?_).elim
        exact ((h2.mono upA).trans (.bwd (.stay _) rIn)).trans (h1.mono upA)
theorem two_solid {rows : List TRow} (u : OneNum rows) {r : TRow} (h : r ∈ solid rows) : Way (ends ((solid rows).filter fun q => decide (q.1 ≠ r.1))) r.2.1 r.2.2 := by
  obtain ⟨hr, hb⟩ := solid_in.mp h
  have w := two_left u hr hb (rows.filter (bridge rows)) fun b hb => List.mem_filter.mp hb
  refine w.mono fun q hq => ?_
  obtain ⟨x, h1, h2, e⟩ := mem_ends_filter.mp hq
  have h2 := of_decide_eq_true h2
  refine mem_ends_filter.mpr ⟨x, ?_, decide_eq_true h2.2, e⟩
  rw [← (solid_kept rows u).2]
  exact List.mem_filter.mpr ⟨h1, decide_eq_true h2.1⟩
/-- a walk stays within -/
theorem way_within {G G' : List TRow} {S : Nat → Prop} {a b : Nat} (w : Way (ends G) a b) (ha : S a) (h : ∀ e ∈ G, S e.2.1 ∨ S e.2.2 → S e.2.1 ∧ S e.2.2 ∧ e ∈ G') : S b ∧ Way (ends G') a b := by
  induction w with
  | stay => exact ⟨ha, .stay _⟩
  | fwd _ e ih =>
    obtain ⟨s, w⟩ := ih
    obtain ⟨x, hx, ex⟩ := List.mem_map.mp e
    have e1 := congrArg Prod.fst ex
    have e2 := congrArg Prod.snd ex
    dsimp only at e1 e2
    obtain ⟨_, s2, x2⟩ := h x hx (.inl (by rw [e1]; exact s))
    exact ⟨e2 ▸ s2, .fwd w (List.mem_map.mpr ⟨x, x2, ex⟩)⟩
  | bwd _ e ih =>
    obtain ⟨s, w⟩ := ih
    obtain ⟨x, hx, ex⟩ := List.mem_map.mp e
    have e1 := congrArg Prod.fst ex
    have e2 := congrArg Prod.snd ex
    dsimp only at e1 e2
    obtain ⟨s1, _, x2⟩ := h x hx (.inr (by rw [e2]; exact s))
    exact ⟨e1 ▸ s1, .bwd w (List.mem_map.mpr ⟨x, x2, ex⟩)⟩
def pieceE (rows : List TRow) (pc : List Nat) : List TRow := rows.filter fun r => decide (r.2.1 ∈ pc)
theorem cls_ends {m h : Nat} {G : List TRow} (inm : ∀ q ∈ ends G, q.1 < m ∧ q.2 < m) {r : TRow} (hr : r ∈ G) : r.2.1 ∈ cls m (ends G) h ↔ r.2.2 ∈ cls m (ends G) h := by
  have e : r.2 ∈ ends G := List.mem_map.mpr ⟨r, hr, rfl⟩
  have b := inm _ e
  rw [mem_cls, mem_cls]
  exact ⟨fun z => ⟨b.2, .fwd z.2 e⟩, fun z => ⟨b.1, .bwd z.2 e⟩⟩
theorem piece_I {m : Nat} {rows : List TRow} (u : OneNum rows) (inm : ∀ q ∈ ends rows, q.1 < m ∧ q.2 < m) (h : Nat) : PieceI m (pieceE (solid rows) (cls m (ends (solid rows)) h)) (cls m (ends (solid rows)) h) := by
  have inS : ∀ q ∈ ends (solid rows), q.1 < m ∧ q.2 < m := fun q hq => by
    obtain ⟨x, hx, e⟩ := List.mem_map.mp hq
    exact inm q (List.mem_map.mpr ⟨x, (solid_in.mp hx).1, e⟩)
  have ce := fun {r : TRow} (hr : r ∈ solid rows) => cls_ends (h := h) inS hr
  have inE : ∀ {r : TRow}, r ∈ pieceE (solid rows) (cls m (ends (solid rows)) h) ↔ r ∈ solid rows ∧ r.2.1 ∈ cls m (ends (solid rows)) h := fun {r} => by
    unfold pieceE
    rw [List.mem_filter, decide_eq_true_iff]
  refine ⟨fun x hx => (mem_cls.mp hx).1, fun r hr => ?_, fun x hx y hy => ?_, fun r hr => ?_, fun x hx y hy e => ?_⟩
  · obtain ⟨h1, h2⟩ := inE.mp hr
    exact ⟨h2, (ce h1).mp h2⟩
  · have w := (mem_cls.mp hx).2.symm.trans (mem_cls.mp hy).2
    exact (way_within (S := fun q => q ∈ cls m (ends (solid rows)) h) w hx fun e he s => by
      have z : e.2.1 ∈ cls m (ends (solid rows)) h := s.elim id (ce he).mpr
      exact ⟨z, (ce he).mp z, inE.mpr ⟨he, z⟩⟩).2
  · obtain ⟨h1, h2⟩ := inE.mp hr
    exact (way_within (S := fun q => q ∈ cls m (ends (solid rows)) h) (two_solid u h1) h2 fun e he s => by
      obtain ⟨he1, he2⟩ := List.mem_filter.mp he
      have z : e.2.1 ∈ cls m (ends (solid rows)) h := s.elim id (ce he1).mpr
      exact ⟨z, (ce he1).mp z, List.mem_filter.mpr ⟨inE.mpr ⟨he1, z⟩, he2⟩⟩).2
  · exact u x (solid_in.mp (inE.mp hx).1).1 y (solid_in.mp (inE.mp hy).1).1 e
/-! ### what handles tells, what one_way tells -/
def pieceRows (rows : List TRow) (pc : List Nat) : List (List TRow) := rowsF (bothWays (pieceE rows pc)).length (bothWays (pieceE rows pc)) (pc.take 1)
noncomputable def handlesF (m : Nat) (rows : List TRow) : List (List TRow) := (piecesOf m rows).flatMap (pieceRows (solid rows))
noncomputable def fW (m : Nat) (rows : List TRow) : List TRow := rows.map fun r => if r ∈ (handlesF m rows).flatten then r else flipR r
theorem norm_fW (m : Nat) (rows : List TRow) : (fW m rows).map normR = rows.map normR := by
  unfold fW
  rw [List.map_map]
  refine List.map_congr_left fun r _ => ?_
  show normR (if r ∈ (handlesF m rows).flatten then r else flipR r) = normR r
  split
  · rfl
  · exact normR_flipR r
theorem pieces_eq (m : Nat) {rows : List TRow} (u : OneNum rows) : piecesOf m rows = (heads m (ends (solid rows))).map (cls m (ends (solid rows))) := by
  unfold piecesOf partsOf
  rw [(solid_kept rows u).1]
theorem cls_take {m h : Nat} {ps : Join} (hm : h < m) (l : Least ps h) : (cls m ps h).take 1 = [h] := by
  have hin : h ∈ cls m ps h := mem_cls.mpr ⟨hm, .stay _⟩
  have up : (cls m ps h).Pairwise (· < ·) := cls_up
  have least : ∀ x ∈ cls m ps h, h ≤ x := fun x hx => by
    refine Classical.byContradiction fun n => ?_
    exact l x (by omega) (mem_cls.mp hx).2.symm
  cases e : cls m ps h with
  | nil =>
    rw [e] at hin
    exact absurd hin List.not_mem_nil
  | cons y ys =>
    rw [e] at hin up least
    have y1 := least y (List.mem_cons_self ..)
    rcases List.mem_cons.mp hin with z | z
    · rw [z]
      rfl
    · have := (List.pairwise_cons.mp up).1 h z
      omega
/-- the rows of one piece, all told -/
theorem piece_done {m h : Nat} {rows : List TRow} (u : OneNum rows) (inm : ∀ q ∈ ends rows, q.1 < m ∧ q.2 < m) (m16 : m ≤ 16) (hm : h < m) (l : Least (ends (solid rows)) h) :
    ∃ had', RowsI (pieceE (solid rows) (cls m (ends (solid rows)) h)) (cls m (ends (solid rows)) h) [] had' (pieceRows (solid rows) (cls m (ends (solid rows)) h)).flatten := by
  have P := piece_I u inm h
  have s := rows_start P (mem_cls.mpr ⟨hm, .stay h⟩ : h ∈ cls m (ends (solid rows)) h)
  obtain ⟨had', R⟩ := rows_all P m16 s (Nat.le_refl _)
  unfold pieceRows
  rw [cls_take hm l]
  exact ⟨had', R⟩
/-- in a town that can be made one-way there is one piece, and all streets are in it -/
theorem can_facts {m : Nat} {rows : List TRow} (u : OneNum rows) (inm : ∀ q ∈ ends rows, q.1 < m ∧ q.2 < m) (m1 : 1 ≤ m) (can : canB m rows = true) :
    solid rows = rows ∧ heads m (ends rows) = [0] ∧ (∀ q, q < m → q ∈ cls m (ends rows) 0) ∧ pieceE rows (cls m (ends rows) 0) = rows ∧ (partsOf m (ends rows)).length = 1 := by
  unfold canB at can
  rw [Bool.and_eq_true] at can
  have one := of_decide_eq_true can.1
  have none := List.isEmpty_iff.mp can.2
  have sol : solid rows = rows := List.filter_eq_self.mpr fun r hr => by
    cases z : bridge rows r with
    | false => rfl
    | true => exact absurd z (List.filter_eq_nil_iff.mp none r hr)
  have all : ∀ q, q < m → q ∈ cls m (ends rows) 0 := fun q hq => mem_cls.mpr ⟨hq, one_part one m1 hq⟩
  have hd : heads m (ends rows) = [0] := by
    have i0 : 0 ∈ heads m (ends rows) := mem_heads.mpr ⟨by omega, fun x hx => absurd hx (Nat.not_lt_zero x)⟩
    have len : (heads m (ends rows)).length = 1 := by
      unfold partsOf at one
      rw [List.length_map] at one
      exact one
    obtain ⟨x, hx⟩ := List.length_eq_one_iff.mp len
    rw [hx, List.mem_singleton] at i0
    rw [hx, ← i0]
  exact ⟨sol, hd, all, List.filter_eq_self.mpr fun r hr => decide_eq_true (all _ (inm _ (List.mem_map.mpr ⟨r, hr, rfl⟩)).1), one⟩
theorem can_told {m : Nat} {rows : List TRow} (u : OneNum rows) (inm : ∀ q ∈ ends rows, q.1 < m ∧ q.2 < m) (m1 : 1 ≤ m) (m16 : m ≤ 16) (can : canB m rows = true) :
    ((∀ st ∈ (handlesF m rows).flatten, st ∈ bothWays rows) ∧ ((handlesF m rows).flatten.map (·.1)).Nodup ∧ (∀ r ∈ rows, r.1 ∈ (handlesF m rows).flatten.map (·.1)) ∧ ∀ x, x < m → ∀ y, y < m → Led (ends (handlesF m rows).flatten) x y) := by
  obtain ⟨sol, hd, all, pe, _⟩ := can_facts u inm m1 can
  have l0 : Least (ends (solid rows)) 0 := fun x hx => absurd hx (Nat.not_lt_zero x)
  obtain ⟨had', R⟩ := piece_done u inm m16 (h := 0) m1 l0
  have P := piece_I u inm 0
  have hF : (handlesF m rows).flatten = (pieceRows (solid rows) (cls m (ends (solid rows)) 0)).flatten := by
    unfold handlesF
    rw [pieces_eq m u, sol, hd]
    show (pieceRows rows (cls m (ends rows) 0) ++ []).flatten = _
    rw [List.append_nil]
  rw [hF]
  have D := rows_done P R
  rw [sol] at R D ⊢
  rw [pe] at R D
  exact ⟨R.mem, R.nd, D.1, fun x hx y hy => D.2 x (all x hx) y (all y hy)⟩
theorem mem_fW {m : Nat} {rows : List TRow} (u : OneNum rows) (inm : ∀ q ∈ ends rows, q.1 < m ∧ q.2 < m) (m1 : 1 ≤ m) (m16 : m ≤ 16) (can : canB m rows = true) {x : TRow} : x ∈ fW m rows ↔ x ∈ (handlesF m rows).flatten := by
  obtain ⟨h1, h2, h3, h4⟩ := can_told u inm m1 m16 can
  unfold fW
  rw [List.mem_map]
  generalize (handlesF m rows).flatten = T at *
  have oneT : ∀ a ∈ T, ∀ b ∈ T, a.1 = b.1 → a = b := by
    clear h1 h3 h4
    induction T with
    | nil => exact fun a ha => absurd ha List.not_mem_nil
    | cons t T ih =>
      rw [List.map_cons, List.nodup_cons] at h2
      intro a ha b hb e
      rcases List.mem_cons.mp ha with ha | ha <;> rcases List.mem_cons.mp hb with hb | hb
      · rw [ha, hb]
      · exact (h2.1 (List.mem_map.mpr ⟨b, hb, by rw [← e, ha]⟩)).elim
      · exact (h2.1 (List.mem_map.mpr ⟨a, ha, by rw [e, hb]⟩)).elim
      · exact ih h2.2 a ha b hb e
  constructor
  · rintro ⟨r, hr, e⟩
    by_cases ht : r ∈ T
    · rw [if_pos ht] at e
      exact e ▸ ht
    · rw [if_neg ht] at e
      obtain ⟨st, hst, es⟩ := List.mem_map.mp (h3 r hr)
      rcases mem_both.mp (h1 st hst) with z | z
      · exact (ht (u st z r hr es ▸ hst)).elim
      · have ef : flipR st = r := u _ z r hr es
        have e2 : flipR r = st := by rw [← ef]; rfl
        rw [← e, e2]
        exact hst
  · intro hx
    rcases mem_both.mp (h1 x hx) with z | z
    · exact ⟨x, z, if_pos hx⟩
    · refine ⟨flipR x, z, ?_⟩
      by_cases ht : flipR x ∈ T
      · rw [if_pos ht]
        exact oneT _ ht _ hx rfl
      · rw [if_neg ht]
        rfl
theorem ways_fW : Ways fW where
  good := fun m rows n R m1 m16 can => by
    have u := rise_one R.rise
    have inm : ∀ q ∈ ends rows, q.1 < m ∧ q.2 < m := fun q hq => by
      obtain ⟨r, hr, rfl⟩ := List.mem_map.mp hq
      have z := R.ends r hr
      exact ⟨z.1, z.2.1⟩
    have T := can_told u inm m1 m16 can
    have M := fun {x : TRow} => mem_fW (x := x) u inm m1 m16 can
    refine good_of (norm_fW m rows) (can_facts u inm m1 can).2.2.2.2 m1 fun q hq => ?_
    have up : ∀ q ∈ ends (handlesF m rows).flatten, q ∈ ends (fW m rows) := fun q hq => by
      obtain ⟨x, hx, e⟩ := List.mem_map.mp hq
      exact List.mem_map.mpr ⟨x, M.mpr hx, e⟩
    obtain ⟨x, hx, rfl⟩ := List.mem_map.mp hq
    have b : x.2.1 < m ∧ x.2.2 < m := both_in inm _ (List.mem_map.mpr ⟨x, T.1 x (M.mp hx), rfl⟩)
    exact (T.2.2.2 _ b.2 _ b.1).mono up
theorem fW_rise {m : Nat} {rows : List TRow} (h : rows.Pairwise fun a b => a.1 < b.1) : (fW m rows).Pairwise fun a b => a.1 < b.1 := by
  unfold fW
  rw [List.pairwise_map]
  refine h.imp fun {a b} ab => ?_
  have f : ∀ r : TRow, (if r ∈ (handlesF m rows).flatten then r else flipR r).1 = r.1 := fun r => by split <;> rfl
  rw [f, f]
  exact ab
/-- lists that rise by numbers and hold the same are one -/
theorem rise_uniq : ∀ {l1 l2 : List TRow}, l1.Pairwise (fun a b => a.1 < b.1) → l2.Pairwise (fun a b => a.1 < b.1) → (∀ x, x ∈ l1 ↔ x ∈ l2) → l1 = l2
  | [], [], _, _, _ => rfl
  | [], y :: _, _, _, h => absurd ((h y).mpr (List.mem_cons_self ..)) List.not_mem_nil
  | x :: _, [], _, _, h => absurd ((h x).mp (List.mem_cons_self ..)) List.not_mem_nil
  | x :: xs, y :: ys, p1, p2, h => by
    obtain ⟨a1, a2⟩ := List.pairwise_cons.mp p1
    obtain ⟨b1, b2⟩ := List.pairwise_cons.mp p2
    have e : x = y := by
      rcases List.mem_cons.mp ((h x).mp (List.mem_cons_self ..)) with z | z
      · exact z
      · rcases List.mem_cons.mp ((h y).mpr (List.mem_cons_self ..)) with w | w
        · exact w.symm
        · have h1 := b1 x z
          have h2 := a1 y w
          omega
    subst e
    rw [rise_uniq a2 b2 fun z => ?_]
    constructor
    · intro hz
      rcases List.mem_cons.mp ((h z).mp (List.mem_cons_of_mem _ hz)) with w | w
      · have := a1 z hz
        rw [w] at this
        omega
      · exact w
    · intro hz
      rcases List.mem_cons.mp ((h z).mpr (List.mem_cons_of_mem _ hz)) with w | w
      · have := b1 z hz
        rw [w] at this
        omega
      · exact w
end Own

/-! Cuts: how many streets lead from one side to the other. -/
set_option Elab.async false
set_option linter.all false
set_option maxRecDepth 100000
set_option maxHeartbeats 4000000
namespace Own
open L2
/-- the rows that lead across -/
def crs (b : Nat → Bool) (rows : List TRow) : List TRow := rows.filter fun r => b r.2.1 != b r.2.2
theorem mem_crs {b : Nat → Bool} {rows : List TRow} {r : TRow} : r ∈ crs b rows ↔ r ∈ rows ∧ b r.2.1 ≠ b r.2.2 := by
  unfold crs
  rw [List.mem_filter]
  simp
theorem crs_two (b d : Nat → Bool) : ∀ rows : List TRow, (crs (fun q => b q && d q) rows).length + (crs (fun q => b q && !d q) rows).length ≤ (crs b rows).length + 2 * (crs d rows).length
  | [] => Nat.le_refl _
  | r :: rows => by
    have ih := crs_two b d rows
    unfold crs at ih ⊢
    dsimp only at ih
    simp only [List.filter_cons]
    cases b r.2.1 <;> cases b r.2.2 <;> cases d r.2.1 <;> cases d r.2.2 <;> simp <;> omega
theorem nd_le {α : Type} [DecidableEq α] : ∀ {xs ys : List α}, xs.Nodup → (∀ x ∈ xs, x ∈ ys) → xs.length ≤ ys.length
  | [], _, _, _ => Nat.zero_le _
  | x :: xs, ys, nd, h => by
    obtain ⟨m1, m2⟩ := List.nodup_cons.mp nd
    have hx := h x (List.mem_cons_self ..)
    have z := nd_le (ys := ys.erase x) m2 fun y hy => (List.mem_erase_of_ne (fun e => m1 (by rw [← e]; exact hy))).mpr (h y (List.mem_cons_of_mem _ hy))
    rw [List.length_erase_of_mem hx] at z
    have : 0 < ys.length := List.length_pos_of_mem hx
    show xs.length + 1 ≤ ys.length
    omega
theorem rise_nd {rows : List TRow} (h : rows.Pairwise fun a b => a.1 < b.1) : rows.Nodup := h.imp fun {a b} ab e => by
  rw [e] at ab
  exact Nat.lt_irrefl _ ab
/-- the one side of a street that parts -/
noncomputable def sideB (rows : List TRow) (r : TRow) (q : Nat) : Bool := @decide (Way (ends (rows.filter fun x => decide (x.1 ≠ r.1))) r.2.1 q) (Classical.propDecidable _)
theorem sideB_true {rows : List TRow} {r : TRow} {q : Nat} : sideB rows r q = true ↔ Way (ends (rows.filter fun x => decide (x.1 ≠ r.1))) r.2.1 q := by
  unfold sideB
  exact @decide_eq_true_iff _ (Classical.propDecidable _)
theorem side_one {rows : List TRow} {r : TRow} : sideB rows r r.2.1 = true := sideB_true.mpr (.stay _)
theorem side_other {rows : List TRow} {r : TRow} (h : bridge rows r = true) : sideB rows r r.2.2 = false := by
  cases z : sideB rows r r.2.2 with
  | false => rfl
  | true => exact (bridge_true.mp h (sideB_true.mp z)).elim
theorem side_crs {rows : List TRow} {r : TRow} (u : OneNum rows) (hr : r ∈ rows) : ∀ x ∈ crs (sideB rows r) rows, x = r := fun x hx => by
  obtain ⟨h1, h2⟩ := mem_crs.mp hx
  refine Classical.byContradiction fun ne => h2 ?_
  have n1 : x.1 ≠ r.1 := fun z => ne (u x h1 r hr z)
  have hin : x.2 ∈ ends (rows.filter fun y => decide (y.1 ≠ r.1)) := List.mem_map.mpr ⟨x, List.mem_filter.mpr ⟨h1, decide_eq_true n1⟩, rfl⟩
  have w : Way (ends (rows.filter fun y => decide (y.1 ≠ r.1))) x.2.1 x.2.2 := .fwd (.stay _) hin
  have w2 : sideB rows r x.2.1 = true ↔ sideB rows r x.2.2 = true := ⟨fun h => sideB_true.mpr ((sideB_true.mp h).trans w), fun h => sideB_true.mpr ((sideB_true.mp h).trans w.symm)⟩
  cases e1 : sideB rows r x.2.1 <;> cases e2 : sideB rows r x.2.2
  · rfl
  · exact absurd (w2.mpr e2) (by rw [e1]; exact Bool.false_ne_true)
  · exact absurd (w2.mp e1) (by rw [e2]; exact Bool.false_ne_true)
  · rfl
theorem side_len {rows : List TRow} {r : TRow} (rise : rows.Pairwise fun a b => a.1 < b.1) (hr : r ∈ rows) : (crs (sideB rows r) rows).length ≤ 1 :=
  nd_le (ys := [r]) ((rise_nd rise).filter _) fun x hx => by
    rw [side_crs (rise_one rise) hr x hx]
    exact List.mem_cons_self ..
/-- a street that leads across alone is one that parts -/
theorem crs_bridge {b : Nat → Bool} {rows : List TRow} {r : TRow} (h : (crs b rows).length ≤ 1) (hr : r ∈ crs b rows) : bridge rows r = true := by
  refine bridge_true.mpr fun w => ?_
  obtain ⟨h1, h2⟩ := mem_crs.mp hr
  have one : ∀ x ∈ crs b rows, x = r := fun x hx => by
    match e : crs b rows, h, hr, hx with
    | [y], _, hr, hx => rw [List.mem_singleton.mp hr, List.mem_singleton.mp hx]
  have z : b r.2.2 = b r.2.1 := w.closed (S := fun q => b q = b r.2.1) rfl fun q hq => by
    obtain ⟨x, hx, e⟩ := List.mem_map.mp hq
    obtain ⟨x1, x2⟩ := List.mem_filter.mp hx
    have nx : x ∉ crs b rows := fun z => by
      rw [one x z] at x2
      exact of_decide_eq_true x2 rfl
    have ex : b x.2.1 = b x.2.2 := Classical.byContradiction fun ne => nx (mem_crs.mpr ⟨x1, ne⟩)
    rw [← e, ex]
  exact h2 z.symm
/-- how many of those that part lead out of a piece -/
noncomputable def leadO (m : Nat) (rows : List TRow) (h : Nat) : List TRow := (rows.filter (bridge rows)).filter fun r => decide (r.2.1 ∈ cls m (ends (solid rows)) h ∨ r.2.2 ∈ cls m (ends (solid rows)) h)
theorem solid_same {b : Nat → Bool} {rows : List TRow} (h : (crs b rows).length ≤ 1) {x y : Nat} (w : Way (ends (solid rows)) x y) : b y = b x := w.closed (S := fun q => b q = b x) rfl fun q hq => by
  obtain ⟨e, he, eq⟩ := List.mem_map.mp hq
  obtain ⟨e1, e2⟩ := solid_in.mp he
  have : b e.2.1 = b e.2.2 := Classical.byContradiction fun ne => by
    have z := crs_bridge h (mem_crs.mpr ⟨e1, ne⟩)
    rw [e2] at z
    cases z
  rw [← eq, this]
/-- on a side that one street at most leads out of lies a piece that one street at most leads out of -/
theorem want_in {m : Nat} {rows : List TRow} (rise : rows.Pairwise fun a b => a.1 < b.1) (inm : ∀ q ∈ ends rows, q.1 < m ∧ q.2 < m) : ∀ (n : Nat) (b : Nat → Bool), ((List.range m).filter b).length ≤ n → (crs b rows).length ≤ 1 → (∃ p, p < m ∧ b p = true) →
    ∃ h ∈ heads m (ends (solid rows)), b h = true ∧ (leadO m rows h).length ≤ 1
  | 0, b, hn, _, ⟨p, hp, bp⟩ => by
    have : p ∈ (List.range m).filter b := List.mem_filter.mpr ⟨List.mem_range.mpr hp, bp⟩
    have := List.length_pos_of_mem this
    omega
  | n + 1, b, hn, hc, ⟨p, hp, bp⟩ => by
    obtain ⟨h, h1, h2, h3⟩ := least_of (ends (solid rows)) p
    have hh : h ∈ heads m (ends (solid rows)) := mem_heads.mpr ⟨by omega, h3⟩
    have bh : b h = true := by rw [solid_same hc h2.symm, bp]
    by_cases le : (leadO m rows h).length ≤ 1
    · exact ⟨h, hh, bh, le⟩
    · have nd : (leadO m rows h).Nodup := ((rise_nd rise).filter _).filter _
      obtain ⟨r, hr, nr⟩ : ∃ r ∈ leadO m rows h, r ∉ crs b rows := Classical.byContradiction fun no => le (Nat.le_trans (nd_le nd fun x hx => Classical.byContradiction fun z => no ⟨x, hx, z⟩) hc)
      obtain ⟨r1, r2⟩ := List.mem_filter.mp hr
      obtain ⟨r3, r4⟩ := List.mem_filter.mp r1
      have r2 := of_decide_eq_true r2
      have same : b r.2.1 = b r.2.2 := Classical.byContradiction fun ne => nr (mem_crs.mpr ⟨r3, ne⟩)
      have inP : ∀ q, q ∈ cls m (ends (solid rows)) h → b q = true := fun q hq => by rw [solid_same hc (mem_cls.mp hq).2, bh]
      have b1 : b r.2.1 = true := by
        rcases r2 with z | z
        · exact inP _ z
        · rw [same]
          exact inP _ z
      have b2 : b r.2.2 = true := by rw [← same, b1]
      have b12 := inm r.2 (List.mem_map.mpr ⟨r, r3, rfl⟩)
      have d1 : sideB rows r r.2.1 = true := side_one
      have d2 := side_other r4
      have cd := side_len rise r3
      have two := crs_two b (sideB rows r) rows
      by_cases c1 : (crs (fun q => b q && sideB rows r q) rows).length ≤ 1
      · have less : ((List.range m).filter fun q => b q && sideB rows r q).length < ((List.range m).filter b).length := filter_less (fun x _ hx => by
          cases z : b x with
          | true => rfl
          | false =>
            rw [z] at hx
            cases hx) ⟨r.2.2, List.mem_range.mpr b12.2, b2, by rw [d2, Bool.and_false]⟩
        obtain ⟨k, k1, k2, k3⟩ := want_in rise inm n _ (by omega) c1 ⟨r.2.1, b12.1, by rw [b1, d1]; rfl⟩
        refine ⟨k, k1, ?_, k3⟩
        cases z : b k with
        | true => rfl
        | false =>
          rw [z] at k2
          cases k2
      · have less : ((List.range m).filter fun q => b q && !sideB rows r q).length < ((List.range m).filter b).length := filter_less (fun x _ hx => by
          cases z : b x with
          | true => rfl
          | false =>
            rw [z] at hx
            cases hx) ⟨r.2.1, List.mem_range.mpr b12.1, b1, by rw [d1]; simp⟩
        obtain ⟨k, k1, k2, k3⟩ := want_in rise inm n (fun q => b q && !sideB rows r q) (by omega) (by omega) ⟨r.2.2, b12.2, by rw [b2, d2]; rfl⟩
        refine ⟨k, k1, ?_, k3⟩
        cases z : b k with
        | true => rfl
        | false =>
          rw [z] at k2
          cases k2
end Own

/-! A walk in depth: which places it comes to, and how they lie on the sides of a cut. -/
set_option Elab.async false
set_option linter.all false
set_option maxRecDepth 100000
set_option maxHeartbeats 4000000
namespace Own
open L2
def nextF (steps : List TRow) (a : Nat) : List Nat := (steps.filter fun st => decide (st.2.1 = a)).map (·.2.2)
/-- told, and what waits (the top first) -/
def depthF (steps : List TRow) : Nat → List Nat → List Nat → List Nat
  | 0, told, _ => told
  | _ + 1, told, [] => told
  | n + 1, told, a :: s => if a ∈ told then depthF steps n told s else depthF steps n (told ++ [a]) ((nextF steps a).reverse ++ s)
def inDepthF (steps : List TRow) (p : Nat) : List Nat := depthF steps (steps.length + 1) [] [p]
/-- the steps that start where it has not been -/
def openF (steps : List TRow) (told : List Nat) : List TRow := steps.filter fun st => decide (st.2.1 ∉ told)
theorem open_snoc (told : List Nat) (a : Nat) (h : a ∉ told) : ∀ steps : List TRow, (openF steps (told ++ [a])).length + (nextF steps a).length = (openF steps told).length
  | [] => rfl
  | st :: steps => by
    have ih := open_snoc told a h steps
    unfold openF nextF at ih ⊢
    simp only [List.filter_cons, List.length_map] at ih ⊢
    by_cases e : st.2.1 = a
    · subst e
      simp [h]
      simp at ih
      omega
    · by_cases e2 : st.2.1 ∈ told <;> simp [e, e2] <;> simp at ih <;> omega
theorem mem_next {steps : List TRow} {a y : Nat} : y ∈ nextF steps a ↔ ∃ st ∈ steps, st.2.1 = a ∧ st.2.2 = y := by
  unfold nextF
  rw [List.mem_map]
  constructor
  · rintro ⟨st, h, e⟩
    obtain ⟨h1, h2⟩ := List.mem_filter.mp h
    exact ⟨st, h1, of_decide_eq_true h2, e⟩
  · rintro ⟨st, h1, h2, e⟩
    exact ⟨st, List.mem_filter.mpr ⟨h1, decide_eq_true h2⟩, e⟩
section
variable {steps : List TRow}
theorem depth_nd : ∀ (n : Nat) (told s : List Nat), told.Nodup → (depthF steps n told s).Nodup
  | 0, _, _, h => h
  | _ + 1, _, [], h => h
  | n + 1, told, a :: s, h => by
    unfold depthF
    by_cases e : a ∈ told
    · rw [if_pos e]
      exact depth_nd n _ _ h
    · rw [if_neg e]
      refine depth_nd n _ _ ?_
      rw [List.nodup_append]
      exact ⟨h, List.nodup_cons.mpr ⟨List.not_mem_nil, List.nodup_nil⟩, fun x hx y hy z => e (by rw [← List.mem_singleton.mp hy, ← z]; exact hx)⟩
/-- all that are told are come to; none is left over -/
theorem depth_in (p : Nat) : ∀ (n : Nat) (told s : List Nat), (∀ x ∈ told, Led (ends steps) p x) → (∀ x ∈ s, Led (ends steps) p x) → ∀ x ∈ depthF steps n told s, Led (ends steps) p x
  | 0, _, _, h, _ => h
  | _ + 1, _, [], h, _ => h
  | n + 1, told, a :: s, h, hs => by
    unfold depthF
    by_cases e : a ∈ told
    · rw [if_pos e]
      exact depth_in p n _ _ h fun x hx => hs x (List.mem_cons_of_mem _ hx)
    · rw [if_neg e]
      have ha := hs a (List.mem_cons_self ..)
      refine depth_in p n _ _ (fun x hx => ?_) fun x hx => ?_
      · rcases List.mem_append.mp hx with z | z
        · exact h x z
        · rw [List.mem_singleton.mp z]
          exact ha
      · rcases List.mem_append.mp hx with z | z
        · obtain ⟨st, h1, h2, h3⟩ := mem_next.mp (List.mem_reverse.mp z)
          rw [← h3]
          refine ha.trans ?_
          have : st.2 ∈ ends steps := List.mem_map.mpr ⟨st, h1, rfl⟩
          rw [← h2]
          exact .go (.stay _) this
        · exact hs x (List.mem_cons_of_mem _ z)
theorem depth_all : ∀ (n : Nat) (told s : List Nat), s.length + (openF steps told).length ≤ n → (∀ x ∈ told, ∀ y ∈ nextF steps x, y ∈ told ∨ y ∈ s) →
    (∀ x ∈ told, x ∈ depthF steps n told s) ∧ (∀ x ∈ s, x ∈ depthF steps n told s) ∧ ∀ x ∈ depthF steps n told s, ∀ y ∈ nextF steps x, y ∈ depthF steps n told s
  | n, told, [], _, cl => by
    have e : depthF steps n told [] = told := by cases n <;> rfl
    rw [e]
    exact ⟨fun x h => h, fun x h => absurd h List.not_mem_nil, fun x hx y hy => (cl x hx y hy).resolve_right List.not_mem_nil⟩
  | 0, told, a :: s, h, _ => by
    have : (a :: s).length = s.length + 1 := rfl
    omega
  | n + 1, told, a :: s, h, cl => by
    have l1 : (a :: s).length = s.length + 1 := rfl
    unfold depthF
    by_cases e : a ∈ told
    · rw [if_pos e]
      obtain ⟨k1, k2, k3⟩ := depth_all n told s (by omega) fun x hx y hy => by
        rcases cl x hx y hy with z | z
        · exact .inl z
        · rcases List.mem_cons.mp z with z | z
          · rw [z]
            exact .inl e
          · exact .inr z
      exact ⟨k1, fun x hx => by
        rcases List.mem_cons.mp hx with z | z
        · rw [z]
          exact k1 a e
        · exact k2 x z, k3⟩
    · rw [if_neg e]
      have o := open_snoc told a e steps
      obtain ⟨k1, k2, k3⟩ := depth_all n (told ++ [a]) ((nextF steps a).reverse ++ s) (by rw [List.length_append, List.length_reverse]; omega) fun x hx y hy => by
        rcases List.mem_append.mp hx with z | z
        · rcases cl x z y hy with z | z
          · exact .inl (List.mem_append_left _ z)
          · rcases List.mem_cons.mp z with z | z
            · exact .inl (List.mem_append_right _ (by rw [z]; exact List.mem_cons_self ..))
            · exact .inr (List.mem_append_right _ z)
        · rw [List.mem_singleton.mp z] at hy
          exact .inr (List.mem_append_left _ (List.mem_reverse.mpr hy))
      exact ⟨fun x hx => k1 x (List.mem_append_left _ hx), fun x hx => by
        rcases List.mem_cons.mp hx with z | z
        · rw [z]
          exact k1 a (List.mem_append_right _ (List.mem_cons_self ..))
        · exact k2 x (List.mem_append_right _ z), k3⟩
theorem in_depth (p : Nat) : (inDepthF steps p).Nodup ∧ ∀ x, x ∈ inDepthF steps p ↔ Led (ends steps) p x := by
  have fuel : ([p] : List Nat).length + (openF steps []).length ≤ steps.length + 1 := by
    have := List.length_filter_le (fun st : TRow => decide (st.2.1 ∉ ([] : List Nat))) steps
    unfold openF
    show 1 + _ ≤ _
    omega
  obtain ⟨_, k2, k3⟩ := depth_all (steps := steps) (steps.length + 1) [] [p] fuel fun x hx => absurd hx List.not_mem_nil
  refine ⟨depth_nd _ _ _ List.nodup_nil, fun x => ⟨fun h => depth_in p _ _ _ (fun x hx => absurd hx List.not_mem_nil) (fun x hx => by rw [List.mem_singleton.mp hx]; exact .stay _) x h, fun h => ?_⟩⟩
  exact h.closed (S := fun q => q ∈ inDepthF steps p) (k2 p (List.mem_cons_self ..)) fun q hq h1 => by
    obtain ⟨st, hst, e⟩ := List.mem_map.mp hq
    exact k3 _ h1 _ (mem_next.mpr ⟨st, hst, by rw [e], by rw [e]⟩)
/-! ### the sides of a cut -/
/-- on the one side, then on the other, then on the one -/
def Three (b : Nat → Bool) (c : Bool) (L : List Nat) : Prop := ∃ A B C, L = A ++ B ++ C ∧ (∀ x ∈ A, b x = c) ∧ (∀ x ∈ B, b x = !c) ∧ ∀ x ∈ C, b x = c
variable {b : Nat → Bool} {c : Bool}
/-- behind the other side -/
theorem three_3 : ∀ (n : Nat) (A B C s : List Nat), (∀ x ∈ A, b x = c) → (∀ x ∈ B, b x = !c) → (∀ x ∈ C, b x = c) → (∀ x ∈ s, b x = c ∨ x ∈ A ++ B ++ C) → (∀ st ∈ steps, b st.2.1 = c → b st.2.2 = (!c) → st.2.1 ∈ A ++ B ++ C) →
    Three b c (depthF steps n (A ++ B ++ C) s)
  | 0, A, B, C, _, hA, hB, hC, _, _ => ⟨A, B, C, rfl, hA, hB, hC⟩
  | _ + 1, A, B, C, [], hA, hB, hC, _, _ => ⟨A, B, C, rfl, hA, hB, hC⟩
  | n + 1, A, B, C, a :: s, hA, hB, hC, hs, cr => by
    unfold depthF
    by_cases e : a ∈ A ++ B ++ C
    · rw [if_pos e]
      exact three_3 n A B C s hA hB hC (fun x hx => hs x (List.mem_cons_of_mem _ hx)) cr
    · rw [if_neg e]
      have ba : b a = c := (hs a (List.mem_cons_self ..)).resolve_right e
      rw [List.append_assoc (A ++ B) C [a]]
      have up : ∀ x, x ∈ A ++ B ++ C → x ∈ A ++ B ++ (C ++ [a]) := fun x hx => by
        rw [← List.append_assoc]
        exact List.mem_append_left _ hx
      refine three_3 n A B (C ++ [a]) _ hA hB (fun x hx => ?_) (fun x hx => ?_) fun st h1 h2 h3 => up _ (cr st h1 h2 h3)
      · rcases List.mem_append.mp hx with z | z
        · exact hC x z
        · rw [List.mem_singleton.mp z, ba]
      · rcases List.mem_append.mp hx with z | z
        · obtain ⟨st, h1, h2, h3⟩ := mem_next.mp (List.mem_reverse.mp z)
          refine .inl (Classical.byContradiction fun ne => e ?_)
          have b2 : b st.2.2 = !c := by
            rw [h3]
            cases q : b x <;> cases c <;> simp_all
          rw [← h2]
          exact cr st h1 (by rw [h2, ba]) b2
        · rcases hs x (List.mem_cons_of_mem _ z) with y | y
          · exact .inl y
          · exact .inr (up x y)
/-- on the other side -/
theorem three_2 (back : ∀ st ∈ steps, flipR st ∈ steps) : ∀ (n : Nat) (A B Y X : List Nat), (∀ x ∈ A, b x = c) → (∀ x ∈ B, b x = !c) → (∀ x ∈ Y, b x = (!c) ∨ x ∈ A ++ B) → (∀ x ∈ X, b x = c) → (∀ st ∈ steps, b st.2.1 = c → b st.2.2 = (!c) → st.2.1 ∈ A ++ B) →
    Three b c (depthF steps n (A ++ B) (Y ++ X))
  | 0, A, B, _, _, hA, hB, _, _, _ => ⟨A, B, [], by rw [List.append_nil]; rfl, hA, hB, fun x hx => absurd hx List.not_mem_nil⟩
  | n + 1, A, B, [], X, hA, hB, _, hX, cr => by
    have z := three_3 (steps := steps) (n + 1) A B [] X hA hB (fun x hx => absurd hx List.not_mem_nil) (fun x hx => .inl (hX x hx)) (by rw [List.append_nil]; exact cr)
    rw [List.append_nil] at z
    exact z
  | n + 1, A, B, a :: Y, X, hA, hB, hY, hX, cr => by
    show Three b c (if a ∈ A ++ B then depthF steps n (A ++ B) (Y ++ X) else depthF steps n (A ++ B ++ [a]) ((nextF steps a).reverse ++ (Y ++ X)))
    by_cases e : a ∈ A ++ B
    · rw [if_pos e]
      exact three_2 back n A B Y X hA hB (fun x hx => hY x (List.mem_cons_of_mem _ hx)) hX cr
    · rw [if_neg e, List.append_assoc A B [a], ← List.append_assoc _ Y X]
      have ba : b a = !c := (hY a (List.mem_cons_self ..)).resolve_right e
      have up : ∀ x, x ∈ A ++ B → x ∈ A ++ (B ++ [a]) := fun x hx => by
        rw [← List.append_assoc]
        exact List.mem_append_left _ hx
      refine three_2 back n A (B ++ [a]) _ X hA (fun x hx => ?_) (fun x hx => ?_) hX fun st h1 h2 h3 => up _ (cr st h1 h2 h3)
      · rcases List.mem_append.mp hx with z | z
        · exact hB x z
        · rw [List.mem_singleton.mp z, ba]
      · rcases List.mem_append.mp hx with z | z
        · obtain ⟨st, h1, h2, h3⟩ := mem_next.mp (List.mem_reverse.mp z)
          by_cases q : b x = c
          · refine .inr (up _ ?_)
            have y := cr (flipR st) (back st h1) (by show b st.2.2 = c; rw [h3, q]) (by show b st.2.1 = !c; rw [h2, ba])
            have : (flipR st).2.1 = x := h3
            rw [← this]
            exact y
          · refine .inl ?_
            cases q2 : b x <;> cases c <;> simp_all
        · rcases hY x (List.mem_cons_of_mem _ z) with y | y
          · exact .inl y
          · exact .inr (up x y)
/-- how many lead to the other side and are still ahead -/
def ahead (steps : List TRow) (b : Nat → Bool) (c : Bool) (told s : List Nat) : Nat := (s.filter fun x => decide (b x = !c)).length + ((openF steps told).filter fun st => decide (b st.2.1 = c) && decide (b st.2.2 = !c)).length
theorem ahead_snoc (told : List Nat) (a : Nat) (h : a ∉ told) (ba : b a = c) : ∀ steps : List TRow,
    ((openF steps (told ++ [a])).filter fun st => decide (b st.2.1 = c) && decide (b st.2.2 = !c)).length + ((nextF steps a).filter fun x => decide (b x = !c)).length = ((openF steps told).filter fun st => decide (b st.2.1 = c) && decide (b st.2.2 = !c)).length
  | [] => rfl
  | st :: steps => by
    have ih := ahead_snoc told a h ba steps
    unfold openF nextF at ih ⊢
    simp only [List.filter_cons] at ih ⊢
    by_cases e : st.2.1 = a
    · subst e
      by_cases e3 : b st.2.2 = !c
      · simp [h, ba, e3]
        simp at ih
        omega
      · simp [h, ba, e3]
        simp at ih
        omega
    · by_cases e2 : st.2.1 ∈ told
      · simp [e, e2]
        simp at ih
        omega
      · by_cases e3 : b st.2.1 = c
        · by_cases e4 : b st.2.2 = !c <;> simp [e, e2, e3, e4] <;> simp at ih <;> omega
        · simp [e, e2, e3]
          simp at ih
          omega
theorem three_1 (back : ∀ st ∈ steps, flipR st ∈ steps) : ∀ (n : Nat) (told s : List Nat), (∀ x ∈ told, b x = c) → ahead steps b c told s ≤ 1 → Three b c (depthF steps n told s)
  | 0, told, _, h, _ => ⟨told, [], [], by simp [depthF], h, fun x hx => absurd hx List.not_mem_nil, fun x hx => absurd hx List.not_mem_nil⟩
  | _ + 1, told, [], h, _ => ⟨told, [], [], by simp [depthF], h, fun x hx => absurd hx List.not_mem_nil, fun x hx => absurd hx List.not_mem_nil⟩
  | n + 1, told, a :: s, h, hp => by
    unfold depthF
    unfold ahead at hp
    rw [List.filter_cons] at hp
    by_cases e : a ∈ told
    · rw [if_pos e]
      refine three_1 back n told s h ?_
      unfold ahead
      split at hp
      · rw [List.length_cons] at hp
        omega
      · exact hp
    · rw [if_neg e]
      by_cases ba : b a = c
      · have nn : ¬ (decide (b a = !c)) = true := by
          rw [ba]
          cases c <;> decide
        rw [if_neg nn] at hp
        have z := ahead_snoc told a e ba steps
        refine three_1 back n (told ++ [a]) _ (fun x hx => ?_) ?_
        · rcases List.mem_append.mp hx with y | y
          · exact h x y
          · rw [List.mem_singleton.mp y, ba]
        · unfold ahead
          rw [List.filter_append, List.length_append, List.filter_reverse, List.length_reverse]
          omega
      · have ba2 : b a = !c := by cases q : b a <;> cases c <;> simp_all
        rw [if_pos (decide_eq_true ba2), List.length_cons] at hp
        have z1 : (s.filter fun x => decide (b x = !c)) = [] := List.length_eq_zero_iff.mp (by omega)
        have z2 : ((openF steps told).filter fun st => decide (b st.2.1 = c) && decide (b st.2.2 = !c)) = [] := List.length_eq_zero_iff.mp (by omega)
        have cr : ∀ st ∈ steps, b st.2.1 = c → b st.2.2 = (!c) → st.2.1 ∈ told := fun st h1 h2 h3 => Classical.byContradiction fun q => by
          have : st ∈ (openF steps told).filter fun st => decide (b st.2.1 = c) && decide (b st.2.2 = !c) := List.mem_filter.mpr ⟨List.mem_filter.mpr ⟨h1, decide_eq_true q⟩, by simp [h2, h3]⟩
          rw [z2] at this
          exact absurd this List.not_mem_nil
        refine three_2 back n told [a] (nextF steps a).reverse s h (fun x hx => by rw [List.mem_singleton.mp hx, ba2]) (fun x hx => ?_) (fun x hx => ?_) fun st h1 h2 h3 => List.mem_append_left _ (cr st h1 h2 h3)
        · obtain ⟨st, h1, h2, h3⟩ := mem_next.mp (List.mem_reverse.mp hx)
          by_cases q : b x = c
          · refine .inr (List.mem_append_left _ ?_)
            have y := cr (flipR st) (back st h1) (by show b st.2.2 = c; rw [h3, q]) (by show b st.2.1 = !c; rw [h2, ba2])
            have : (flipR st).2.1 = x := h3
            rw [← this]
            exact y
          · refine .inl ?_
            cases q2 : b x <;> cases c <;> simp_all
        · have nx : x ∉ s.filter fun x => decide (b x = !c) := by rw [z1]; exact List.not_mem_nil
          cases q : b x <;> cases c <;> simp_all
end
/-- a walk in depth along the streets meets the far side of a cut that one street leads across in one go -/
theorem depth_three {rows : List TRow} {b : Nat → Bool} (p : Nat) (h : (crs b rows).length ≤ 1) : Three b (b p) (inDepthF (bothWays rows) p) := by
  refine three_1 (fun st hst => both_flip hst) _ [] [p] (fun x hx => absurd hx List.not_mem_nil) ?_
  have key : ∀ rows : List TRow, ((openF (bothWays rows) []).filter fun st => decide (b st.2.1 = b p) && decide (b st.2.2 = !b p)).length = (crs b rows).length := fun rows => by
    induction rows with
    | nil => rfl
    | cons r rows ih =>
      rw [both_cons]
      unfold openF crs at ih ⊢
      simp only [List.filter_cons]
      cases e1 : b r.2.1 <;> cases e2 : b r.2.2 <;> cases e3 : b p <;> simp [flipR, e1, e2] <;> simp [e3] at ih <;> first | exact ih | omega
  unfold ahead
  rw [key]
  have : ([p].filter fun x => decide (b x = !b p)).length = 0 := by
    rw [List.filter_cons, if_neg (by cases b p <;> decide)]
    rfl
  omega
end Own

/-! The parts chained, the rest paired half a circle on: every cut is crossed twice. -/
set_option Elab.async false
set_option linter.all false
set_option maxRecDepth 100000
set_option maxHeartbeats 4000000
namespace Own
open L2
def stepC (S : Join × List Nat) (wt : List Nat) : Join × List Nat := if S.2 = [] then (S.1, wt) else (S.1 ++ [(S.2.getLast?.getD 0, wt.head?.getD 0)], S.2.dropLast ++ wt.tail)
def halfF (free : List Nat) : Join := List.zip free (free.drop (free.length / 2))
def chainF (ws : List (List Nat)) : Join × List Nat := ws.foldl stepC ([], [])
def fewF (ws : List (List Nat)) : Join := (chainF ws).1 ++ halfF (chainF ws).2
/-- the pairs that lead across -/
def crp (b : Nat → Bool) (J : Join) : Join := J.filter fun q => b q.1 != b q.2
theorem crp_app (b : Nat → Bool) (I J : Join) : crp b (I ++ J) = crp b I ++ crp b J := List.filter_append ..
def nonc (b : Nat → Bool) (wt : List Nat) : Bool := wt.any b && wt.any fun x => !b x
section
variable {b : Nat → Bool} {c : Bool}
theorem nonc_false {wt : List Nat} (h : nonc b wt = false) : ∀ x ∈ wt, ∀ y ∈ wt, b x = b y := fun x hx y hy => by
  unfold nonc at h
  rw [Bool.and_eq_false_iff] at h
  rcases h with z | z
  · rw [List.any_eq_false] at z
    have zx := z x hx
    have zy := z y hy
    cases e1 : b x <;> cases e2 : b y <;> simp_all
  · rw [List.any_eq_false] at z
    have zx := z x hx
    have zy := z y hy
    cases e1 : b x <;> cases e2 : b y <;> simp_all
theorem nonc_true {wt : List Nat} (h : nonc b wt = true) (v : Bool) : ∃ x ∈ wt, b x = v := by
  unfold nonc at h
  rw [Bool.and_eq_true, List.any_eq_true, List.any_eq_true] at h
  obtain ⟨⟨x, hx, ex⟩, y, hy, ey⟩ := h
  cases v with
  | true => exact ⟨x, hx, ex⟩
  | false => exact ⟨y, hy, by simpa using ey⟩
theorem bne {x c : Bool} (h : x ≠ c) : x = !c := by cases x <;> cases c <;> simp_all
theorem three_rev {L : List Nat} (h : Three b c L) : Three b c L.reverse := by
  obtain ⟨A, B, C, e, hA, hB, hC⟩ := h
  exact ⟨C.reverse, B.reverse, A.reverse, by rw [e]; simp [List.append_assoc], fun x hx => hC x (List.mem_reverse.mp hx), fun x hx => hB x (List.mem_reverse.mp hx), fun x hx => hA x (List.mem_reverse.mp hx)⟩
theorem three_head {y : Nat} {T F : List Nat} (h : Three b c (y :: T)) (hF : ∀ x ∈ F, b x = b y) : Three b (b y) (F ++ T) := by
  obtain ⟨A, B, C, e, hA, hB, hC⟩ := h
  cases A with
  | cons a A =>
    rw [List.cons_append, List.cons_append] at e
    obtain ⟨e1, e2⟩ := List.cons.inj e
    subst e1
    have ec : b y = c := hA y (List.mem_cons_self ..)
    refine ⟨F ++ A, B, C, by rw [e2]; simp [List.append_assoc], fun x hx => ?_, fun x hx => by rw [ec]; exact hB x hx, fun x hx => by rw [ec]; exact hC x hx⟩
    rcases List.mem_append.mp hx with z | z
    · exact hF x z
    · rw [ec]
      exact hA x (List.mem_cons_of_mem _ z)
  | nil =>
    cases B with
    | cons a B =>
      rw [List.nil_append, List.cons_append] at e
      obtain ⟨e1, e2⟩ := List.cons.inj e
      subst e1
      have ec : b y = !c := hB y (List.mem_cons_self ..)
      refine ⟨F ++ B, C, [], by rw [e2]; simp [List.append_assoc], fun x hx => ?_, fun x hx => by rw [ec, hC x hx, Bool.not_not], fun x hx => absurd hx List.not_mem_nil⟩
      rcases List.mem_append.mp hx with z | z
      · exact hF x z
      · rw [ec]
        exact hB x (List.mem_cons_of_mem _ z)
    | nil =>
      rw [List.nil_append, List.nil_append] at e
      have ec : b y = c := hC y (by rw [← e]; exact List.mem_cons_self ..)
      refine ⟨F ++ T, [], [], by simp, fun x hx => ?_, fun x hx => absurd hx List.not_mem_nil, fun x hx => absurd hx List.not_mem_nil⟩
      rcases List.mem_append.mp hx with z | z
      · exact hF x z
      · rw [ec]
        exact hC x (by rw [← e]; exact List.mem_cons_of_mem _ z)
theorem three_last {x : Nat} {F T : List Nat} (h : Three b c (F ++ [x])) (hT : ∀ y ∈ T, b y = b x) : Three b (b x) (F ++ T) := by
  have z := three_rev h
  rw [List.reverse_append] at z
  have y := three_rev (three_head (y := x) (T := F.reverse) (F := T.reverse) z fun q hq => hT q (List.mem_reverse.mp hq))
  rw [List.reverse_append, List.reverse_reverse, List.reverse_reverse] at y
  exact y
/-- where one is on the one side, where on the other -/
structure StepInv (b : Nat → Bool) (dn : List (List Nat)) (S : Join × List Nat) : Prop where
  two : 2 ≤ S.2.length
  way : (∃ c, (∀ x ∈ dn.flatten, b x = c) ∧ (∀ x ∈ S.2, b x = c) ∧ crp b S.1 = [] ∧ dn.filter (nonc b) = []) ∨ ((∃ x ∈ S.2, b x = true) ∧ (∃ x ∈ S.2, b x = false) ∧ (∃ c, Three b c S.2) ∧ (dn.filter (nonc b)).length + (crp b S.1).length = 1)
theorem step_pre (S : Join × List Nat) (wt : List Nat) : ∃ I, (stepC S wt).1 = S.1 ++ I := by
  unfold stepC
  split
  · exact ⟨[], by rw [List.append_nil]⟩
  · exact ⟨_, rfl⟩
theorem fold_pre : ∀ (ws : List (List Nat)) (S : Join × List Nat), ∃ I, (ws.foldl stepC S).1 = S.1 ++ I
  | [], S => ⟨[], by rw [List.append_nil]; rfl⟩
  | wt :: ws, S => by
    obtain ⟨I, hI⟩ := step_pre S wt
    obtain ⟨J, hJ⟩ := fold_pre ws (stepC S wt)
    exact ⟨I ++ J, by rw [List.foldl_cons, hJ, hI, List.append_assoc]⟩
theorem step_inv {dn : List (List Nat)} {S : Join × List Nat} {wt : List Nat} (I : StepInv b dn S) (l2 : 2 ≤ wt.length) (h3 : ∃ c, Three b c wt) (ev : ((dn ++ [wt]).filter (nonc b)).length + (crp b (stepC S wt).1).length ≤ 1) : StepInv b (dn ++ [wt]) (stepC S wt) := by
  obtain ⟨two, way⟩ := I
  have ne : S.2 ≠ [] := fun z => by
    rw [z] at two
    exact absurd two (by decide)
  obtain ⟨F, x, eS⟩ : ∃ F x, S.2 = F ++ [x] := ⟨S.2.dropLast, S.2.getLast ne, (List.dropLast_concat_getLast ne).symm⟩
  obtain ⟨y, T, eW⟩ : ∃ y T, wt = y :: T := by
    cases wt with
    | nil => exact absurd l2 (by decide)
    | cons y T => exact ⟨y, T, rfl⟩
  have est : stepC S wt = (S.1 ++ [(x, y)], F ++ T) := by
    unfold stepC
    rw [if_neg ne, eS, eW]
    simp
  have lF : 1 ≤ F.length := by
    rw [eS, List.length_append] at two
    have : [x].length = 1 := rfl
    omega
  have lT : 1 ≤ T.length := by
    rw [eW] at l2
    have : (y :: T).length = T.length + 1 := rfl
    omega
  obtain ⟨f0, hf0⟩ := List.exists_mem_of_length_pos (l := F) (by omega)
  obtain ⟨t0, ht0⟩ := List.exists_mem_of_length_pos (l := T) (by omega)
  rw [est] at ev ⊢
  rw [List.filter_append, List.length_append, crp_app, List.length_append] at ev
  have new2 : 2 ≤ (F ++ T).length := by
    rw [List.length_append]
    omega
  have c1 : (crp b [(x, y)]).length = if b x = b y then 0 else 1 := by
    unfold crp
    rw [List.filter_cons]
    by_cases e : b x = b y
    · simp [e]
    · simp [e]
  have n1 : ([wt].filter (nonc b)).length = if nonc b wt = true then 1 else 0 := by
    rw [List.filter_cons]
    split <;> rfl
  rw [c1, n1] at ev
  refine ⟨new2, ?_⟩
  rcases way with ⟨c, w1, w2, w3, w4⟩ | ⟨w1, w2, ⟨c, w3⟩, w4⟩
  · have bx : b x = c := w2 x (by rw [eS]; exact List.mem_append_right _ (List.mem_cons_self ..))
    have hF : ∀ q ∈ F, b q = c := fun q hq => w2 q (by rw [eS]; exact List.mem_append_left _ hq)
    cases nn : nonc b wt with
    | false =>
      have same := nonc_false nn
      have hT : ∀ q ∈ wt, b q = b y := fun q hq => same q hq y (by rw [eW]; exact List.mem_cons_self ..)
      by_cases e : b x = b y
      · refine .inl ⟨c, fun q hq => ?_, fun q hq => ?_, ?_, ?_⟩
        · rw [List.flatten_append, List.flatten_singleton] at hq
          rcases List.mem_append.mp hq with z | z
          · exact w1 q z
          · rw [hT q z, ← e, bx]
        · rcases List.mem_append.mp hq with z | z
          · exact hF q z
          · rw [hT q (by rw [eW]; exact List.mem_cons_of_mem _ z), ← e, bx]
        · rw [crp_app, w3, List.nil_append]
          exact List.length_eq_zero_iff.mp (by rw [c1, if_pos e])
        · rw [List.filter_append, w4, List.nil_append]
          exact List.length_eq_zero_iff.mp (by rw [n1, nn]; rfl)
      · have by_ : b y = !c := bne fun z => e (by rw [bx, z])
        have g1 : ∃ q ∈ F ++ T, b q = c := ⟨f0, List.mem_append_left _ hf0, hF f0 hf0⟩
        have g2 : ∃ q ∈ F ++ T, b q = !c := ⟨t0, List.mem_append_right _ ht0, by rw [hT t0 (by rw [eW]; exact List.mem_cons_of_mem _ ht0), by_]⟩
        refine .inr ⟨?_, ?_, ⟨c, F, T, [], by rw [List.append_nil], hF, fun q hq => by rw [hT q (by rw [eW]; exact List.mem_cons_of_mem _ hq), by_], fun q hq => absurd hq List.not_mem_nil⟩, ?_⟩
        · cases c
          · exact g2
          · exact g1
        · cases c
          · exact g1
          · exact g2
        · rw [List.filter_append, List.length_append, n1, crp_app, List.length_append, c1, w3, w4, nn, if_neg e]
          rfl
    | true =>
      rw [nn, if_pos rfl] at ev
      have e : b x = b y := Classical.byContradiction fun z => by
        rw [if_neg z] at ev
        omega
      obtain ⟨q0, hq0, eq0⟩ := nonc_true nn (!c)
      have hq1 : q0 ∈ T := by
        rw [eW] at hq0
        rcases List.mem_cons.mp hq0 with z | z
        · rw [z, ← e, bx] at eq0
          cases c <;> cases eq0
        · exact z
      obtain ⟨c', h3⟩ := h3
      rw [eW] at h3
      have g1 : ∃ q ∈ F ++ T, b q = c := ⟨f0, List.mem_append_left _ hf0, hF f0 hf0⟩
      have g2 : ∃ q ∈ F ++ T, b q = !c := ⟨q0, List.mem_append_right _ hq1, eq0⟩
      refine .inr ⟨?_, ?_, ⟨b y, three_head h3 fun q hq => by rw [hF q hq, ← e, bx]⟩, ?_⟩
      · cases c
        · exact g2
        · exact g1
      · cases c
        · exact g1
        · exact g2
      · rw [List.filter_append, List.length_append, n1, crp_app, List.length_append, c1, w3, w4, nn, if_pos e]
        rfl
  · have nn : nonc b wt = false := by
      cases z : nonc b wt with
      | false => rfl
      | true =>
        rw [z, if_pos rfl] at ev
        omega
    have e : b x = b y := Classical.byContradiction fun z => by
      rw [if_neg z] at ev
      omega
    have same := nonc_false nn
    have hT : ∀ q ∈ T, b q = b x := fun q hq => by rw [e]; exact same q (by rw [eW]; exact List.mem_cons_of_mem _ hq) y (by rw [eW]; exact List.mem_cons_self ..)
    have any : ∀ v, (∃ q ∈ S.2, b q = v) → ∃ q ∈ F ++ T, b q = v := fun v h => by
      obtain ⟨q, hq, eq⟩ := h
      rw [eS] at hq
      rcases List.mem_append.mp hq with z | z
      · exact ⟨q, List.mem_append_left _ z, eq⟩
      · rw [List.mem_singleton.mp z] at eq
        exact ⟨t0, List.mem_append_right _ ht0, by rw [hT t0 ht0, eq]⟩
    rw [eS] at w3
    refine .inr ⟨any _ w1, any _ w2, ⟨b x, three_last w3 hT⟩, ?_⟩
    rw [List.filter_append, List.length_append, n1, crp_app, List.length_append, c1, nn, if_pos e]
    simpa using w4
theorem fold_inv : ∀ (ws dn : List (List Nat)) (S : Join × List Nat), StepInv b dn S → (∀ wt ∈ ws, 2 ≤ wt.length ∧ ∃ c, Three b c wt) → ((dn ++ ws).filter (nonc b)).length + (crp b (ws.foldl stepC S).1).length ≤ 1 → StepInv b (dn ++ ws) (ws.foldl stepC S)
  | [], dn, S, I, _, _ => by
    rw [List.append_nil]
    exact I
  | wt :: ws, dn, S, I, h, ev => by
    obtain ⟨l2, h3⟩ := h wt (List.mem_cons_self ..)
    have e : dn ++ wt :: ws = (dn ++ [wt]) ++ ws := by simp
    rw [e] at ev ⊢
    rw [List.foldl_cons] at ev ⊢
    obtain ⟨J, hJ⟩ := fold_pre ws (stepC S wt)
    refine fold_inv ws (dn ++ [wt]) (stepC S wt) (step_inv I l2 h3 ?_) (fun q hq => h q (List.mem_cons_of_mem _ hq)) ev
    rw [hJ, crp_app, List.length_append, List.filter_append, List.length_append] at ev
    omega
theorem chain_inv {ws : List (List Nat)} (ne : ws ≠ []) (h : ∀ wt ∈ ws, 2 ≤ wt.length ∧ ∃ c, Three b c wt) (ev : (ws.filter (nonc b)).length + (crp b (chainF ws).1).length ≤ 1) : StepInv b ws (chainF ws) := by
  cases ws with
  | nil => exact (ne rfl).elim
  | cons wt ws =>
    obtain ⟨l2, h3⟩ := h wt (List.mem_cons_self ..)
    have e0 : stepC ([], []) wt = ([], wt) := rfl
    unfold chainF at ev ⊢
    rw [List.foldl_cons, e0] at ev ⊢
    refine fold_inv ws [wt] ([], wt) ⟨l2, ?_⟩ (fun q hq => h q (List.mem_cons_of_mem _ hq)) ev
    cases nn : nonc b wt with
    | false =>
      have same := nonc_false nn
      cases wt with
      | nil => exact absurd l2 (by decide)
      | cons y T =>
        refine .inl ⟨b y, fun x hx => ?_, fun x hx => same x hx y (List.mem_cons_self ..), rfl, ?_⟩
        · rw [List.flatten_singleton] at hx
          exact same x hx y (List.mem_cons_self ..)
        · rw [List.filter_cons, if_neg (by rw [nn]; exact Bool.false_ne_true)]
          rfl
    | true =>
      refine .inr ⟨nonc_true nn true, nonc_true nn false, h3, ?_⟩
      rw [List.filter_cons, if_pos nn]
      rfl
/-! ### half a circle on -/
theorem three_at {A B C : List Nat} (hA : ∀ x ∈ A, b x = c) (hB : ∀ x ∈ B, b x = !c) (hC : ∀ x ∈ C, b x = c) {t x : Nat} (h : (A ++ B ++ C)[t]? = some x) : b x = if A.length ≤ t ∧ t < A.length + B.length then !c else c := by
  by_cases h1 : t < A.length
  · rw [List.append_assoc, List.getElem?_append_left h1] at h
    rw [hA x (List.mem_of_getElem? h), if_neg (by omega)]
  · by_cases h2 : t < A.length + B.length
    · rw [List.getElem?_append_left (by rw [List.length_append]; exact h2), List.getElem?_append_right (by omega)] at h
      rw [hB x (List.mem_of_getElem? h), if_pos ⟨by omega, h2⟩]
    · rw [List.getElem?_append_right (by rw [List.length_append]; omega)] at h
      rw [hC x (List.mem_of_getElem? h), if_neg (by omega)]
theorem half_cross {L : List Nat} (h : Three b c L) (t1 : ∃ x ∈ L, b x = true) (f1 : ∃ x ∈ L, b x = false) : 1 ≤ (crp b (halfF L)).length := by
  obtain ⟨A, B, C, e, hA, hB, hC⟩ := h
  have hb : 1 ≤ B.length := by
    obtain ⟨x, hx, ex⟩ : ∃ x ∈ L, b x = !c := by
      cases c
      · exact t1
      · exact f1
    rw [e] at hx
    rcases List.mem_append.mp hx with z | z
    · rcases List.mem_append.mp z with z | z
      · rw [hA x z] at ex
        cases c <;> cases ex
      · exact List.length_pos_of_mem z
    · rw [hC x z] at ex
      cases c <;> cases ex
  have hac : 1 ≤ A.length + C.length := by
    obtain ⟨x, hx, ex⟩ : ∃ x ∈ L, b x = c := by
      cases c
      · exact f1
      · exact t1
    rw [e] at hx
    rcases List.mem_append.mp hx with z | z
    · rcases List.mem_append.mp z with z | z
      · have := List.length_pos_of_mem z
        omega
      · rw [hB x z] at ex
        cases c <;> cases ex
    · have := List.length_pos_of_mem z
      omega
  have ln : L.length = A.length + B.length + C.length := by rw [e, List.length_append, List.length_append]
  have key : ∃ t, t + L.length / 2 < L.length ∧ ¬ ((A.length ≤ t ∧ t < A.length + B.length) ↔ (A.length ≤ t + L.length / 2 ∧ t + L.length / 2 < A.length + B.length)) := by
    by_cases c1 : B.length ≤ L.length / 2
    · by_cases c2 : A.length + L.length / 2 < L.length
      · exact ⟨A.length, c2, by omega⟩
      · exact ⟨A.length - L.length / 2, by omega, by omega⟩
    · by_cases c2 : 1 ≤ A.length
      · exact ⟨A.length - 1, by omega, by omega⟩
      · exact ⟨B.length - L.length / 2, by omega, by omega⟩
  obtain ⟨t, t2, t3⟩ := key
  have g1 : L[t]? = some L[t] := List.getElem?_eq_getElem (by omega)
  have g2 : L[t + L.length / 2]? = some L[t + L.length / 2] := List.getElem?_eq_getElem t2
  have mem : (L[t], L[t + L.length / 2]) ∈ halfF L := by
    refine List.mem_of_getElem? (i := t) (List.getElem?_zip_eq_some.mpr ⟨g1, ?_⟩)
    rw [List.getElem?_drop, Nat.add_comm]
    exact g2
  have v1 := three_at (A := A) (B := B) (C := C) hA hB hC (t := t) (x := L[t]) (by rw [← e]; exact g1)
  have v2 := three_at (A := A) (B := B) (C := C) hA hB hC (t := t + L.length / 2) (x := L[t + L.length / 2]) (by rw [← e]; exact g2)
  refine List.length_pos_of_mem (a := (L[t], L[t + L.length / 2])) (List.mem_filter.mpr ⟨mem, ?_⟩)
  show (b L[t] != b L[t + L.length / 2]) = true
  rw [v1, v2]
  by_cases p1 : A.length ≤ t ∧ t < A.length + B.length <;> by_cases p2 : A.length ≤ t + L.length / 2 ∧ t + L.length / 2 < A.length + B.length
  · exact (t3 ⟨fun _ => p2, fun _ => p1⟩).elim
  · rw [if_pos p1, if_neg p2]
    cases c <;> rfl
  · rw [if_neg p1, if_pos p2]
    cases c <;> rfl
  · exact (t3 ⟨fun z => (p1 z).elim, fun z => (p2 z).elim⟩).elim
/-- what is chained and paired crosses, but where all is on one side -/
theorem few_cross {ws : List (List Nat)} (ne : ws ≠ []) (h : ∀ wt ∈ ws, 2 ≤ wt.length ∧ ∃ c, Three b c wt) (lo : (ws.filter (nonc b)).length ≤ 1) :
    2 ≤ (ws.filter (nonc b)).length + (crp b (fewF ws)).length ∨ ∃ c, ∀ x ∈ ws.flatten, b x = c := by
  by_cases ev : (ws.filter (nonc b)).length + (crp b (chainF ws).1).length ≤ 1
  · obtain ⟨two, way⟩ := chain_inv ne h ev
    rcases way with ⟨c, w1, _⟩ | ⟨w1, w2, ⟨c, w3⟩, w4⟩
    · exact .inr ⟨c, w1⟩
    · have z := half_cross w3 w1 w2
      left
      unfold fewF
      rw [crp_app, List.length_append]
      omega
  · left
    unfold fewF
    rw [crp_app, List.length_append]
    omega
end
end Own

/-! fewest: with what is told built, every cut is crossed twice. -/
set_option Elab.async false
set_option linter.all false
set_option maxRecDepth 100000
set_option maxHeartbeats 4000000
namespace Own
open L2
/-- how many streets a place's piece wants, told at its least place -/
noncomputable def wantF (m : Nat) (rows : List TRow) (p : Nat) : Nat := if 2 ≤ (heads m (ends (solid rows))).length ∧ p ∈ heads m (ends (solid rows)) then 2 - (leadO m rows p).length else 0
noncomputable def wordF (m : Nat) (rows : List TRow) (g : Nat) : List Nat := (inDepthF (bothWays rows) g).flatMap fun p => List.replicate (wantF m rows p) p
noncomputable def wordsF (m : Nat) (rows : List TRow) : List (List Nat) := (heads m (ends rows)).map (wordF m rows)
noncomputable def fewestF (m : Nat) (rows : List TRow) : Join := fewF (wordsF m rows)
/-- the places of a part -/
noncomputable def partB (rows : List TRow) (g q : Nat) : Bool := @decide (Way (ends rows) g q) (Classical.propDecidable _)
theorem partB_true {rows : List TRow} {g q : Nat} : partB rows g q = true ↔ Way (ends rows) g q := by
  unfold partB
  exact @decide_eq_true_iff _ (Classical.propDecidable _)
theorem partB_row {rows : List TRow} {g : Nat} {r : TRow} (hr : r ∈ rows) : partB rows g r.2.1 = partB rows g r.2.2 := by
  have hin : r.2 ∈ ends rows := List.mem_map.mpr ⟨r, hr, rfl⟩
  have w : Way (ends rows) r.2.1 r.2.2 := .fwd (.stay _) hin
  have w2 : partB rows g r.2.1 = true ↔ partB rows g r.2.2 = true := ⟨fun h => partB_true.mpr ((partB_true.mp h).trans w), fun h => partB_true.mpr ((partB_true.mp h).trans w.symm)⟩
  cases e1 : partB rows g r.2.1 <;> cases e2 : partB rows g r.2.2
  · rfl
  · exact absurd (w2.mpr e2) (by rw [e1]; exact Bool.false_ne_true)
  · exact absurd (w2.mp e1) (by rw [e2]; exact Bool.false_ne_true)
  · rfl
theorem part_crs {rows : List TRow} {g : Nat} {d : Nat → Bool} (rise : rows.Pairwise fun a b => a.1 < b.1) : (crs (fun q => partB rows g q && d q) rows).length ≤ (crs d rows).length :=
  nd_le ((rise_nd rise).filter _) fun x hx => by
    obtain ⟨h1, h2⟩ := mem_crs.mp hx
    refine mem_crs.mpr ⟨h1, fun z => h2 ?_⟩
    show (partB rows g x.2.1 && d x.2.1) = (partB rows g x.2.2 && d x.2.2)
    rw [partB_row h1, z]
section
variable {m : Nat} {rows : List TRow}
theorem mem_word {g x : Nat} : x ∈ wordF m rows g ↔ Way (ends rows) g x ∧ 1 ≤ wantF m rows x := by
  unfold wordF
  rw [List.mem_flatMap]
  constructor
  · rintro ⟨p, hp, hx⟩
    obtain ⟨h1, h2⟩ := List.mem_replicate.mp hx
    subst h2
    exact ⟨led_both.mp (((in_depth g).2 x).mp hp), by omega⟩
  · rintro ⟨h1, h2⟩
    exact ⟨x, ((in_depth g).2 x).mpr (led_both.mpr h1), List.mem_replicate.mpr ⟨by omega, rfl⟩⟩
theorem want_one (two : 2 ≤ (heads m (ends (solid rows))).length) {h : Nat} (hh : h ∈ heads m (ends (solid rows))) (le : (leadO m rows h).length ≤ 1) : wantF m rows h = 2 - (leadO m rows h).length := if_pos ⟨two, hh⟩
/-- on each side within a part something is wanted -/
theorem want_part (rise : rows.Pairwise fun a b => a.1 < b.1) (inm : ∀ q ∈ ends rows, q.1 < m ∧ q.2 < m) (two : 2 ≤ (heads m (ends (solid rows))).length) {g p : Nat} {d : Nat → Bool} (cd : (crs d rows).length ≤ 1) (hp : p < m) (w : Way (ends rows) g p) (dp : d p = true) :
    ∃ h ∈ wordF m rows g, d h = true ∧ h ∈ heads m (ends (solid rows)) ∧ wantF m rows h = 2 - (leadO m rows h).length := by
  obtain ⟨h, h1, h2, h3⟩ := want_in rise inm _ (fun q => partB rows g q && d q) (Nat.le_refl _) (Nat.le_trans (part_crs rise) cd) ⟨p, hp, by show (partB rows g p && d p) = true; rw [partB_true.mpr w, dp]; rfl⟩
  have h2 : (partB rows g h && d h) = true := h2
  rw [Bool.and_eq_true] at h2
  have e := want_one two h1 h3
  exact ⟨h, mem_word.mpr ⟨partB_true.mp h2.1, by omega⟩, h2.2, h1, e⟩
theorem word_two (rise : rows.Pairwise fun a b => a.1 < b.1) (inm : ∀ q ∈ ends rows, q.1 < m ∧ q.2 < m) (two : 2 ≤ (heads m (ends (solid rows))).length) {g : Nat} (hg : g ∈ heads m (ends rows)) : 2 ≤ (wordF m rows g).length := by
  have gm := (mem_heads.mp hg).1
  have triv : (crs (fun _ => true) rows).length ≤ 1 := by
    have : crs (fun _ => true) rows = [] := List.filter_eq_nil_iff.mpr fun x _ => by simp
    rw [this]
    exact Nat.zero_le _
  obtain ⟨h, h1, _, h2, h3⟩ := want_part rise inm two triv gm (.stay _) rfl
  by_cases e : (leadO m rows h).length = 0
  · rw [e] at h3
    obtain ⟨w1, w2⟩ := mem_word.mp h1
    have hin : h ∈ inDepthF (bothWays rows) g := ((in_depth g).2 h).mpr (led_both.mpr w1)
    have sub : List.Sublist (List.replicate (wantF m rows h) h) (wordF m rows g) := by
      unfold wordF
      rw [List.flatMap_def]
      exact List.sublist_flatten_of_mem (List.mem_map.mpr ⟨h, hin, rfl⟩)
    have := sub.length_le
    rw [List.length_replicate] at this
    omega
  · obtain ⟨r, hr⟩ := List.exists_mem_of_length_pos (l := leadO m rows h) (by omega)
    obtain ⟨r1, r2⟩ := List.mem_filter.mp hr
    obtain ⟨r3, r4⟩ := List.mem_filter.mp r1
    have r2 := of_decide_eq_true r2
    have w := (mem_word.mp h1).1
    have up : ∀ {x}, x ∈ cls m (ends (solid rows)) h → Way (ends rows) g x := fun {x} hx => w.trans ((mem_cls.mp hx).2.mono fun q hq => by
      obtain ⟨y, hy, ey⟩ := List.mem_map.mp hq
      exact List.mem_map.mpr ⟨y, (solid_in.mp hy).1, ey⟩)
    have hin : r.2 ∈ ends rows := List.mem_map.mpr ⟨r, r3, rfl⟩
    have wr : Way (ends rows) r.2.1 r.2.2 := .fwd (.stay _) hin
    have wa : Way (ends rows) g r.2.1 := by
      rcases r2 with z | z
      · exact up z
      · exact (up z).trans wr.symm
    have cd := side_len rise r3
    have b12 := inm r.2 hin
    obtain ⟨k1, k2, k3, _⟩ := want_part rise inm two cd b12.1 wa side_one
    have ce : (crs (fun q => !sideB rows r q) rows).length ≤ 1 := by
      refine Nat.le_trans (nd_le ((rise_nd rise).filter _) fun x hx => ?_) cd
      obtain ⟨x1, x2⟩ := mem_crs.mp hx
      refine mem_crs.mpr ⟨x1, fun z => x2 ?_⟩
      show (!sideB rows r x.2.1) = (!sideB rows r x.2.2)
      rw [z]
    obtain ⟨j1, j2, j3, _⟩ := want_part rise inm two ce b12.2 (wa.trans wr) (by show (!sideB rows r r.2.2) = true; rw [side_other r4]; rfl)
    have ne : k1 ≠ j1 := fun z => by
      have j3 : (!sideB rows r j1) = true := j3
      rw [← z, k3] at j3
      cases j3
    exact nd_le (xs := [k1, j1]) (List.nodup_cons.mpr ⟨fun z => ne (List.mem_singleton.mp z), List.nodup_cons.mpr ⟨List.not_mem_nil, List.nodup_nil⟩⟩) fun x hx => by
      rcases List.mem_cons.mp hx with z | z
      · rw [z]
        exact k2
      · rw [List.mem_singleton.mp z]
        exact j2
theorem word_three {b : Nat → Bool} (h : (crs b rows).length ≤ 1) (g : Nat) : Three b (b g) (wordF m rows g) := by
  obtain ⟨A, B, C, e, hA, hB, hC⟩ := depth_three (rows := rows) g h
  have key : ∀ {X : List Nat} {v : Bool}, (∀ x ∈ X, b x = v) → ∀ x ∈ X.flatMap (fun p => List.replicate (wantF m rows p) p), b x = v := fun {X v} hX x hx => by
    obtain ⟨p, hp, hx⟩ := List.mem_flatMap.mp hx
    rw [(List.mem_replicate.mp hx).2]
    exact hX p hp
  exact ⟨_, _, _, by unfold wordF; rw [e, List.flatMap_append, List.flatMap_append], key hA, key hB, key hC⟩
/-- the parts that lie on both sides -/
theorem words_nonc {b : Nat → Bool} (h : (crs b rows).length ≤ 1) : ((wordsF m rows).filter (nonc b)).length ≤ (crs b rows).length := by
  have cross : ∀ g, nonc b (wordF m rows g) = true → ∃ r ∈ crs b rows, Way (ends rows) g r.2.1 := fun g hg => Classical.byContradiction fun no => by
    obtain ⟨x, hx, ex⟩ := nonc_true hg (!b g)
    have w := (mem_word.mp hx).1
    have z : b x = b g ∧ Way (ends rows) g x := by
      refine ⟨?_, w⟩
      have := w.closed (S := fun q => Way (ends rows) g q ∧ b q = b g ∨ ¬ Way (ends rows) g q) (.inl ⟨.stay _, rfl⟩) fun q hq => by
        obtain ⟨r, hr, e⟩ := List.mem_map.mp hq
        have hq1 : Way (ends rows) q.1 q.2 := .fwd (.stay _) hq
        by_cases w1 : Way (ends rows) g q.1
        · have w2 := w1.trans hq1
          have eb : b r.2.1 = b r.2.2 := Classical.byContradiction fun ne => no ⟨r, mem_crs.mpr ⟨hr, ne⟩, by rw [e]; exact w1⟩
          rw [e] at eb
          exact ⟨fun y => .inl ⟨w2, by
            rcases y with y | y
            · rw [← eb, y.2]
            · exact (y w1).elim⟩, fun y => .inl ⟨w1, by
            rcases y with y | y
            · rw [eb, y.2]
            · exact (y w2).elim⟩⟩
        · have w2 : ¬ Way (ends rows) g q.2 := fun z => w1 (z.trans hq1.symm)
          exact ⟨fun _ => .inr w2, fun _ => .inr w1⟩
      rcases this with y | y
      · exact y.2
      · exact (y w).elim
    rw [ex] at z
    cases q : b g <;> rw [q] at z <;> cases z.1
  unfold wordsF
  rw [List.filter_map, List.length_map]
  have nd : ((heads m (ends rows)).filter (nonc b ∘ wordF m rows)).Nodup := (heads_up.imp fun {a b} ab => Nat.ne_of_lt ab).filter _
  generalize hl : (heads m (ends rows)).filter (nonc b ∘ wordF m rows) = l at nd
  have hin : ∀ g ∈ l, g ∈ heads m (ends rows) ∧ nonc b (wordF m rows g) = true := fun g hg => by
    rw [← hl] at hg
    exact List.mem_filter.mp hg
  match l, nd, hin with
  | [], _, _ => exact Nat.zero_le _
  | [g], _, hin =>
    obtain ⟨r, hr, _⟩ := cross g (hin g (List.mem_cons_self ..)).2
    exact List.length_pos_of_mem hr
  | g :: g' :: l, nd, hin =>
    exfalso
    obtain ⟨h1, n1⟩ := hin g (List.mem_cons_self ..)
    obtain ⟨h2, n2⟩ := hin g' (List.mem_cons_of_mem _ (List.mem_cons_self ..))
    obtain ⟨r, hr, w⟩ := cross g n1
    obtain ⟨r', hr', w'⟩ := cross g' n2
    have er : r = r' := by
      match e : crs b rows, h, hr, hr' with
      | [y], _, hr, hr' => rw [List.mem_singleton.mp hr, List.mem_singleton.mp hr']
    rw [← er] at w'
    have := least_uniq (mem_heads.mp h1).2 (mem_heads.mp h2).2 (w.trans w'.symm)
    exact (List.nodup_cons.mp nd).1 (by rw [this]; exact List.mem_cons_self ..)
/-- every cut is crossed twice -/
theorem few_cut (rise : rows.Pairwise fun a b => a.1 < b.1) (inm : ∀ q ∈ ends rows, q.1 < m ∧ q.2 < m) (two : 2 ≤ (heads m (ends (solid rows))).length) {b : Nat → Bool} {p q : Nat} (hp : p < m) (hq : q < m) (ne : b p ≠ b q) : 2 ≤ (crs b rows).length + (crp b (fewestF m rows)).length := by
  by_cases o : (crs b rows).length ≤ 1
  · have lo := words_nonc (m := m) o
    have some_ : wordsF m rows ≠ [] := fun z => by
      obtain ⟨h, h1, _, h3⟩ := least_of (ends rows) p
      have : h ∈ heads m (ends rows) := mem_heads.mpr ⟨by omega, h3⟩
      unfold wordsF at z
      rw [List.map_eq_nil_iff.mp z] at this
      exact absurd this List.not_mem_nil
    rcases few_cross some_ (b := b) (fun wt hwt => by
      obtain ⟨g, hg, e⟩ := List.mem_map.mp hwt
      rw [← e]
      exact ⟨word_two rise inm two hg, _, word_three o g⟩) (by omega) with z | ⟨c, hc⟩
    · unfold fewestF
      omega
    · exfalso
      obtain ⟨x, hx, ex⟩ : ∃ x, x < m ∧ b x = !c := by
        by_cases e : b p = c
        · exact ⟨q, hq, bne fun z => ne (by rw [e, z])⟩
        · exact ⟨p, hp, bne e⟩
      obtain ⟨g, g1, g2, g3⟩ := least_of (ends rows) x
      have hg : g ∈ heads m (ends rows) := mem_heads.mpr ⟨by omega, g3⟩
      have cd : (crs (fun y => decide (b y = !c)) rows).length ≤ 1 := by
        refine Nat.le_trans (nd_le ((rise_nd rise).filter _) fun y hy => ?_) o
        obtain ⟨y1, y2⟩ := mem_crs.mp hy
        refine mem_crs.mpr ⟨y1, fun z => y2 ?_⟩
        show decide (b y.2.1 = !c) = decide (b y.2.2 = !c)
        rw [z]
      obtain ⟨h, h1, h2, _⟩ := want_part rise inm two cd hx g2 (decide_eq_true ex)
      have h2 : decide (b h = !c) = true := h2
      have h2 := of_decide_eq_true h2
      have := hc h (List.mem_flatten.mpr ⟨wordF m rows g, List.mem_map.mpr ⟨g, hg, rfl⟩, h1⟩)
      rw [this] at h2
      cases c <;> cases h2
  · omega
/-- built: one part, and none that parts -/
theorem few_can (rise : rows.Pairwise fun a b => a.1 < b.1) (inm : ∀ q ∈ ends rows, q.1 < m ∧ q.2 < m) (m1 : 1 ≤ m) (two : 2 ≤ (heads m (ends (solid rows))).length) {rows' : List TRow} (rise' : rows'.Pairwise fun a b => a.1 < b.1) (inm' : ∀ q ∈ ends rows', q.1 < m ∧ q.2 < m) (e : ends rows' = ends rows ++ fewestF m rows) : canB m rows' = true := by
  have len : ∀ b : Nat → Bool, (crs b rows').length = (crs b rows).length + (crp b (fewestF m rows)).length := fun b => by
    have key : ∀ R : List TRow, (crs b R).length = (crp b (ends R)).length := fun R => by
      unfold crs crp ends
      rw [List.filter_map, List.length_map]
      rfl
    rw [key, key, e, crp_app, List.length_append]
  have cut : ∀ (b : Nat → Bool) (p q : Nat), p < m → q < m → b p ≠ b q → 2 ≤ (crs b rows').length := fun b p q hp hq ne => by
    rw [len]
    exact few_cut rise inm two hp hq ne
  unfold canB
  rw [Bool.and_eq_true]
  constructor
  · have all : ∀ q, q < m → Way (ends rows') 0 q := fun q hq => Classical.byContradiction fun no => by
      have z := cut (partB rows' 0) 0 q (by omega) hq (by
        rw [partB_true.mpr (.stay _)]
        intro y
        exact no (partB_true.mp y.symm))
      have : crs (partB rows' 0) rows' = [] := List.filter_eq_nil_iff.mpr fun x hx => by simp [partB_row hx]
      rw [this] at z
      exact absurd z (by decide)
    refine decide_eq_true ?_
    unfold partsOf
    rw [List.length_map]
    have e0 : heads m (ends rows') = [0] := by
      refine up_uniq heads_up (List.pairwise_singleton _ _) fun x => ?_
      rw [mem_heads, List.mem_singleton]
      constructor
      · rintro ⟨h1, h2⟩
        exact Classical.byContradiction fun n => h2 0 (by omega) (all x h1)
      · rintro rfl
        exact ⟨by omega, fun q hq => by omega⟩
    rw [e0]
    rfl
  · rw [List.isEmpty_iff]
    refine List.filter_eq_nil_iff.mpr fun r hr hb => ?_
    have b12 := inm' r.2 (List.mem_map.mpr ⟨r, hr, rfl⟩)
    have z := cut (sideB rows' r) r.2.1 r.2.2 b12.1 b12.2 (by rw [side_one, side_other hb]; exact Bool.noConfusion)
    have := side_len rise' hr
    omega
end
end Own

/-! fewest: how many, and of unlike places. -/
set_option Elab.async false
set_option linter.all false
set_option maxRecDepth 100000
set_option maxHeartbeats 4000000
namespace Own
open L2
structure Cnt (dn : List (List Nat)) (S : Join × List Nat) : Prop where
  pairs : S.1.length + 1 = dn.length
  left : S.2.length + 2 * S.1.length = dn.flatten.length
  two : 2 ≤ S.2.length
  mem : ∀ x ∈ S.2, x ∈ dn.flatten
  unl : ∀ q ∈ S.1, q.1 ∈ dn.flatten ∧ q.2 ∈ dn.flatten ∧ q.1 ≠ q.2
  init : S.2.dropLast.Nodup
  more : 2 ≤ dn.length → S.2.Nodup
theorem init_nd {L : List Nat} (h : L.Nodup) : L.dropLast.Nodup := h.sublist (List.dropLast_sublist L)
theorem step_cnt {dn : List (List Nat)} {S : Join × List Nat} {wt : List Nat} (I : Cnt dn S) (l2 : 2 ≤ wt.length) (tn : wt.tail.Nodup) (dj : ∀ x ∈ wt, x ∉ dn.flatten) : Cnt (dn ++ [wt]) (stepC S wt) := by
  have ne : S.2 ≠ [] := fun z => by
    have := I.two
    rw [z] at this
    exact absurd this (by decide)
  obtain ⟨F, x, eS⟩ : ∃ F x, S.2 = F ++ [x] := ⟨S.2.dropLast, S.2.getLast ne, (List.dropLast_concat_getLast ne).symm⟩
  obtain ⟨y, T, eW⟩ : ∃ y T, wt = y :: T := by
    cases wt with
    | nil => exact absurd l2 (by decide)
    | cons y T => exact ⟨y, T, rfl⟩
  have est : stepC S wt = (S.1 ++ [(x, y)], F ++ T) := by
    unfold stepC
    rw [if_neg ne, eS, eW]
    simp
  have i1 := I.init
  have i2 := I.two
  have i3 := I.left
  have i4 := I.pairs
  rw [eS] at i1 i2 i3
  rw [List.dropLast_concat] at i1
  rw [List.length_append] at i2 i3
  have l1 : [x].length = 1 := rfl
  have lw : wt.length = T.length + 1 := by rw [eW]; rfl
  have fl : (dn ++ [wt]).flatten = dn.flatten ++ wt := by rw [List.flatten_append, List.flatten_singleton]
  have mF : ∀ q ∈ F, q ∈ dn.flatten := fun q hq => I.mem q (by rw [eS]; exact List.mem_append_left _ hq)
  have mx : x ∈ dn.flatten := I.mem x (by rw [eS]; exact List.mem_append_right _ (List.mem_cons_self ..))
  have mT : ∀ q ∈ T, q ∈ wt := fun q hq => by rw [eW]; exact List.mem_cons_of_mem _ hq
  have my : y ∈ wt := by rw [eW]; exact List.mem_cons_self ..
  have nd : (F ++ T).Nodup := by
    rw [List.nodup_append]
    refine ⟨i1, ?_, fun p hp q hq z => dj q (mT q hq) (by rw [← z]; exact mF p hp)⟩
    rw [eW] at tn
    exact tn
  rw [est]
  refine ⟨?_, ?_, ?_, fun q hq => ?_, fun q hq => ?_, init_nd nd, fun _ => nd⟩
  · rw [List.length_append, List.length_append]
    have a1 : [(x, y)].length = 1 := rfl
    have a2 : [wt].length = 1 := rfl
    omega
  · rw [fl, List.length_append, List.length_append, List.length_append]
    have a1 : [(x, y)].length = 1 := rfl
    omega
  · rw [List.length_append]
    omega
  · rw [fl]
    rcases List.mem_append.mp hq with z | z
    · exact List.mem_append_left _ (mF q z)
    · exact List.mem_append_right _ (mT q z)
  · rw [fl]
    rcases List.mem_append.mp hq with z | z
    · obtain ⟨u1, u2, u3⟩ := I.unl q z
      exact ⟨List.mem_append_left _ u1, List.mem_append_left _ u2, u3⟩
    · rw [List.mem_singleton.mp z]
      exact ⟨List.mem_append_left _ mx, List.mem_append_right _ my, fun e => dj y my (by have e : x = y := e; rw [← e]; exact mx)⟩
theorem fold_cnt : ∀ (ws dn : List (List Nat)) (S : Join × List Nat), Cnt dn S → (∀ wt ∈ ws, 2 ≤ wt.length ∧ wt.tail.Nodup ∧ ∀ x ∈ wt, x ∉ dn.flatten) → ws.Pairwise (fun u v => ∀ x ∈ v, x ∉ u) → Cnt (dn ++ ws) (ws.foldl stepC S)
  | [], dn, S, I, _, _ => by
    rw [List.append_nil]
    exact I
  | wt :: ws, dn, S, I, h, pw => by
    obtain ⟨l2, tn, dj⟩ := h wt (List.mem_cons_self ..)
    obtain ⟨p1, p2⟩ := List.pairwise_cons.mp pw
    have e : dn ++ wt :: ws = (dn ++ [wt]) ++ ws := by simp
    rw [e, List.foldl_cons]
    refine fold_cnt ws (dn ++ [wt]) _ (step_cnt I l2 tn dj) (fun v hv => ?_) p2
    obtain ⟨v1, v2, v3⟩ := h v (List.mem_cons_of_mem _ hv)
    refine ⟨v1, v2, fun x hx z => ?_⟩
    rw [List.flatten_append, List.flatten_singleton] at z
    rcases List.mem_append.mp z with z | z
    · exact v3 x hx z
    · exact p1 v hv x hx z
theorem chain_cnt {ws : List (List Nat)} (ne : ws ≠ []) (h : ∀ wt ∈ ws, 2 ≤ wt.length ∧ wt.tail.Nodup ∧ wt.dropLast.Nodup) (pw : ws.Pairwise fun u v => ∀ x ∈ v, x ∉ u) : Cnt ws (chainF ws) := by
  cases ws with
  | nil => exact (ne rfl).elim
  | cons wt ws =>
    obtain ⟨l2, tn, dn⟩ := h wt (List.mem_cons_self ..)
    obtain ⟨p1, p2⟩ := List.pairwise_cons.mp pw
    have e0 : stepC ([], []) wt = ([], wt) := rfl
    unfold chainF
    rw [List.foldl_cons, e0]
    refine fold_cnt ws [wt] ([], wt) ⟨rfl, by rw [List.flatten_singleton]; rfl, l2, fun x hx => by rw [List.flatten_singleton]; exact hx, fun q hq => absurd hq List.not_mem_nil, dn, fun z => absurd z (by show ¬ 2 ≤ 1; decide)⟩ (fun v hv => ?_) p2
    obtain ⟨v1, v2, _⟩ := h v (List.mem_cons_of_mem _ hv)
    exact ⟨v1, v2, fun x hx z => p1 v hv x hx (by rw [List.flatten_singleton] at z; exact z)⟩
theorem half_len (L : List Nat) : (halfF L).length = L.length - L.length / 2 := by
  unfold halfF
  rw [List.length_zip, List.length_drop]
  omega
theorem half_unl {L : List Nat} (nd : L.Nodup) (two : 2 ≤ L.length) : ∀ q ∈ halfF L, q.1 ∈ L ∧ q.2 ∈ L ∧ q.1 ≠ q.2 := fun q hq => by
  obtain ⟨t, ht⟩ := List.mem_iff_getElem?.mp hq
  obtain ⟨h1, h2⟩ := List.getElem?_zip_eq_some.mp ht
  rw [List.getElem?_drop] at h2
  refine ⟨List.mem_of_getElem? h1, List.mem_of_getElem? h2, fun e => ?_⟩
  obtain ⟨l1, g1⟩ := List.getElem?_eq_some_iff.mp h1
  obtain ⟨l2, g2⟩ := List.getElem?_eq_some_iff.mp h2
  have z := List.pairwise_iff_getElem.mp nd t (L.length / 2 + t) l1 l2 (by omega)
  exact z (by rw [g1, g2, e])
theorem few_facts {ws : List (List Nat)} (ne : ws ≠ []) (h : ∀ wt ∈ ws, 2 ≤ wt.length ∧ wt.tail.Nodup ∧ wt.dropLast.Nodup) (pw : ws.Pairwise fun u v => ∀ x ∈ v, x ∉ u) (one : ws.length = 1 → ∀ wt ∈ ws, wt.Nodup) :
    (fewF ws).length = (ws.flatten.length + 1) / 2 ∧ ∀ q ∈ fewF ws, q.1 ∈ ws.flatten ∧ q.2 ∈ ws.flatten ∧ q.1 ≠ q.2 := by
  have I := chain_cnt ne h pw
  have nd : (chainF ws).2.Nodup := by
    by_cases l : 2 ≤ ws.length
    · exact I.more l
    · match ws, ne, l, one with
      | [wt], _, _, one => exact one rfl wt (List.mem_cons_self ..)
      | _ :: _ :: _, _, l, _ => exact absurd (by simp) l
  have i1 := I.pairs
  have i2 := I.left
  have i3 := I.two
  constructor
  · unfold fewF
    rw [List.length_append, half_len]
    omega
  · intro q hq
    unfold fewF at hq
    rcases List.mem_append.mp hq with z | z
    · exact I.unl q z
    · obtain ⟨a, b, c⟩ := half_unl nd i3 q z
      exact ⟨I.mem _ a, I.mem _ b, c⟩
/-! ### the words -/
theorem flat_one {f : Nat → List Nat} {h : Nat} : ∀ {L : List Nat}, L.Nodup → h ∈ L → (∀ p ∈ L, p ≠ h → f p = []) → L.flatMap f = f h
  | [], _, hh, _ => absurd hh List.not_mem_nil
  | a :: L, nd, hh, z => by
    obtain ⟨n1, n2⟩ := List.nodup_cons.mp nd
    rw [List.flatMap_cons]
    by_cases e : a = h
    · subst e
      have : L.flatMap f = [] := by
        rw [List.flatMap_eq_nil_iff]
        exact fun p hp => z p (List.mem_cons_of_mem _ hp) fun y => n1 (y ▸ hp)
      rw [this, List.append_nil]
    · rw [z a (List.mem_cons_self ..) e, List.nil_append]
      refine flat_one n2 ?_ fun p hp => z p (List.mem_cons_of_mem _ hp)
      rcases List.mem_cons.mp hh with y | y
      · exact (e y.symm).elim
      · exact y
theorem flat_nd {w : Nat → Nat} : ∀ {L : List Nat}, L.Nodup → (∀ p ∈ L, w p ≤ 1) → (L.flatMap fun p => List.replicate (w p) p).Nodup
  | [], _, _ => List.nodup_nil
  | a :: L, nd, h => by
    obtain ⟨n1, n2⟩ := List.nodup_cons.mp nd
    rw [List.flatMap_cons, List.nodup_append]
    refine ⟨?_, flat_nd n2 fun p hp => h p (List.mem_cons_of_mem _ hp), fun x hx y hy e => ?_⟩
    · have := h a (List.mem_cons_self ..)
      match w a, this with
      | 0, _ => exact List.nodup_nil
      | 1, _ => exact List.nodup_cons.mpr ⟨List.not_mem_nil, List.nodup_nil⟩
    · obtain ⟨p, hp, hy⟩ := List.mem_flatMap.mp hy
      have e1 := (List.mem_replicate.mp hx).2
      have e2 := (List.mem_replicate.mp hy).2
      exact n1 (by rw [← e1, e, e2]; exact hp)
section
variable {m : Nat} {rows : List TRow}
theorem word_kind (inm : ∀ q ∈ ends rows, q.1 < m ∧ q.2 < m) {g : Nat} : (wordF m rows g).Nodup ∨ ∃ h, wordF m rows g = [h, h] ∧ ∀ p, Way (ends rows) g p → Way (ends (solid rows)) h p := by
  obtain ⟨d1, d2⟩ := in_depth (steps := bothWays rows) g
  by_cases e : ∃ h ∈ inDepthF (bothWays rows) g, 2 ≤ wantF m rows h
  · right
    obtain ⟨h, hin, hw⟩ := e
    have hc : 2 ≤ (heads m (ends (solid rows))).length ∧ h ∈ heads m (ends (solid rows)) := Classical.byContradiction fun z => by
      unfold wantF at hw
      rw [if_neg z] at hw
      exact absurd hw (by decide)
    have ew : wantF m rows h = 2 - (leadO m rows h).length := if_pos hc
    have l0 : leadO m rows h = [] := List.length_eq_zero_iff.mp (by omega)
    have wg : Way (ends rows) g h := led_both.mp ((d2 h).mp hin)
    have clo : ∀ p, Way (ends rows) g p → Way (ends (solid rows)) h p := fun p wp => by
      refine (wg.symm.trans wp).closed (S := fun q => Way (ends (solid rows)) h q) (.stay _) fun q hq => ?_
      obtain ⟨r, hr, er⟩ := List.mem_map.mp hq
      have b12 := inm q hq
      cases hb : bridge rows r with
      | false =>
        have : q ∈ ends (solid rows) := List.mem_map.mpr ⟨r, solid_in.mpr ⟨hr, hb⟩, er⟩
        have w : Way (ends (solid rows)) q.1 q.2 := .fwd (.stay _) this
        exact ⟨fun z => z.trans w, fun z => z.trans w.symm⟩
      | true =>
        have no : ∀ x, x < m → (x = r.2.1 ∨ x = r.2.2) → ¬ Way (ends (solid rows)) h x := fun x hx ex z => by
          have hm : x ∈ cls m (ends (solid rows)) h := mem_cls.mpr ⟨hx, z⟩
          have : r ∈ leadO m rows h := List.mem_filter.mpr ⟨List.mem_filter.mpr ⟨hr, hb⟩, decide_eq_true (by
            rcases ex with y | y
            · exact .inl (by rw [← y]; exact hm)
            · exact .inr (by rw [← y]; exact hm))⟩
          rw [l0] at this
          exact absurd this List.not_mem_nil
        exact ⟨fun z => (no q.1 b12.1 (.inl (by rw [er])) z).elim, fun z => (no q.2 b12.2 (.inr (by rw [er])) z).elim⟩
    refine ⟨h, ?_, clo⟩
    have e2 : wordF m rows g = List.replicate (wantF m rows h) h := by
      unfold wordF
      refine flat_one (f := fun p => List.replicate (wantF m rows p) p) d1 hin fun p hp ne => ?_
      have : wantF m rows p = 0 := by
        unfold wantF
        rw [if_neg]
        rintro ⟨_, hp2⟩
        exact ne (least_uniq (mem_heads.mp hp2).2 (mem_heads.mp hc.2).2 (clo p (led_both.mp ((d2 p).mp hp))).symm)
      rw [this]
      rfl
    have e3 : wantF m rows h = 2 := by omega
    rw [e2, e3]
    rfl
  · left
    exact flat_nd d1 fun p hp => Nat.le_of_lt_succ (Nat.lt_of_not_le fun z => e ⟨p, hp, z⟩)
theorem words_ok (rise : rows.Pairwise fun a b => a.1 < b.1) (inm : ∀ q ∈ ends rows, q.1 < m ∧ q.2 < m) (two : 2 ≤ (heads m (ends (solid rows))).length) :
    wordsF m rows ≠ [] ∧ (∀ wt ∈ wordsF m rows, 2 ≤ wt.length ∧ wt.tail.Nodup ∧ wt.dropLast.Nodup) ∧ (wordsF m rows).Pairwise (fun u v => ∀ x ∈ v, x ∉ u) ∧ ((wordsF m rows).length = 1 → ∀ wt ∈ wordsF m rows, wt.Nodup) := by
  obtain ⟨p0, hp0⟩ := List.exists_mem_of_length_pos (l := heads m (ends (solid rows))) (by omega)
  have hp0 := (mem_heads.mp hp0).1
  have one1 : ([1] : List Nat).Nodup := List.nodup_cons.mpr ⟨List.not_mem_nil, List.nodup_nil⟩
  have sg : ∀ h : Nat, ([h] : List Nat).Nodup := fun h => List.nodup_cons.mpr ⟨List.not_mem_nil, List.nodup_nil⟩
  refine ⟨fun z => ?_, fun wt hwt => ?_, ?_, fun l1 wt hwt => ?_⟩
  · obtain ⟨h, h1, _, h3⟩ := least_of (ends rows) p0
    have : h ∈ heads m (ends rows) := mem_heads.mpr ⟨by omega, h3⟩
    unfold wordsF at z
    rw [List.map_eq_nil_iff.mp z] at this
    exact absurd this List.not_mem_nil
  · obtain ⟨g, hg, e⟩ := List.mem_map.mp hwt
    rw [← e]
    refine ⟨word_two rise inm two hg, ?_⟩
    rcases word_kind inm (g := g) with z | ⟨h, z, _⟩
    · exact ⟨z.sublist (List.tail_sublist _), z.sublist (List.dropLast_sublist _)⟩
    · rw [z]
      exact ⟨sg h, sg h⟩
  · refine List.pairwise_map.mpr (List.Pairwise.imp_of_mem (fun {a b} ha hb ab x hx hy => ?_) (heads_up (m := m) (ps := ends rows)))
    have := least_uniq (mem_heads.mp ha).2 (mem_heads.mp hb).2 ((mem_word.mp hy).1.trans (mem_word.mp hx).1.symm)
    have : a < b := ab
    omega
  · obtain ⟨g, hg, e⟩ := List.mem_map.mp hwt
    rw [← e]
    rcases word_kind inm (g := g) with z | ⟨h, _, z⟩
    · exact z
    · exfalso
      unfold wordsF at l1
      rw [List.length_map] at l1
      obtain ⟨g', eg⟩ := List.length_eq_one_iff.mp l1
      have all : ∀ x, x < m → Way (ends rows) g x := fun x hx => by
        obtain ⟨k, k1, k2, k3⟩ := least_of (ends rows) x
        have : k ∈ heads m (ends rows) := mem_heads.mpr ⟨by omega, k3⟩
        rw [eg, List.mem_singleton] at this hg
        rw [hg, ← this]
        exact k2
      have : (heads m (ends (solid rows))).length ≤ 1 := nd_le (ys := [(heads m (ends (solid rows))).head?.getD 0]) (heads_up.imp fun {a b} ab => Nat.ne_of_lt ab) fun x hx => by
        obtain ⟨y, hy⟩ : ∃ y, y ∈ heads m (ends (solid rows)) ∧ (heads m (ends (solid rows))).head?.getD 0 = y := by
          cases q : heads m (ends (solid rows)) with
          | nil =>
            rw [q] at hx
            exact absurd hx List.not_mem_nil
          | cons y l => exact ⟨y, List.mem_cons_self .., rfl⟩
        rw [hy.2, List.mem_singleton]
        obtain ⟨x1, x2⟩ := mem_heads.mp hx
        obtain ⟨y1, y2⟩ := mem_heads.mp hy.1
        exact least_uniq x2 y2 ((z x (all x x1)).symm.trans (z y (all y y1)))
      omega
/-! ### how many are wanted -/
theorem sum_erase (f : Nat → Nat) {x : Nat} : ∀ {ys : List Nat}, x ∈ ys → (ys.map f).sum = f x + ((ys.erase x).map f).sum
  | [], h => absurd h List.not_mem_nil
  | y :: ys, h => by
    by_cases e : y = x
    · subst e
      rw [List.erase_cons_head]
      rfl
    · have hx : x ∈ ys := by
        rcases List.mem_cons.mp h with z | z
        · exact (e z.symm).elim
        · exact z
      have ih := sum_erase f hx
      rw [List.erase_cons_tail (by simpa using e), List.map_cons, List.map_cons, List.sum_cons, List.sum_cons, ih]
      omega
theorem nd_sum (f : Nat → Nat) : ∀ {xs ys : List Nat}, xs.Nodup → ys.Nodup → (∀ x, x ∈ xs ↔ x ∈ ys) → (xs.map f).sum = (ys.map f).sum
  | [], ys, _, _, h => by
    cases ys with
    | nil => rfl
    | cons y ys => exact absurd ((h y).mpr (List.mem_cons_self ..)) List.not_mem_nil
  | x :: xs, ys, n1, n2, h => by
    obtain ⟨m1, m2⟩ := List.nodup_cons.mp n1
    have hx := (h x).mp (List.mem_cons_self ..)
    rw [sum_erase f hx, List.map_cons, List.sum_cons]
    have ih := nd_sum f (xs := xs) (ys := ys.erase x) m2 (n2.sublist List.erase_sublist) fun y => by
      rw [n2.mem_erase_iff]
      constructor
      · intro hy
        exact ⟨fun z => m1 (z ▸ hy), (h y).mp (List.mem_cons_of_mem _ hy)⟩
      · rintro ⟨a, b⟩
        rcases List.mem_cons.mp ((h y).mpr b) with z | z
        · exact (a z).elim
        · exact z
    omega
theorem sum_filter (f : Nat → Nat) (p : Nat → Bool) : ∀ {L : List Nat}, (∀ x ∈ L, p x = false → f x = 0) → (L.map f).sum = ((L.filter p).map f).sum
  | [], _ => rfl
  | a :: L, h => by
    have ih := sum_filter f p (L := L) fun x hx => h x (List.mem_cons_of_mem _ hx)
    rw [List.filter_cons]
    cases e : p a with
    | true =>
      rw [if_pos rfl, List.map_cons, List.map_cons, List.sum_cons, List.sum_cons, ih]
    | false =>
      rw [if_neg Bool.false_ne_true, List.map_cons, List.sum_cons, ih, h a (List.mem_cons_self ..) e, Nat.zero_add]
theorem sum_app (xs ys : List Nat) : (xs ++ ys).sum = xs.sum + ys.sum := by
  induction xs with
  | nil => rw [List.nil_append, List.sum_nil, Nat.zero_add]
  | cons x xs ih => rw [List.cons_append, List.sum_cons, List.sum_cons, ih, Nat.add_assoc]
theorem words_sum : (wordsF m rows).flatten.length = ((heads m (ends (solid rows))).map (wantF m rows)).sum := by
  have wl : ∀ L : List Nat, (L.flatMap fun p => List.replicate (wantF m rows p) p).length = (L.map (wantF m rows)).sum := fun L => by
    induction L with
    | nil => rfl
    | cons a L ih => rw [List.flatMap_cons, List.length_append, List.length_replicate, ih, List.map_cons, List.sum_cons]
  have fl : ∀ G : List Nat, ((G.map (wordF m rows)).flatten).length = ((G.flatMap fun g => inDepthF (bothWays rows) g).map (wantF m rows)).sum := fun G => by
    induction G with
    | nil => rfl
    | cons g G ih =>
      rw [List.map_cons, List.flatten_cons, List.length_append, ih, List.flatMap_cons, List.map_append, sum_app]
      unfold wordF
      rw [wl]
  unfold wordsF
  rw [fl]
  have key : ∀ G : List Nat, G.Pairwise (· < ·) → (∀ g ∈ G, g ∈ heads m (ends rows)) → (G.flatMap fun g => inDepthF (bothWays rows) g).Nodup := fun G => by
    induction G with
    | nil => exact fun _ _ => List.nodup_nil
    | cons g G ih =>
      intro pw hG
      obtain ⟨p1, p2⟩ := List.pairwise_cons.mp pw
      rw [List.flatMap_cons, List.nodup_append]
      refine ⟨(in_depth g).1, ih p2 fun x hx => hG x (List.mem_cons_of_mem _ hx), fun x hx y hy e => ?_⟩
      obtain ⟨g', hg', hy⟩ := List.mem_flatMap.mp hy
      have w1 := led_both.mp (((in_depth g).2 x).mp hx)
      have w2 := led_both.mp (((in_depth g').2 y).mp hy)
      rw [← e] at w2
      have := least_uniq (mem_heads.mp (hG g (List.mem_cons_self ..))).2 (mem_heads.mp (hG g' (List.mem_cons_of_mem _ hg'))).2 (w1.trans w2.symm)
      have := p1 g' hg'
      omega
  -- only the least places of pieces want
  have e1 : ∀ L : List Nat, (L.map (wantF m rows)).sum = ((L.filter fun x => decide (x ∈ heads m (ends (solid rows)))).map (wantF m rows)).sum := fun L => sum_filter _ _ fun x _ hx => by
    unfold wantF
    rw [if_neg fun z => of_decide_eq_false hx z.2]
  rw [e1]
  refine nd_sum _ ((key _ heads_up fun g hg => hg).filter _) (heads_up.imp fun {a b} ab => Nat.ne_of_lt ab) fun x => ?_
  rw [List.mem_filter, decide_eq_true_iff]
  refine ⟨fun h => h.2, fun h => ⟨?_, h⟩⟩
  have hx := (mem_heads.mp h).1
  obtain ⟨k, k1, k2, k3⟩ := least_of (ends rows) x
  exact List.mem_flatMap.mpr ⟨k, mem_heads.mpr ⟨by omega, k3⟩, ((in_depth k).2 x).mpr (led_both.mpr k2)⟩
/-- fewest: as many as half of what is wanted, made greater; pairs of unlike places of the town -/
theorem fewest_facts (rise : rows.Pairwise fun a b => a.1 < b.1) (inm : ∀ q ∈ ends rows, q.1 < m ∧ q.2 < m) (two : 2 ≤ (heads m (ends (solid rows))).length) :
    (fewestF m rows).length = (((heads m (ends (solid rows))).map (wantF m rows)).sum + 1) / 2 ∧ ∀ q ∈ fewestF m rows, q.1 < m ∧ q.2 < m ∧ q.1 ≠ q.2 := by
  obtain ⟨w1, w2, w3, w4⟩ := words_ok rise inm two
  obtain ⟨f1, f2⟩ := few_facts w1 w2 w3 w4
  rw [words_sum] at f1
  have lt : ∀ x ∈ (wordsF m rows).flatten, x < m := fun x hx => by
    obtain ⟨wt, hwt, hx⟩ := List.mem_flatten.mp hx
    obtain ⟨g, hg, e⟩ := List.mem_map.mp hwt
    rw [← e] at hx
    exact (mem_word.mp hx).1.lt inm (mem_heads.mp hg).1
  exact ⟨f1, fun q hq => ⟨lt _ (f2 q hq).1, lt _ (f2 q hq).2.1, (f2 q hq).2.2⟩⟩
/-- one piece: nothing is wanted -/
theorem few_none (h : ¬ 2 ≤ (heads m (ends (solid rows))).length) : fewestF m rows = [] := by
  have e : ∀ wt ∈ wordsF m rows, wt = [] := fun wt hwt => by
    obtain ⟨g, _, e⟩ := List.mem_map.mp hwt
    rw [← e]
    refine List.eq_nil_iff_forall_not_mem.mpr fun x hx => ?_
    have := (mem_word.mp hx).2
    unfold wantF at this
    rw [if_neg fun z => h z.1] at this
    exact absurd this (by decide)
  have key : ∀ ws : List (List Nat), (∀ wt ∈ ws, wt = []) → ws.foldl stepC ([], []) = ([], []) := fun ws => by
    induction ws with
    | nil => exact fun _ => rfl
    | cons wt ws ih =>
      intro h
      rw [List.foldl_cons, h wt (List.mem_cons_self ..)]
      exact ih fun q hq => h q (List.mem_cons_of_mem _ hq)
  unfold fewestF fewF chainF
  rw [key _ e]
  rfl
end
end Own

set_option Elab.async false
set_option linter.all false
set_option maxRecDepth 100000
set_option maxHeartbeats 4000000
/-! A kept exception that has fields of its own: asked for its kind, its fields read. -/
namespace Own
open PySem PySem.Spec PyProof.Rows L2
section
open PySem.W PySem.Calls
variable {prog : Program} {w : World} {A : Around} {E : Value → Shared → Prop} {s : Shared} {K : Frag} {x D : Addr} {ox : Obj} {od : Option Obj}
/-- x.__class__ of such an exception, whatever its dict -/
theorem ask_class {Q : Option Value → Shared → Prop} (c : ExcC K D) (X : K.In s.heap) (I : InstAt s.heap x ox D od) (done : Q (some (.ref D)) { s with toks := s.toks + 1 }) : wpAny (model prog w) A (getAttr? (.ref x) "__class__") Q E s := by
  obtain ⟨cdD, known, _⟩ := any_some c.hd
  have found : findObj K D od "__class__" = some (.bind (.builtin "getset_descriptor.__get__") (.builtin "object.__class__")) := by
    unfold findObj
    rw [known, Option.bind_some, c.ha, Option.bind_some]
    simp [c.hn, c.ht]
  obtain ⟨heap, gens, drawn, toks, os⟩ := s
  have kindOf := I.type (M := model prog w)
  have getter := looks_findIn (M := model prog w) X c.hg
  have nogetattr := looks_findIn (M := model prog w) X c.hk
  have finds := looks_find (M := model prog w) X I found
  have isExc : Looks (model prog w) heap (isInstance (.ref x) (.type "BaseException")) true := kindOf.andThen (looks_subIn X c.hs)
  have other : (Value.builtin "BaseException.__getattribute__" == Value.builtin "object.__getattribute__") = false := by decide +kernel
  unfold getAttr? getAttrBy? getAttrBy
  refine wpAny_bind (wpAny_mkText (wpAny_bind (wpAny_attempt (wpAny_holding (wpAny_bind (kindOf.at (wpAny_bind (getter.at ?_))))))))
  show wpAny _ _ (if (onTheHeap (Value.ref D) && _) = true then _ else _) _ _ _
  rw [other, Bool.and_false, if_neg Bool.false_ne_true]
  unfold getAttrByItsOwn hookBefore
  rw [show onTheHeap (Value.ref D) = true from rfl, if_pos rfl]
  refine wpAny_bind (nogetattr.at (wpAny_bind (wpAny_attempt (wpAny_holding ?_))))
  unfold callGetattribute
  rw [show (false && onTheHeap (Value.builtin "BaseException.__getattribute__")) = false from rfl]
  rw [if_neg Bool.false_ne_true]
  unfold boundAndCalled
  rw [F.excAttr_ValueError.ga.bind (.ref x)]
  refine wpAny_bind (wpAny_pure ?_)
  show wpAny _ _ (call (.builtin "BaseException.__getattribute__") _) _ _ _
  refine wpAny_call (codeAny_call_builtin F.excAttr_ValueError.ga.plain F.entry_bexc_ga (@check_slot (model prog w) _ _ ⟨heap, gens, drawn, toks + 1, os⟩ "BaseException.__getattribute__" "BaseException" "__getattribute__" (.ref x) [.str "__class__" toks] [] _ (by decide +kernel) (by decide +kernel) isExc (F.args_bexc_ga (.ref x) (.str "__class__" toks)) ?_))
  unfold Builtin.«object.__getattribute__»
  refine wpAny_bind (wpAny_of_eq (a := ((Value.ref x : Value), [Value.str "__class__" toks])) (by first | rfl | (simp only [slotArgs]; rfl)) ?_)
  refine wpAny_bind (wpAny_pure (wpAny_bind (kindOf.at (wpAny_bind (finds.at ?_)))))
  refine wpAny_bind (wpAny_holding (wpAny_call (class_get (s := ⟨heap, gens, drawn, toks + 1, os⟩) (ox := ox) (od := od) X I c.hm ?_)))
  refine wpAny_pure ?_
  show wpAny _ _ (handedOut (.ref D)) _ _ _
  rw [handedOut_of (v := .ref D) rfl]
  first
    | exact wpAny_pure (wpAny_pure done)
    | exact wpAny_pure done
    | exact wpAny_pure (wpAny_bind (wpAny_pure (wpAny_pure done)))
theorem kind_known (c : ExcC K D) : KitX K (.ref x) (.ref D) (fun h => InstAt h x ox D od) := by
  obtain ⟨cdD, known, _⟩ := any_some c.hd
  unfold clsIn at known
  split at known
  · rename_i c' d' cd' sl' there
    refine ⟨fun _ _ _ I => I.type, fun _ _ X _ => ?_, fun h tp dd its n sl X other => ?_, fun X I k => ask_class c X I k⟩
    · intro A1 Q1 E1 s1 kept q
      unfold isType loadHead
      exact wpAny_bind (wpAny_loadPart (kept _ _ (X _ _ there)) (wpAny_pure q))
    · cases z : (Value.ref D == Value.ref tp) with
      | false => rfl
      | true =>
        have e : D = tp := Value.ref.inj (beq_iff_eq.mp z)
        rw [e] at there
        have two := (X _ _ there).symm.trans other
        cases two
  · cases known
end
section
variable {X : Cx} {pins : List (Addr × Obj)} {σ : L2.St} {H : Hp} {s : Shared}
/-- a kept exception with its dict, as an instance -/
theorem exK_inst {D a dd : Addr} {fs : List (Str × V)} (I : Inv X pins σ H s) (ea : H a = some (ExK (.ref D) (some dd) a)) (ed : H dd = some (.xd fs)) : ∃ (ob od : Obj), PySem.W.InstAt s.heap a ob D (some od) ∧ ∃ mA, s.heap.Ns1 dd mA ∧ (∀ f, RelO (fs.lookup f) (mA f)) ∧ ∀ f, PySem.W.lookIn f od = some (mA f) := by
  obtain ⟨⟨_, _, _, _⟩, _, there, ⟨rfl, rfl⟩, rfl⟩ := exK_there I.hok ea
  obtain ⟨mA, ns, rel⟩ := (show ObjOk X.prog X.w H s.heap dd (.xd fs) from I.hok dd _ ed)
  obtain ⟨od, dict, look⟩ := lookIn_ns ns
  exact ⟨_, od, ⟨there, rfl, rfl, dict⟩, mA, ns, rel, look⟩
/-- isinstance(e, C), e kept, with fields -/
def rIsF (K : PySem.W.Frag) : List V → Hp → VK → Prop := fun xs H Q => ∃ (a D dd : Addr) (fs : List (Str × V)) (c : V) (cv : Value) (b : Bool), xs = [.ref a, c] ∧ H a = some (ExK (.ref D) (some dd) a) ∧ H dd = some (.xd fs) ∧ ExcC K D ∧ (∀ u, RelV c u → u = cv) ∧ PySem.W.kitOne K (.ref D) cv = some b ∧ Q (.bl b) H
theorem call_isF : CallR X (.builtin "isinstance") (rIsF X.K) := by
  rintro pins s σ H _ us Q I r ⟨a, D, dd, fs, c, cv, b, rfl, ea, ed, C, one, told, q⟩
  obtain ⟨u, rfl, ru⟩ := ref_and r
  obtain rfl := one u ru
  obtain ⟨_, _, inst, _⟩ := exK_inst I ea ed
  exact PySem.W.kia_one (kind_known C) I.kIn inst told (fun z => nomatch z) fun tk => fin_bl (I.tok tk) q rfl
/-- isinstance(x, C), x any of these -/
def rIsA (K : PySem.W.Frag) : List V → Hp → VK → Prop := fun xs H Q => rIsi K xs H Q ∨ rIsK K xs H Q ∨ rIsF K xs H Q
theorem call_isAll : CallR X (.builtin "isinstance") (rIsA X.K) := fun pins s σ H xs us Q I r h =>
  h.elim (call_isi pins s σ H xs us Q I r) fun h => h.elim (call_isK pins s σ H xs us Q I r) (call_isF pins s σ H xs us Q I r)
/-- e.f of such a one -/
theorem pe_kxf {e : Expr} {te : TE} {n : Str} {pos : Pos} (he : PE X e te) (hb : attributeBase e n X.env (eval e X.env) = eval e X.env := by rfl) :
    PE X (.Attribute e n pos) (fun σ H Q => te σ H fun x H1 => ∃ (a C d : Addr) (fs : List (Str × V)) (v : V), x = .ref a ∧ XfC X.K C ∧ PySem.W.findIn X.K (.ref C) n = some none ∧ H1 a = some (ExK (.ref C) (some d) a) ∧ H1 d = some (.xd fs) ∧ fs.lookup n = some v ∧ Q v H1) := by
  refine ⟨fun pins s σ H Q I h => attr_of hb (thn (he.run pins s σ H _ I h) ?_)⟩
  rintro _ s1 ⟨_, H1, I1, here, a, C, d, fs, v, rfl, T, noIn, ea, ed, found, q⟩
  cases here
  obtain ⟨_, od, inst, mA, _, rel, look⟩ := exK_inst I1 ea ed
  have of := rel n
  rw [found] at of
  obtain ⟨u, there, ru⟩ := RelO.some_of of
  have own := PySem.W.findObj_own T.hdC noIn rfl ((look n).trans (congrArg some there))
  exact HandSPX.exc_get I1.kIn inst T.ga T.gg T.exC own (handed_of ru) ⟨v, H1, I1.tok _, ru, q⟩
end
end Own


set_option Elab.async false
set_option linter.all false
set_option maxRecDepth 100000
set_option maxHeartbeats 4000000
namespace K02
open PySem PySem.Spec PyProof.Rows L2 Own
def top (i : Nat) : Stmt := PySem.Challenge.pw_onewaytown_k02_whole_fewest_streets.main.body.getD i (.Pass ⟨0, 0, 0, 0⟩)
/-! ### what the top has written -/
abbrev gA (K : PySem.W.Frag) (x : Str) : Addr := He.ga K x
/-- an error class without a body of its own -/
structure ErrT (K : PySem.W.Frag) (mg : Str → Option Value) (y : Str) : Prop where
  m : mg y = some (.ref (gA K y))
  x : PySem.W.excIn K (gA K y) He.veBase "ValueError.__new__" = true
  k : PySem.W.keepIn K (.ref (gA K y)) = true
  b : PySem.W.subIn K (.ref (gA K y)) (.type "BaseException") = some true
  t : PySem.W.typeIn K (.ref (gA K y)) = some (.type "type")
structure Txt (K : PySem.W.Frag) (mg : Str → Option Value) : Prop where
  f_type : mg "type" = none
  f_int : mg "int" = none
  f_len : mg "len" = none
  g_MOST_PLACES : ∃ u, mg "MOST_PLACES" = some u ∧ RelV (.int 16) u
  g_MOST_STREETS : ∃ u, mg "MOST_STREETS" = some u ∧ RelV (.int 60) u
  cl : Cls K (gA K "Town")
  nMany : NoAttr K (gA K "Town") "_many"
  nEnds : NoAttr K (gA K "Town") "_ends"
  nBuilt : NoAttr K (gA K "Town") "_built"
  BadCount : ErrT K mg "BadCount"
  BadPlace : ErrT K mg "BadPlace"
  BadStreet : ErrT K mg "BadStreet"
  TooMany : ErrT K mg "TooMany"
abbrev FnP (K : PySem.W.Frag) (x q : Str) (st : Stmt) (f : Addr) (fd : FuncData) : Prop := FunD K x q (defArgs st) (defBody st) (defScope st) [] [] f fd
/-! ### the program: is_whole and Town -/
def spWhole : Sp := fun vs H Q _ => ∃ (x : V) (lo hi : Int), vs = [x, .int lo, .int hi] ∧ (∃ n, tyName x H = some n) ∧ Q (.bl (isW x lo hi)) H
abbrev s_is_whole : Stmt := top 1
abbrev N_is_whole : List Str := ["thing", "least", "most"]
theorem sc_is_whole : FnScope N_is_whole ["thing", "least", "most"] (defScope s_is_whole) := ⟨rfl, rfl, rfl, by decide +kernel, rfl, by decide +kernel, by decide +kernel⟩
section
variable {P : Program} {w : World} {K : PySem.W.Frag} {mg : Str → Option Value} {base : Heap} {f : Addr} {fd : FuncData}
theorem ok_is_whole (T : Txt K mg) (D : FnP K "is_whole" "is_whole" s_is_whole f fd) : FnOk P w K mg base (L2.CX P w) 1 f fd ["thing", "least", "most"] spWhole := by
  have nd := sc_is_whole.nd
  refine D.ok sc_is_whole (fun vs H Q E h => ?_) (fun cdv A outer s H vs Q E hr h => ?_)
  · obtain ⟨x, lo, hi, rfl, _⟩ := h
    rfl
  · obtain ⟨x, lo, hi, rfl, ⟨n, hn⟩, k⟩ := h
    have hu := hu_of hr
    refine ⟨_, (pss_one (ps_ret (pe_and (pe_cmpR op_eqTy (pe_callTy call_tyOf rfl T.f_type (by decide +kernel) (pa_cons (pv 0) pa_nil)) (pe_bltn (v := .ty "int") (u := .type "int") rfl T.f_int (by decide +kernel) rfl) (nomark _)) (pe_one (pe_chain op_le op_le (pv 1) (pv 0) (pv 2)))))), ?_⟩
    refine ⟨_, rfl, x, n, rfl, hn, n, "int", rfl, rfl, tyName_meta hn, meta_all.2.2.1, _, rfl, ?_⟩
    refine if_both (fun e => ?_) (fun e => ?_)
    · have en := of_decide_eq_true e
      rw [en] at hn
      obtain ⟨i, rfl⟩ := tyName_int hn
      refine ⟨_, rfl, _, rfl, _, _, rfl, rfl, _, rfl, ?_⟩
      refine if_both (fun e1 => ?_) (fun e1 => ?_)
      · refine ⟨_, rfl, _, _, rfl, rfl, ?_⟩
        have z : isW (.int i) lo hi = decide (i ≤ hi) := by
          show (decide (lo ≤ i) && decide (i ≤ hi)) = decide (i ≤ hi)
          rw [e1]
          rfl
        rw [z] at k
        exact k
      · have z : isW (.int i) lo hi = false := by
          show (decide (lo ≤ i) && decide (i ≤ hi)) = false
          rw [e1]
          rfl
        rw [z] at k
        exact k
    · have z : isW x lo hi = false := by
        cases x with
        | int i =>
          exfalso
          cases hn
          cases e
        | _ => rfl
      rw [z] at k
      exact k
end
def spInit (K : PySem.W.Frag) (C : Addr) : Sp := fun vs H Q E => ∃ (p dx : Addr) (x : V), vs = [.ref p, x] ∧ H p = some (.ins C dx []) ∧ (∃ n, tyName x H = some n) ∧
  (isW x 1 16 = false → E (.ref (gA K "BadCount")) none H) ∧
  (∀ (m : Nat), x = .int (m : Int) → 1 ≤ m → m ≤ 16 → ∀ (d : Addr) (H' : Hp), H d = none → TownAt C H' p d m [] 0 → (∀ b o, H b = some o → b ≠ p → H' b = some o) → Q .non H')
def spPlaces (C : Addr) : Sp := fun vs H Q _ => ∃ (p d : Addr) (m : Nat) (rows : List TRow) (n : Nat), vs = [.ref p] ∧ TownAt C H p d m rows n ∧ Q (.int (m : Int)) H
/-- build: refused as it says, in its order; else a row more -/
def spBuild (K : PySem.W.Frag) (C : Addr) : Sp := fun vs H Q E => ∃ (p d : Addr) (m : Nat) (rows : List TRow) (n : Nat) (x y : V), vs = [.ref p, x, y] ∧ TownAt C H p d m rows n ∧ (∃ t, tyName x H = some t) ∧ (∃ t, tyName y H = some t) ∧
  ((isW x 0 ((m : Int) - 1) = false ∨ isW y 0 ((m : Int) - 1) = false ∨ x = y) → E (.ref (gA K "BadPlace")) none H) ∧
  (∀ a b : Nat, x = .int (a : Int) → y = .int (b : Int) → a < m → b < m → a ≠ b → 60 ≤ rows.length → E (.ref (gA K "TooMany")) none H) ∧
  (∀ a b : Nat, x = .int (a : Int) → y = .int (b : Int) → a < m → b < m → a ≠ b → rows.length < 60 → ∀ H', TownAt C H' p d m (rows ++ [(n, a, b)]) (n + 1) → Keeps H H' p d → Q (.int (n : Int)) H')
/-- dig: a street that is there goes, anything else is refused -/
def spDig (K : PySem.W.Frag) (C : Addr) : Sp := fun vs H Q E => ∃ (p d : Addr) (m : Nat) (rows : List TRow) (n : Nat) (x : V), vs = [.ref p, x] ∧ TownAt C H p d m rows n ∧ (∃ t, tyName x H = some t) ∧
  ((¬ ∃ s : Nat, x = .int (s : Int) ∧ s ∈ rows.map (·.1)) → E (.ref (gA K "BadStreet")) none H) ∧
  (∀ s : Nat, x = .int (s : Int) → s ∈ rows.map (·.1) → ∀ H', TownAt C H' p d m (rows.filter fun r => decide (r.1 ≠ s)) n → Keeps H H' p d → Q .non H')
def spStreets (C : Addr) : Sp := fun vs H Q _ => ∃ (p d : Addr) (m : Nat) (rows : List TRow) (n : Nat), vs = [.ref p] ∧ TownAt C H p d m rows n ∧
  ∀ (l : Addr) (H' : Hp), H l = none → Same H H' → TL H' l (rows.map rowV) → Q (.ref l) H'
abbrev s_Town_init : Stmt := inClass (top 35) 0
abbrev N_Town_init : List Str := ["self", "many"]
theorem sc_Town_init : FnScope N_Town_init ["self", "many"] (defScope s_Town_init) := ⟨rfl, rfl, rfl, by decide +kernel, rfl, by decide +kernel, by decide +kernel⟩
abbrev s_Town_places : Stmt := inClass (top 35) 1
abbrev N_Town_places : List Str := ["self"]
theorem sc_Town_places : FnScope N_Town_places ["self"] (defScope s_Town_places) := ⟨rfl, rfl, rfl, by decide +kernel, rfl, by decide +kernel, by decide +kernel⟩
abbrev s_Town_build : Stmt := inClass (top 35) 2
abbrev N_Town_build : List Str := ["self", "one", "other", "street"]
theorem sc_Town_build : FnScope N_Town_build ["self", "one", "other"] (defScope s_Town_build) := ⟨rfl, rfl, rfl, by decide +kernel, rfl, by decide +kernel, by decide +kernel⟩
abbrev s_Town_dig : Stmt := inClass (top 35) 3
abbrev N_Town_dig : List Str := ["self", "street"]
theorem sc_Town_dig : FnScope N_Town_dig ["self", "street"] (defScope s_Town_dig) := ⟨rfl, rfl, rfl, by decide +kernel, rfl, by decide +kernel, by decide +kernel⟩
abbrev s_Town_streets : Stmt := inClass (top 35) 4
abbrev N_Town_streets : List Str := ["self", "street", "one", "other"]
theorem sc_Town_streets : FnScope N_Town_streets ["self"] (defScope s_Town_streets) := ⟨rfl, rfl, rfl, by decide +kernel, rfl, by decide +kernel, by decide +kernel⟩
section
variable {P : Program} {w : World} {K : PySem.W.Frag} {mg : Str → Option Value} {base : Heap} {f : Addr} {fd : FuncData}
theorem ok_init (T : Txt K mg) (D : FnP K "__init__" "Town.__init__" s_Town_init f fd) (c_is_whole : CalX P w K mg base 1 "is_whole" spWhole) : FnOk P w K mg base (L2.CX P w) 2 f fd ["self", "many"] (spInit K (gA K "Town")) := by
  have nd := sc_Town_init.nd
  refine D.ok sc_Town_init (fun vs H Q E h => ?_) (fun cdv A outer s H vs Q E hr h => ?_)
  · obtain ⟨p, dx, x, rfl, _⟩ := h
    rfl
  · obtain ⟨p, dx, x, rfl, hp, ⟨n, hn⟩, no, yes⟩ := h
    have hu := hu_of hr
    obtain ⟨f_is_whole, fd_is_whole, ps_is_whole, F_is_whole, m_is_whole, k_is_whole, b_is_whole⟩ := c_is_whole.ex
    refine ⟨_, (pss_cons (ps_if (pt_not (pt_val (pe_call F_is_whole (hr.mono (by decide)) rfl m_is_whole k_is_whole b_is_whole .nil passF (pa_cons (pv 1) (pa_cons pe_int (pa_cons (C8.pe_gc rfl T.g_MOST_PLACES) pa_nil)))))) (pss_one (ps_raise rfl (takes_of rfl rfl rfl rfl) (pmk_own PySem.F.excBase_ValueError T.BadCount.x T.BadCount.m T.BadCount.k (raises_own T.BadCount.b T.BadCount.t) rfl))) pss_nil)
      (pss_cons (ps_fld (pv 0) (pv 1) rfl)
      (pss_cons (ps_fld (pv 0) pe_dnewK rfl)
      (pss_one (ps_fld (pv 0) pe_int rfl))))), ?_⟩
    refine ⟨_, rfl, x, 1, 16, rfl, ⟨n, hn⟩, _, rfl, ?_⟩
    refine if_both (fun e => ?_) (fun e => ?_)
    · exact no (by simpa using e)
    · obtain ⟨i, rfl, h1, h2⟩ := isW_int (show isW x 1 16 = true by simpa using e)
      obtain ⟨m, rfl⟩ : ∃ m : Nat, i = (m : Int) := ⟨i.toNat, (Int.toNat_of_nonneg (by omega)).symm⟩
      refine ⟨_, rfl, _, rfl, p, gA K "Town", dx, [], rfl, hp, T.cl, T.nMany, (by show 0 < 1000; decide), ?_⟩
      intro d hd
      obtain ⟨ndp, hd0⟩ := upd_none hd
      refine ⟨_, rfl, p, gA K "Town", dx, _, rfl, (by rw [upd_ne ndp.symm]; exact upd_same), T.cl, T.nEnds, (by show 1 < 1000; decide), ?_⟩
      refine ⟨_, rfl, p, gA K "Town", dx, _, rfl, upd_same, T.cl, T.nBuilt, (by show 2 < 1000; decide), ?_⟩
      refine yes m rfl (by omega) (by omega) d _ hd0 ⟨⟨dx, Eq.trans upd_same (congrArg (fun l => some (HO.ins (gA K "Town") dx l)) (tF_new m d))⟩, ⟨[], by rw [upd_ne ndp, upd_ne ndp, upd_same], .nil⟩, ⟨List.Pairwise.nil, fun r hr => (nomatch hr), fun r hr => (nomatch hr), (by show 0 ≤ 60; decide)⟩, by omega⟩ fun b o e hb => ?_
      rw [upd_ne hb, upd_ne hb, upd_ne (ne_of_none e hd0), upd_ne hb]
      exact e
theorem ok_places (T : Txt K mg) (D : FnP K "places" "Town.places" s_Town_places f fd) : FnOk P w K mg base (L2.CX P w) 1 f fd ["self"] (spPlaces (gA K "Town")) := by
  have nd := sc_Town_places.nd
  refine D.ok sc_Town_places (fun vs H Q E h => ?_) (fun cdv A outer s H vs Q E hr h => ?_)
  · obtain ⟨p, d, m, rows, n, rfl, _⟩ := h
    rfl
  · obtain ⟨p, d, m, rows, n, rfl, W, k⟩ := h
    obtain ⟨dx, h1⟩ := W.ob
    refine ⟨_, (pss_one (ps_ret (pe_fld (pv 0) rfl))), ?_⟩
    exact ⟨_, rfl, p, _, dx, _, _, rfl, h1, T.cl, T.nMany, tF_many _ _ _, k⟩
theorem ok_build (T : Txt K mg) (D : FnP K "build" "Town.build" s_Town_build f fd) (c_is_whole : CalX P w K mg base 1 "is_whole" spWhole) : FnOk P w K mg base (L2.CX P w) 2 f fd ["self", "one", "other"] (spBuild K (gA K "Town")) := by
  have nd := sc_Town_build.nd
  refine D.ok sc_Town_build (fun vs H Q E h => ?_) (fun cdv A outer s H vs Q E hr h => ?_)
  · obtain ⟨p, d, m, rows, n, x, y, rfl, _⟩ := h
    rfl
  · obtain ⟨p, d, m, rows, n, x, y, rfl, W, hx, hy, bad, many, good⟩ := h
    have hu := hu_of hr
    obtain ⟨dx, h1⟩ := W.ob
    obtain ⟨kvs, h2, ents⟩ := W.dc
    have npd := W.pd
    obtain ⟨f_is_whole, fd_is_whole, ps_is_whole, F_is_whole, m_is_whole, k_is_whole, b_is_whole⟩ := c_is_whole.ex
    refine ⟨_, (pss_cons (ps_if (pt_not (pt_val (pe_call F_is_whole (hr.mono (by decide)) rfl m_is_whole k_is_whole b_is_whole .nil passF (pa_cons (pv 1) (pa_cons pe_int (pa_cons (pe_op op_sub (pe_fld (pv 0) rfl) pe_int) pa_nil)))))) (pss_one (ps_raise rfl (takes_of rfl rfl rfl rfl) (pmk_own PySem.F.excBase_ValueError T.BadPlace.x T.BadPlace.m T.BadPlace.k (raises_own T.BadPlace.b T.BadPlace.t) rfl))) pss_nil)
      (pss_cons (ps_if (pt_not (pt_val (pe_call F_is_whole (hr.mono (by decide)) rfl m_is_whole k_is_whole b_is_whole .nil passF (pa_cons (pv 2) (pa_cons pe_int (pa_cons (pe_op op_sub (pe_fld (pv 0) rfl) pe_int) pa_nil)))))) (pss_one (ps_raise rfl (takes_of rfl rfl rfl rfl) (pmk_own PySem.F.excBase_ValueError T.BadPlace.x T.BadPlace.m T.BadPlace.k (raises_own T.BadPlace.b T.BadPlace.t) rfl))) pss_nil)
      (pss_cons (ps_if (pt_cmpR op_eq (pv 1) (pv 2) (nomark _)) (pss_one (ps_raise rfl (takes_of rfl rfl rfl rfl) (pmk_own PySem.F.excBase_ValueError T.BadPlace.x T.BadPlace.m T.BadPlace.k (raises_own T.BadPlace.b T.BadPlace.t) rfl))) pss_nil)
      (pss_cons (ps_if (pt_cmpR op_ge (pe_callB call_lenD rfl T.f_len PySem.boot_len (pa_cons (pe_fld (pv 0) rfl) pa_nil)) (C8.pe_gc rfl T.g_MOST_STREETS) (nomark _)) (pss_one (ps_raise rfl (takes_of rfl rfl rfl rfl) (pmk_own PySem.F.excBase_ValueError T.TooMany.x T.TooMany.m T.TooMany.k (raises_own T.TooMany.b T.TooMany.t) rfl))) pss_nil)
      (pss_cons (ps_set (i := 3) nd rfl (Or.inl rfl) (pe_fld (pv 0) rfl))
      (pss_cons (ps_dput hu (pe_fld (pv 0) rfl) (pv 3) (pe_tup (pa_cons (pv 1) (pa_cons (pv 2) pa_nil))) rfl)
      (pss_cons (ps_fld (pv 0) (pe_op op_add (pv 3) pe_int) rfl)
      (pss_one (ps_ret (pv 3)))))))))), ?_⟩
    refine ⟨_, rfl, _, rfl, p, _, dx, _, _, rfl, h1, T.cl, T.nMany, tF_many _ _ _, _, _, rfl, rfl, x, 0, _, rfl, hx, _, rfl, ?_⟩
    refine if_both (fun e => bad (.inl (by simpa using e))) (fun e => ?_)
    refine ⟨_, rfl, _, rfl, p, _, dx, _, _, rfl, h1, T.cl, T.nMany, tF_many _ _ _, _, _, rfl, rfl, y, 0, _, rfl, hy, _, rfl, ?_⟩
    refine if_both (fun e2 => bad (.inr (.inl (by simpa using e2)))) (fun e2 => ?_)
    obtain ⟨a, rfl, ha⟩ := isW_nat (show isW x 0 ((m : Int) - 1) = true by simpa using e)
    obtain ⟨b, rfl, hb⟩ := isW_nat (show isW y 0 ((m : Int) - 1) = true by simpa using e2)
    refine ⟨_, rfl, _, rfl, rfl, _, rfl, ?_⟩
    refine if_both (fun e3 => bad (.inr (.inr (by simpa using e3)))) (fun e3 => ?_)
    have ne : a ≠ b := by
      intro z
      rw [z] at e3
      simp at e3
    refine ⟨_, rfl, p, _, dx, _, _, rfl, h1, T.cl, T.nEnds, tF_ends _ _ _, d, kvs, rfl, h2, _, _, rfl, rfl, _, rfl, ?_⟩
    refine if_both (fun e4 => ?_) (fun e4 => ?_)
    · refine many a b rfl rfl ha hb ne ?_
      have z := of_decide_eq_true e4
      rw [ents_len ents] at z
      omega
    · have few : rows.length < 60 := by
        have z := of_decide_eq_false e4
        rw [ents_len ents] at z
        omega
      refine ⟨_, rfl, p, _, dx, _, _, rfl, h1, T.cl, T.nBuilt, tF_built _ _ _, ?_⟩
      refine ⟨_, rfl, _, rfl, (by show 2 ≤ sizeLine; decide), fun t ht => ?_⟩
      have npt : p ≠ t := ne_of_none h1 ht
      have ndt : d ≠ t := ne_of_none h2 ht
      have newKey : valV kvs (Sum.inl (n : Int) : Key) = none := by
        have z := ents_has n ents
        cases q : valV kvs (Sum.inl (n : Int) : Key) with
        | none => rfl
        | some v =>
          rw [q] at z
          have z2 := of_decide_eq_true z.symm
          obtain ⟨r, hr1, hr2⟩ := List.mem_map.mp z2
          have := W.ok.below r hr1
          omega
      refine ⟨_, rfl, p, _, dx, _, _, rfl, (by rw [upd_ne npt]; exact h1), T.cl, T.nEnds, tF_ends _ _ _, _, rfl, d, _, rfl, DPut.k (k := Sum.inl (n : Int)) (by rw [upd_ne ndt]; exact h2) (by rw [ents_len ents]; exact Nat.lt_of_lt_of_le few (by rw [sizeLine_eq]; decide)), ?_⟩
      refine ⟨_, rfl, _, _, rfl, rfl, _, rfl, p, _, dx, _, rfl, (by rw [upd_ne npd, upd_ne npt]; exact h1), T.cl, T.nBuilt, (by show 3 < 1000; decide), ?_⟩
      refine ⟨_, rfl, ?_⟩
      refine good a b rfl rfl ha hb ne few _ ⟨⟨dx, Eq.trans upd_same (congrArg (fun l => some (HO.ins (gA K "Town") dx l)) (tF_put m d n (n + 1)))⟩, ⟨_, by rw [upd_ne npd.symm]; exact upd_same, ?_⟩, W.ok.snoc few ha hb ne, W.pm⟩ fun c o hc hcp hcd => ?_
      · rw [putK_new _ newKey]
        refine ents_snoc (r := (n, a, b)) (t := t) ?_ (ents_ext (fun t2 xs e5 => ?_) ents)
        · rw [upd_ne npt.symm, upd_ne ndt.symm]
          exact upd_same
        · rw [upd_ne (ne_of e5 h1 (by intro z; cases z)), upd_ne (ne_of e5 h2 (by intro z; cases z)), upd_ne (ne_of_none e5 ht)]
          exact e5
      · rw [upd_ne hcp, upd_ne hcd, upd_ne (ne_of_none hc ht)]
        exact hc
theorem ok_dig (T : Txt K mg) (D : FnP K "dig" "Town.dig" s_Town_dig f fd) (c_is_whole : CalX P w K mg base 1 "is_whole" spWhole) : FnOk P w K mg base (L2.CX P w) 2 f fd ["self", "street"] (spDig K (gA K "Town")) := by
  have nd := sc_Town_dig.nd
  refine D.ok sc_Town_dig (fun vs H Q E h => ?_) (fun cdv A outer s H vs Q E hr h => ?_)
  · obtain ⟨p, d, m, rows, n, x, rfl, _⟩ := h
    rfl
  · obtain ⟨p, d, m, rows, n, x, rfl, W, hx, bad, good⟩ := h
    have hu := hu_of hr
    obtain ⟨dx, h1⟩ := W.ob
    obtain ⟨kvs, h2, ents⟩ := W.dc
    have npd := W.pd
    obtain ⟨f_is_whole, fd_is_whole, ps_is_whole, F_is_whole, m_is_whole, k_is_whole, b_is_whole⟩ := c_is_whole.ex
    refine ⟨_, (pss_cons (ps_if (PW.pt (pw_or (pt_not (pt_val (pe_call F_is_whole (hr.mono (by decide)) rfl m_is_whole k_is_whole b_is_whole .nil passF (pa_cons (pv 1) (pa_cons pe_int (pa_cons (pe_op op_sub (pe_fld (pv 0) rfl) pe_int) pa_nil)))))) (pw_or1 (pt_cmp (pc_dnotin hu (pv 1) (pe_fld (pv 0) rfl)))))) (pss_one (ps_raise rfl (takes_of rfl rfl rfl rfl) (pmk_own PySem.F.excBase_ValueError T.BadStreet.x T.BadStreet.m T.BadStreet.k (raises_own T.BadStreet.b T.BadStreet.t) rfl))) pss_nil)
      (pss_one (ps_ddel (pe_fld (pv 0) rfl) (pv 1)))), ?_⟩
    refine ⟨_, rfl, _, rfl, p, _, dx, _, _, rfl, h1, T.cl, T.nBuilt, tF_built _ _ _, _, _, rfl, rfl, x, 0, _, rfl, hx, _, rfl, ?_⟩
    refine if_both (fun e => ?_) (fun e => ?_)
    · refine if_yes rfl (bad fun ⟨s, e1, e2⟩ => ?_)
      obtain ⟨r, hr1, hr2⟩ := List.mem_map.mp e2
      have lt := W.ok.below r hr1
      rw [e1, isW_true (by omega) (by omega)] at e
      cases e
    · obtain ⟨s, rfl, hs⟩ := isW_nat (show isW x 0 ((n : Int) - 1) = true by simpa using e)
      refine ⟨_, rfl, _, rfl, p, _, dx, _, _, rfl, h1, T.cl, T.nEnds, tF_ends _ _ _, d, _, rfl, DGet.k (k := Sum.inl (s : Int)) h2, _, rfl, ?_⟩
      refine if_both (fun e1 => ?_) (fun e1 => ?_)
      · refine bad fun ⟨s2, e2, e3⟩ => ?_
        have es : s2 = s := (Int.ofNat.inj (V.int.inj e2)).symm
        rw [es] at e3
        have z := ents_has s ents
        rw [decide_eq_true e3] at z
        rw [z] at e1
        cases e1
      · have there : (valV kvs (Sum.inl (s : Int) : Key)).isSome = true := by
          cases q : valV kvs (Sum.inl (s : Int) : Key) with
          | none => rw [q] at e1; cases e1
          | some v => rfl
        have hin : s ∈ rows.map (·.1) := by
          rw [ents_has s ents] at there
          exact of_decide_eq_true there
        refine ⟨_, rfl, p, _, dx, _, _, rfl, h1, T.cl, T.nEnds, tF_ends _ _ _, _, rfl, d, kvs, Sum.inl (s : Int), rfl, h2, rfl, there, ?_⟩
        refine good s rfl hin _ ⟨⟨dx, by rw [upd_ne npd]; exact h1⟩, ⟨_, upd_same, ents_ext (fun t xs e5 => ?_) (ents_drop s ents)⟩, W.ok.drop _, W.pm⟩ fun c o hc hcp hcd => ?_
        · rw [upd_ne (ne_of e5 h2 (by intro z; cases z))]
          exact e5
        · rw [upd_ne hcd]
          exact hc
end
section
variable {P : Program} {w : World} {K : PySem.W.Frag} {mg : Str → Option Value} {base : Heap} {f : Addr} {fd : FuncData}
theorem ok_streets (T : Txt K mg) (D : FnP K "streets" "Town.streets" s_Town_streets f fd) : FnOk P w K mg base (L2.CX P w) 1 f fd ["self"] (spStreets (gA K "Town")) := by
  have nd := sc_Town_streets.nd
  refine D.ok sc_Town_streets (fun vs H Q E h => ?_) (fun cdv A outer s H vs Q E hr h => ?_)
  · obtain ⟨p, d, m, rows, n, rfl, _⟩ := h
    rfl
  · obtain ⟨p, d, m, rows, n, rfl, W, k⟩ := h
    obtain ⟨dx, h1⟩ := W.ob
    obtain ⟨kvs, h2, ents⟩ := W.dc
    have npd := W.pd
    refine ⟨_, (pss_one (ps_ret (pe_lock (pe_lc (own := [("street", 1), ("one", 2), ("other", 3)]) (g := (gTup K 2 (gCons (gName 1) (gCons (gTup K 2 (gCons (gName 2) (gCons (gName 3) gNil))) gNil)))) rfl nd (pi_items (pe_fld (pv 0) rfl)) (blkOk_by (own := [("street", 1), ("one", 2), ("other", 3)]) (N := N_Town_streets) (sc := defScope s_Town_streets) (by decide +kernel)) (fun _ _ _ _ _ => (pg_tup rfl (pgs_cons (pg_name (i := 1) nd rfl (Or.inl rfl)) (pgs_cons (pg_tup rfl (pgs_cons (pg_name (i := 2) nd rfl (Or.inl rfl)) (pgs_cons (pg_name (i := 3) nd rfl (Or.inl rfl)) pgs_nil))) pgs_nil)))) (fun _ _ _ _ _ => pts_nil) (fun _ _ _ _ _ => (pe_tup (pa_cons (pv 1) (pa_cons (pv 2) (pa_cons (pv 3) pa_nil))))))))), ?_⟩
    refine ⟨d, .dK kvs, h2, trivial, fun od => ?_⟩
    refine ⟨_, rfl, p, _, dx, _, _, rfl, (by rw [upd_ne npd]; exact h1), T.cl, T.nEnds, tF_ends _ _ _, d, od, kvs, rfl, upd_same, ?_⟩
    intro D hD
    obtain ⟨nDd, hD0⟩ := upd_none hD
    have len := ents_len ents
    have small : rows.length < sizeLine := Nat.lt_of_le_of_lt W.ok.few (by rw [sizeLine_eq]; decide)
    refine lc_it walk_items (fun i H' => ∃ vs, H' D = some (.lst vs) ∧ Tups H' vs ((rows.take i).map rowV) ∧ H' d = some (.frz od (.dK kvs)) ∧ ∀ b o, b ≠ d → H b = some o → H' b = some o)
      ⟨[], upd_same, .nil, (by rw [upd_ne nDd.symm]; exact upd_same), fun b o hb e => by rw [upd_ne (ne_of_none e hD0), upd_ne hb]; exact e⟩ (fun i H' _ ⟨_, _, _, z, _⟩ => z) ?_ ?_
    · rintro i x H1 H2 hi ⟨vs, e1, e2, e3, e4⟩ ⟨t, kk, v, rfl, ht, rfl, hk, hv⟩
      obtain ⟨kv, hkv⟩ : ∃ kv, kvs[i]? = some kv := ⟨_, List.getElem?_eq_getElem hi⟩
      obtain ⟨r, t2, hr1, rfl, hr2⟩ := ents_get ents hkv
      dsimp only at hk hv
      rw [hkv] at hk hv
      cases hk
      cases hv
      have ntd : t2 ≠ d := by
        intro z
        rw [z, h2] at hr2
        cases hr2
      have nDt : D ≠ t := ne_of_none e1 ht
      have hr3 := e4 _ _ ntd hr2
      refine ⟨t, _, rfl, SqT.of upd_same, rfl, _, _, rfl, _, _, rfl, t2, _, rfl, SqT.of (by rw [upd_ne (ne_of_none hr3 ht)]; exact hr3), rfl, _, _, rfl, _, _, rfl, rfl, rfl, rfl, ?_⟩
      refine ⟨_, rfl, _, rfl, _, rfl, (by show 3 ≤ sizeLine; decide), fun q hq => ?_⟩
      obtain ⟨nqt, hq0⟩ := upd_none hq
      have nDq : D ≠ q := ne_of_none e1 hq0
      have keep : ∀ b o, b ≠ D → H1 b = some o → upd (upd (upd H1 t (.tup [.int (r.1 : Int), V.ref t2])) q (.tup (rowV r))) D (.lst (vs ++ [V.ref q])) b = some o := fun b o nb e => by
        rw [upd_ne nb, upd_ne (ne_of_none e hq0), upd_ne (ne_of_none e ht)]
        exact e
      refine ⟨vs, by rw [upd_ne nDq, upd_ne nDt]; exact e1, ?_, vs ++ [V.ref q], upd_same, ?_, ?_, ?_⟩
      · rw [tups_len e2, List.length_map, List.length_take]
        omega
      · rw [take_snoc hr1, List.map_append]
        refine tups_snoc (by rw [upd_ne nDq.symm]; exact upd_same) (tups_ext (fun b xs e => keep b _ (fun z => ?_) e) e2)
        rw [z, e1] at e
        cases e
      · exact keep _ _ nDd.symm e3
      · intro b o hb e
        exact keep b o (ne_of_none e hD0) (e4 b o hb e)
    · rintro H1 ⟨vs, e1, e2, e3, e4⟩
      rw [len, List.take_length] at e2
      refine ⟨e3, k D _ hD0 (fun b o e => ?_) ⟨vs, by rw [upd_ne nDd]; exact e1, tups_ext (fun b xs e => ?_) e2⟩⟩
      · by_cases hb : b = d
        · rw [hb, h2] at e
          cases e
          rw [hb]
          exact upd_same
        · rw [upd_ne hb]
          exact e4 b o hb e
      · rw [upd_ne (fun z => by rw [z, e3] at e; cases e)]
        exact e
end
end K02

set_option Elab.async false
set_option linter.all false
set_option maxRecDepth 100000
set_option maxHeartbeats 4000000
namespace K02
open PySem PySem.Spec PyProof.Rows L2 Own
/-! ### the law's helpers: mixed, seed, ends, pairs, many -/
def spMixed : Sp := fun vs H Q _ => ∃ (c k : Int), vs = [.int c, .int k] ∧ Fit c ∧ 0 ≤ k ∧ k ≤ 1000 ∧ ∀ r : Int, 0 ≤ r → r < 2147483629 → Q (.int r) H
def spSeed (K : PySem.W.Frag) : Sp := fun vs H Q _ => ∃ (a : Addr) (ns : List Int), vs = [.ref a] ∧ SqL K H a (ns.map V.int) ∧ (∀ z ∈ ns, Fit z) ∧ ∀ (r : Int) (H' : Hp), 0 ≤ r → r < 2147483629 → Same H H' → Q (.int r) H'
def spEnds : Sp := fun vs H Q _ => ∃ (m : Nat) (way k num : Int), vs = [.int (m : Int), .int way, .int k, .int num] ∧ 2 ≤ m ∧ m ≤ 16 ∧ 0 ≤ k ∧ 0 ≤ num ∧
  ∀ (p : Addr) (H' : Hp) (q : Pair), H p = none → Same H H' → H' p = some (.tup (pairV q)) → PairOk m q → Q (.ref p) H'
def spPairs (K : PySem.W.Frag) : Sp := fun vs H Q _ => ∃ (a : Addr) (ns : List Int) (seed : Int) (m most : Nat), vs = [.ref a, .int seed, .int (m : Int), .int (most : Int)] ∧ SqL K H a (ns.map V.int) ∧ (∀ z ∈ ns, Fit z) ∧ Fit seed ∧ 1 ≤ m ∧ m ≤ 16 ∧ ns.length ≤ 63 ∧ most ≤ 60 ∧
  ∀ (l : Addr) (H' : Hp) (ps : List Pair), H l = none → Same H H' → TL H' l (ps.map pairV) → (∀ q ∈ ps, PairOk m q) → ps.length ≤ most → (m = 1 → ps = []) → Q (.ref l) H'
def spMany : Sp := fun vs H Q _ => ∃ (seed : Int) (most : Nat), vs = [.int seed, .int (most : Int)] ∧ Fit seed ∧ 1 ≤ most ∧ ∀ (m : Nat) (H' : Hp), 1 ≤ m → m ≤ most → Same H H' → Q (.int (m : Int)) H'
abbrev s_law_mixed : Stmt := top 37
abbrev N_law_mixed : List Str := ["_law_cell", "_law_k"]
theorem sc_law_mixed : FnScope N_law_mixed ["_law_cell", "_law_k"] (defScope s_law_mixed) := ⟨rfl, rfl, rfl, by decide +kernel, rfl, by decide +kernel, by decide +kernel⟩
abbrev s_law_seed : Stmt := top 38
abbrev N_law_seed : List Str := ["_law_script", "_law_found", "_law_k", "_law_cell"]
theorem sc_law_seed : FnScope N_law_seed ["_law_script"] (defScope s_law_seed) := ⟨rfl, rfl, rfl, by decide +kernel, rfl, by decide +kernel, by decide +kernel⟩
abbrev s_law_ends : Stmt := top 39
abbrev N_law_ends : List Str := ["_law_many_here", "_law_way", "_law_k", "_law_number", "_law_one", "_law_other", "_law_same", "_law_place"]
theorem sc_law_ends : FnScope N_law_ends ["_law_many_here", "_law_way", "_law_k", "_law_number"] (defScope s_law_ends) := ⟨rfl, rfl, rfl, by decide +kernel, rfl, by decide +kernel, by decide +kernel⟩
abbrev s_law_pairs : Stmt := top 40
abbrev N_law_pairs : List Str := ["_law_script", "_law_seed_here", "_law_many_here", "_law_most", "_law_way", "_law_far", "_law_found", "_law_k", "_law_cell"]
theorem sc_law_pairs : FnScope N_law_pairs ["_law_script", "_law_seed_here", "_law_many_here", "_law_most"] (defScope s_law_pairs) := ⟨rfl, rfl, rfl, by decide +kernel, rfl, by decide +kernel, by decide +kernel⟩
abbrev s_law_many : Stmt := top 41
abbrev N_law_many : List Str := ["_law_seed_here", "_law_most"]
theorem sc_law_many : FnScope N_law_many ["_law_seed_here", "_law_most"] (defScope s_law_many) := ⟨rfl, rfl, rfl, by decide +kernel, rfl, by decide +kernel, by decide +kernel⟩
structure TxtL (mg : Str → Option Value) : Prop where
  f_enumerate : mg "enumerate" = none
  f_min : mg "min" = none
  f_len : mg "len" = none
  f_range : mg "range" = none
theorem min_nat (x y : Nat) : (if (y : Int) < (x : Int) then (y : Int) else (x : Int)) = ((min x y : Nat) : Int) := by
  split <;> omega
theorem max_nat (x y : Nat) : (if (y : Int) > (x : Int) then (y : Int) else (x : Int)) = ((max x y : Nat) : Int) := by
  split <;> omega
structure TxtM (mg : Str → Option Value) : Prop extends TxtL mg where
  f_list : mg "list" = none
  f_max : mg "max" = none
section
variable {P : Program} {w : World} {K : PySem.W.Frag} {mg : Str → Option Value} {base : Heap} {f : Addr} {fd : FuncData}
theorem ok_mixed (D : FnP K "_law_mixed" "_law_mixed" s_law_mixed f fd) : FnOk P w K mg base (L2.CX P w) 1 f fd ["_law_cell", "_law_k"] spMixed := by
  have nd := sc_law_mixed.nd
  refine D.ok sc_law_mixed (fun vs H Q E h => ?_) (fun cdv A outer s H vs Q E hr h => ?_)
  · obtain ⟨c, j, rfl, _⟩ := h
    rfl
  · obtain ⟨c, j, rfl, fc, j0, j1, k⟩ := h
    have sq : 0 ≤ 2 * j * j ∧ 2 * j * j ≤ 2000000 := by
      have a1 : 0 ≤ j * j := Int.mul_nonneg j0 j0
      have a2 : j * j ≤ 1000 * 1000 := Int.mul_le_mul j1 j1 j0 (by omega)
      have a3 : 2 * j * j = 2 * (j * j) := Int.mul_assoc 2 j j
      omega
    refine ⟨_, (pss_one (ps_ret (pe_op op_mod (pe_op op_mulG (pe_op op_mod (pe_op op_add (pe_op op_add (pe_op op_mulG (pv 0) (pe_op op_add pe_int (pe_op op_mulG (pe_op op_mulG pe_int (pv 1)) (pv 1)))) (pe_op op_mulG pe_int (pv 1))) pe_int) pe_int) pe_int) pe_int))), ?_⟩
    refine ⟨_, rfl, _, rfl, _, _, rfl, rfl, mul_fit (fit_range (by omega) (by omega)) (fit_range (by omega) (by omega)), _, rfl, _, _, rfl, rfl, mul_fit (fit_range (by omega) (by omega)) (fit_range (by omega) (by omega)), _, _, rfl, rfl,
      _, _, rfl, rfl, mul_fit fc (fit_range (by omega) (by omega)), _, rfl, _, _, rfl, rfl, mul_fit (fit_range (by omega) (by omega)) (fit_range (by omega) (by omega)), _, _, rfl, rfl, _, _, rfl, rfl, _, _, rfl, rfl, (by show (0 : Int) < 2147483647; decide),
      _, _, rfl, rfl, ?_, _, _, rfl, rfl, (by show (0 : Int) < 2147483629; decide), ?_⟩
    · have z := emod_lt (i := c * (48271 + 2 * j * j) + 69621 * j + 11) (m := 2147483647) (by decide)
      exact mul_fit (fit_range z.1 (by omega)) (fit_range (by omega) (by omega))
    · have z := emod_lt (i := (c * (48271 + 2 * j * j) + 69621 * j + 11) % 2147483647 * 69621) (m := 2147483629) (by decide)
      exact k _ z.1 z.2
theorem ok_seed (T : TxtL mg) (D : FnP K "_law_seed" "_law_seed" s_law_seed f fd) (c_law_mixed : CalX P w K mg base 1 "_law_mixed" spMixed) : FnOk P w K mg base (L2.CX P w) 2 f fd ["_law_script"] (spSeed K) := by
  have nd := sc_law_seed.nd
  refine D.ok sc_law_seed (fun vs H Q E h => ?_) (fun cdv A outer s H vs Q E hr h => ?_)
  · obtain ⟨a, ns, rfl, _⟩ := h
    rfl
  · obtain ⟨a, ns, rfl, hS, fits, k⟩ := h
    obtain ⟨f_law_mixed, fd_law_mixed, ps_law_mixed, F_law_mixed, m_law_mixed, k_law_mixed, b_law_mixed⟩ := c_law_mixed.ex
    refine ⟨_, (pss_cons (ps_set (i := 1) nd rfl (Or.inl rfl) pe_int)
      (pss_cons (ps_for (passes_of rfl) rfl (pi_enum rfl T.f_enumerate (pa_cons (pv 0) pa_nil)) (pg_tup rfl (pgs_cons (pg_name (i := 2) nd rfl (Or.inl rfl)) (pgs_cons (pg_name (i := 3) nd rfl (Or.inl rfl)) pgs_nil))) (pss_one (ps_set (i := 1) nd rfl (Or.inl rfl) (pe_op op_mod (pe_op op_add (pe_op op_mulG (pv 1) pe_int) (pe_call F_law_mixed (hr.mono (by decide)) rfl m_law_mixed k_law_mixed b_law_mixed .nil passF (pa_cons (pv 3) (pa_cons (pe_op op_mod (pv 2) pe_int) pa_nil)))) pe_int))))
      (pss_one (ps_ret (pv 1))))), ?_⟩
    refine ⟨_, rfl, a, _, rfl, hS, for_it walk_enum (fun i σ H' => ∃ (g : Int) (u v : Option V), σ = [some (.ref a), some (.int g), u, v] ∧ 0 ≤ g ∧ g < 2147483629 ∧ Same H H') ⟨7, none, none, rfl, by decide, by decide, Same.refl H⟩ (fun i σ H' _ ⟨_, _, _, _, _, _, sm⟩ => sm.seq hS) ?_ ?_⟩
    · rintro i x σ H1 H2 hi ⟨g, u, v, rfl, g0, g1, sm⟩ ⟨t, y, z, rfl, ht, rfl, hy, hz⟩
      cases hy
      obtain ⟨c, hc, rfl⟩ := int_item hz
      have sm2 : Same H (upd H1 t (.tup [.int (i : Int), .int c])) := sm.trans (same_new ht)
      have r60 := emod_lt (i := (i : Int)) (m := 60) (by decide)
      refine ⟨t, _, rfl, SqT.of upd_same, rfl, _, _, rfl, _, _, rfl, rfl, ?_⟩
      refine ⟨_, rfl, _, _, rfl, rfl, mul_fit (fit_range g0 (by omega)) (fit_range (by omega) (by omega)), _, rfl, _, rfl, _, _, rfl, rfl, (by show (0 : Int) < 60; decide), c, _, rfl, fits c (List.mem_of_getElem? hc), r60.1, by omega, fun r r0 r1 => ?_⟩
      refine ⟨_, _, rfl, rfl, _, _, rfl, rfl, (by show (0 : Int) < 2147483629; decide), ?_⟩
      have z := emod_lt (i := g * 999983 + r) (m := 2147483629) (by decide)
      exact ⟨_, some (.int (i : Int)), some (.int c), rfl, z.1, z.2, sm2⟩
    · rintro σ H1 ⟨g, u, v, rfl, g0, g1, sm⟩
      exact ⟨_, rfl, k g H1 g0 g1 sm⟩
theorem ok_many (T : TxtL mg) (D : FnP K "_law_many" "_law_many" s_law_many f fd) (c_law_mixed : CalX P w K mg base 1 "_law_mixed" spMixed) : FnOk P w K mg base (L2.CX P w) 2 f fd ["_law_seed_here", "_law_most"] spMany := by
  have nd := sc_law_many.nd
  refine D.ok sc_law_many (fun vs H Q E h => ?_) (fun cdv A outer s H vs Q E hr h => ?_)
  · obtain ⟨a, m, rfl, _⟩ := h
    rfl
  · obtain ⟨seed, most, rfl, fs, hm, k⟩ := h
    obtain ⟨f_law_mixed, fd_law_mixed, ps_law_mixed, F_law_mixed, m_law_mixed, k_law_mixed, b_law_mixed⟩ := c_law_mixed.ex
    refine ⟨_, (pss_one (ps_ret (pe_callB (call_min2 rfl) rfl T.f_min (by decide +kernel) (pa_cons (pv 1) (pa_cons (pe_ix ix_list (pe_lst (pa_cons pe_int (pa_cons pe_int (pa_cons pe_int (pa_cons pe_int (pa_cons pe_int (pa_cons pe_int (pa_cons pe_int (pa_cons pe_int (pa_cons pe_int (pa_cons pe_int pa_nil))))))))))) (pe_op op_mod (pe_call F_law_mixed (hr.mono (by decide)) rfl m_law_mixed k_law_mixed b_law_mixed .nil passF (pa_cons (pv 0) (pa_cons pe_int pa_nil))) pe_int) (fun _ _ => rfl)) pa_nil))))), ?_⟩
    refine ⟨_, rfl, (by show 10 ≤ sizeLine; decide), fun l hl => ?_⟩
    refine ⟨_, rfl, seed, 60, rfl, fs, by decide, by decide, fun r r0 r1 => ?_⟩
    refine ⟨_, _, rfl, rfl, (by show (0 : Int) < 10; decide), ?_⟩
    have z := emod_lt (i := r) (m := 10) (by decide)
    obtain ⟨v, hv, hin⟩ := at_lt (xs := [V.int 1, V.int 2, V.int 3, V.int 4, V.int 5, V.int 6, V.int 7, V.int 9, V.int 12, V.int 16]) z.1 z.2
    obtain ⟨j, rfl, j0⟩ : ∃ j : Nat, v = V.int (j : Int) ∧ 1 ≤ j := by
      simp only [List.mem_cons, List.not_mem_nil, or_false] at hin
      rcases hin with h | h | h | h | h | h | h | h | h | h <;> rw [h]
      · exact ⟨1, rfl, by decide⟩
      · exact ⟨2, rfl, by decide⟩
      · exact ⟨3, rfl, by decide⟩
      · exact ⟨4, rfl, by decide⟩
      · exact ⟨5, rfl, by decide⟩
      · exact ⟨6, rfl, by decide⟩
      · exact ⟨7, rfl, by decide⟩
      · exact ⟨9, rfl, by decide⟩
      · exact ⟨12, rfl, by decide⟩
      · exact ⟨16, rfl, by decide⟩
    refine ⟨l, _, _, _, rfl, rfl, SqL.of upd_same, hv, _, _, rfl, ?_⟩
    by_cases lt : (j : Int) < (most : Int)
    · rw [if_pos lt]
      exact k j _ j0 (by omega) (same_new hl)
    · rw [if_neg lt]
      exact k most _ hm (Nat.le_refl _) (same_new hl)
end
end K02

set_option Elab.async false
set_option linter.all false
set_option maxRecDepth 100000
set_option maxHeartbeats 4000000
namespace K02
open PySem PySem.Spec PyProof.Rows L2 Own
section
variable {P : Program} {w : World} {K : PySem.W.Frag} {mg : Str → Option Value} {base : Heap} {f : Addr} {fd : FuncData}
theorem ok_ends (T : TxtL mg) (D : FnP K "_law_ends" "_law_ends" s_law_ends f fd) : FnOk P w K mg base (L2.CX P w) 1 f fd ["_law_many_here", "_law_way", "_law_k", "_law_number"] spEnds := by
  have nd := sc_law_ends.nd
  refine D.ok sc_law_ends (fun vs H Q E h => ?_) (fun cdv A outer s H vs Q E hr h => ?_)
  · obtain ⟨m, way, j, num, rfl, _⟩ := h
    rfl
  · obtain ⟨m, way, j, num, rfl, hm, hm2, j0, n0, k⟩ := h
    refine ⟨_, (pss_cons (ps_set (i := 4) nd rfl (Or.inr rfl) (pe_op op_mod (pv 3) (pv 0)))
      (pss_cons (ps_set (i := 5) nd rfl (Or.inl rfl) (pe_op op_mod (pe_op op_add (pe_op op_add (pv 4) pe_int) (pe_op op_mod (pe_op op_fdiv (pv 3) pe_int) (pe_op op_sub (pv 0) pe_int))) (pv 0)))
      (pss_cons (ps_if (PW.pt (pw_and (pt_cmpR op_eq (pv 1) pe_int (nomark _)) (pw_and1 (pt_cmpR op_lt (pe_op op_add (pv 2) pe_int) (pv 0) (nomark _))))) (pss_one (ps_ret (pe_tup (pa_cons (pe_op op_add (pv 2) pe_int) (pa_cons (pe_op op_mod (pv 3) (pe_op op_add (pv 2) pe_int)) pa_nil))))) pss_nil)
      (pss_cons (ps_if (pt_cmpR op_eq (pv 1) pe_int (nomark _)) (pss_cons (ps_setLc (own := [("_law_place", 7)]) (g := (gName 7)) (i := 6) rfl nd rfl rfl (sw_true rfl rfl rfl (by decide +kernel)) (pi_range1 rfl T.f_range (pa_cons (pv 0) pa_nil)) (blkOk_by (own := [("_law_place", 7)]) (N := N_law_ends) (sc := defScope s_law_ends) (by decide +kernel)) (fun _ _ _ _ _ => (pg_name (i := 7) nd rfl (Or.inl rfl))) (fun _ _ _ _ _ => (pts_one (PW.pt (pw_and (pt_cmpR op_eq (pe_op op_mod (pv 7) pe_int) (pe_op op_mod (pv 4) pe_int) (nomark _)) (pw_and1 (pt_cmpR op_ne (pv 7) (pv 4) (nomark _))))))) (fun _ _ _ _ _ => (pv 7)))
      (pss_one (ps_ret (pe_ifExp (pt_cmpR (op_neD hr.units) (pv 6) (pe_lst pa_nil) (nomark _)) (pe_tup (pa_cons (pv 4) (pa_cons (pe_ix ix_list (pv 6) (pe_op op_mod (pe_op op_fdiv (pv 3) pe_int) (pe_callB call_len_seq rfl T.f_len PySem.boot_len (pa_cons (pv 6) pa_nil))) (fun _ _ => rfl)) pa_nil))) (pe_tup (pa_cons (pv 4) (pa_cons (pv 5) pa_nil))))))) pss_nil)
      (pss_cons (ps_if (pt_cmpR op_eq (pv 1) pe_int (nomark _)) (pss_one (ps_ret (pe_tup (pa_cons (pv 4) (pa_cons (pe_op op_mod (pe_op op_add (pe_op op_add (pv 4) pe_int) (pe_op op_mulG (pe_op op_mod (pe_op op_fdiv (pv 3) pe_int) pe_int) (pe_op op_sub (pv 0) pe_int))) (pv 0)) pa_nil))))) pss_nil)
      (pss_one (ps_ret (pe_tup (pa_cons (pv 4) (pa_cons (pv 5) pa_nil)))))))))), ?_⟩
    obtain ⟨o0, o1⟩ := emod_lt (i := num) (m := (m : Int)) (by omega)
    obtain ⟨s0, s1, s2⟩ := step_ends (m := m) (one := num % (m : Int)) (num := num / 20) hm o0 o1
    have plain : ∀ {p : Addr} {H1 H2 : Hp} {u v : Int}, Same H H1 → H1 p = none → Same H1 H2 → H2 p = some (.tup [.int u, .int v]) → 0 ≤ u → u < m → 0 ≤ v → v < m → u ≠ v → Q (.ref p) H2 := by
      intro p H1 H2 u v sm hp sm2 e u0 u1 v0 v1 ne
      exact k p H2 _ (sm.free hp) (sm.trans sm2) (by rw [pair_nat u0 v0]; exact e) (pair_ok u0 u1 v0 v1 ne)
    refine ⟨_, rfl, _, rfl, _, _, rfl, rfl, (by show (0 : Int) < (m : Int); omega), ?_⟩
    refine ⟨_, rfl, _, _, rfl, rfl, _, rfl, _, _, rfl, rfl, ⟨by decide, by decide⟩, _, rfl, _, _, rfl, rfl, _, _, rfl, rfl, (by show (0 : Int) < (m : Int) - 1; omega), _, _, rfl, rfl, _, rfl, _, _, rfl, rfl, (by show (0 : Int) < (m : Int); omega), ?_⟩
    refine (fun rest => ⟨_, rfl, rfl, _, rfl, if_both (fun e1 => ⟨_, rfl, _, _, rfl, rfl, _, rfl, _, _, rfl, rfl, _, rfl, if_both (fun e2 => ?new) (fun _ => rest)⟩) (fun _ => rest)⟩) ?rest
    case new =>
      -- a new place
      have lt := of_decide_eq_true e2
      obtain ⟨z0, z1⟩ := emod_lt (i := num) (m := j + 1) (by omega)
      exact ⟨_, rfl, _, _, rfl, rfl, _, rfl, _, rfl, _, _, rfl, rfl, _, _, rfl, rfl, (by show (0 : Int) < j + 1; omega), (by show 2 ≤ sizeLine; decide), fun p hp => plain (Same.refl H) hp (same_new hp) upd_same (by omega) lt z0 (by omega) (by omega)⟩
    case rest =>
      refine ⟨_, rfl, rfl, _, rfl, if_both (fun e1 => ?_) (fun _ => ?_)⟩
      · -- every second place
        refine ⟨_, rfl, (m : Int), rfl, by omega, by omega, fun L hL => ?_⟩
        refine lc_it walk_range (fun i H' => ∃ js : List Int, H' L = some (.lst (js.map V.int)) ∧ (∀ z ∈ js, 0 ≤ z ∧ z < m ∧ z ≠ num % (m : Int)) ∧ js.length ≤ i ∧ Same H H') ⟨[], upd_same, fun z hz => (nomatch hz), Nat.le_refl _, same_new hL⟩ (fun _ _ _ _ => trivial) ?_ ?_
        · rintro i x H1 H2 hi ⟨js, e2, e3, e4, sm⟩ ⟨rfl, rfl⟩
          have skip : ∃ js : List Int, H2 L = some (.lst (js.map V.int)) ∧ (∀ z ∈ js, 0 ≤ z ∧ z < m ∧ z ≠ num % (m : Int)) ∧ js.length ≤ i + 1 ∧ Same H H2 := ⟨js, e2, e3, Nat.le_succ_of_le e4, sm⟩
          refine ⟨rfl, _, rfl, _, _, rfl, rfl, (by show (0 : Int) < 2; decide), _, rfl, _, _, rfl, rfl, (by show (0 : Int) < 2; decide), rfl, _, rfl, if_both (fun _ => ⟨_, rfl, _, rfl, rfl, _, rfl, if_both (fun c2 => ?_) (fun _ => skip)⟩) (fun _ => skip)⟩
          refine ⟨_, rfl, _, e2, ?_, js ++ [0 + (i : Int)], by rw [List.map_append]; exact upd_same, fun z hz => ?_, by rw [List.length_append]; show js.length + 1 ≤ i + 1; omega, fun b o e => ?_⟩
          · rw [List.length_map, sizeLine_eq]
            omega
          · rcases List.mem_append.mp hz with h | h
            · exact e3 z h
            · rw [List.mem_singleton] at h
              have ne : ¬ (0 + (i : Int) = num % (m : Int)) := by
                intro y
                have c3 : (!decide (V.int (0 + (i : Int)) = V.int (num % (m : Int)))) = true := c2
                rw [y] at c3
                simp at c3
              have : (i : Int) < (m : Int) := by omega
              rw [h]
              omega
          · rw [upd_ne (ne_of_none e hL)]
            exact sm b o e
        · rintro H1 ⟨js, e2, e3, e4, sm⟩
          refine ⟨_, rfl, (by show 0 ≤ sizeLine; decide), fun L2 hL2 => ?_⟩
          have nLL : L ≠ L2 := ne_of_none e2 hL2
          have at2 : upd H1 L2 (.lst []) L = some (.lst (js.map V.int)) := by
            rw [upd_ne nLL]
            exact e2
          refine ⟨_, _, .lst (SqL.of at2) (dp_ints js), .lst (SqL.of upd_same) .nil, (lay_ints js).shaped (by decide), (lay_ints []).shaped (by decide), _, rfl, ?_⟩
          have sm2 : Same H (upd H1 L2 (.lst [])) := sm.trans (same_new hL2)
          cases js with
          | nil =>
            rw [show PyData.eqv (.list (([] : List Int).map PyData.int)) (.list []) = true from eqv_nil_nil]
            refine ⟨_, rfl, _, rfl, (by show 2 ≤ sizeLine; decide), fun p hp => plain sm2 hp (same_new hp) upd_same o0 o1 s0 s1 (Ne.symm s2)⟩
          | cons j1 js =>
            rw [show PyData.eqv (.list ((j1 :: js).map PyData.int)) (.list []) = false from eqv_cons_nil _ _]
            have pos : (0 : Int) < (((j1 :: js).map V.int).length : Int) := by
              rw [List.length_map, List.length_cons]
              omega
            obtain ⟨v, hv, hin⟩ := at_mod (xs := (j1 :: js).map V.int) (i := num / 20) (by simp)
            obtain ⟨z, hz, rfl⟩ := List.mem_map.mp hin
            obtain ⟨b0, b1, b2⟩ := e3 z hz
            exact ⟨_, rfl, _, rfl, _, rfl, _, _, rfl, rfl, ⟨by decide, by decide⟩, _, rfl, L, _, rfl, .inl (SqL.of at2), _, _, rfl, rfl, pos, L, _, _, _, rfl, rfl, SqL.of at2, hv, (by show 2 ≤ sizeLine; decide), fun p hp => plain sm2 hp (same_new hp) upd_same o0 o1 b0 b1 (Ne.symm b2)⟩
      · refine ⟨_, rfl, rfl, _, rfl, if_both (fun e1 => ?_) (fun _ => ?_)⟩
        · -- neighbours
          obtain ⟨t0, t1, t2⟩ : 0 ≤ (num % (m : Int) + 1 + num / 20 % 2 * ((m : Int) - 2)) % m ∧ (num % (m : Int) + 1 + num / 20 % 2 * ((m : Int) - 2)) % m < m ∧ (num % (m : Int) + 1 + num / 20 % 2 * ((m : Int) - 2)) % m ≠ num % (m : Int) := by
            have half : num / 20 % 2 = 0 ∨ num / 20 % 2 = 1 := by omega
            rcases half with z | z <;> rw [z]
            · rw [Int.zero_mul, Int.add_zero]
              have q := step_ends (m := m) (one := num % (m : Int)) (num := 0) hm o0 o1
              rw [Int.zero_emod, Int.add_zero] at q
              exact q
            · rw [Int.one_mul]
              have q := step_ends (m := m) (one := num % (m : Int)) (num := (m : Int) - 2) hm o0 o1
              have same : ((m : Int) - 2) % ((m : Int) - 1) = (m : Int) - 2 := Int.emod_eq_of_lt (by omega) (by omega)
              rw [same] at q
              exact q
          exact ⟨_, rfl, _, rfl, _, _, rfl, rfl, _, rfl, _, _, rfl, rfl, ⟨by decide, by decide⟩, _, _, rfl, rfl, (by show (0 : Int) < 2; decide), _, rfl, _, _, rfl, rfl, _, _, rfl, rfl, mul_fit (fit_range (by omega) (by omega)) (fit_range (by omega) (by omega)), _, _, rfl, rfl, _, rfl, _, _, rfl, rfl, (by show (0 : Int) < (m : Int); omega), (by show 2 ≤ sizeLine; decide), fun p hp => plain (Same.refl H) hp (same_new hp) upd_same o0 o1 t0 t1 (Ne.symm t2)⟩
        · exact ⟨_, rfl, _, rfl, (by show 2 ≤ sizeLine; decide), fun p hp => plain (Same.refl H) hp (same_new hp) upd_same o0 o1 s0 s1 (Ne.symm s2)⟩
theorem ok_pairs (T : TxtL mg) (D : FnP K "_law_pairs" "_law_pairs" s_law_pairs f fd) (c_law_mixed : CalX P w K mg base 1 "_law_mixed" spMixed) (c_law_ends : CalX P w K mg base 1 "_law_ends" spEnds) : FnOk P w K mg base (L2.CX P w) 2 f fd ["_law_script", "_law_seed_here", "_law_many_here", "_law_most"] (spPairs K) := by
  have nd := sc_law_pairs.nd
  refine D.ok sc_law_pairs (fun vs H Q E h => ?_) (fun cdv A outer s H vs Q E hr h => ?_)
  · obtain ⟨a, ns, seed, m, most, rfl, _⟩ := h
    rfl
  · obtain ⟨a, ns, seed, m, most, rfl, hS, fits, fs, m1, m2, hl, hmost, k⟩ := h
    obtain ⟨f_law_mixed, fd_law_mixed, ps_law_mixed, F_law_mixed, m_law_mixed, k_law_mixed, b_law_mixed⟩ := c_law_mixed.ex
    obtain ⟨f_law_ends, fd_law_ends, ps_law_ends, F_law_ends, m_law_ends, k_law_ends, b_law_ends⟩ := c_law_ends.ex
    refine ⟨_, (pss_cons (ps_if (pt_cmpR op_eq (pv 2) pe_int (nomark _)) (pss_one (ps_ret (pe_lst pa_nil))) pss_nil)
      (pss_cons (ps_set (i := 4) nd rfl (Or.inl rfl) (pe_op op_mod (pe_call F_law_mixed (hr.mono (by decide)) rfl m_law_mixed k_law_mixed b_law_mixed .nil passF (pa_cons (pv 1) (pa_cons pe_int pa_nil))) pe_int))
      (pss_cons (ps_set (i := 5) nd rfl (Or.inl rfl) (pe_ix ix_list (pe_lst (pa_cons (pv 2) (pa_cons (pe_op op_add (pv 2) pe_int) (pa_cons (pv 3) (pa_cons (pe_op op_mulG pe_int (pv 2)) pa_nil))))) (pe_op op_mod (pe_call F_law_mixed (hr.mono (by decide)) rfl m_law_mixed k_law_mixed b_law_mixed .nil passF (pa_cons (pv 1) (pa_cons pe_int pa_nil))) pe_int) (fun _ _ => rfl)))
      (pss_cons (ps_set (i := 6) nd rfl (Or.inl rfl) (pe_lst pa_nil))
      (pss_cons (ps_for (passes_of rfl) rfl (pi_enum rfl T.f_enumerate (pa_cons (pe_slice sl_list (pv 0) po_none (po_some (pe_callB (call_min2 rfl) rfl T.f_min (by decide +kernel) (pa_cons (pv 5) (pa_cons (pv 3) pa_nil))))) pa_nil)) (pg_tup rfl (pgs_cons (pg_name (i := 7) nd rfl (Or.inl rfl)) (pgs_cons (pg_name (i := 8) nd rfl (Or.inl rfl)) pgs_nil))) (pss_one (ps_expr (pe_bm PySem.F.plainAttrs_list PySem.F.slot_list_append PySem.F.type_list_append mt_append (pv 6) (pa_cons (pe_call F_law_ends (hr.mono (by decide)) rfl m_law_ends k_law_ends b_law_ends .nil passF (pa_cons (pv 2) (pa_cons (pv 4) (pa_cons (pv 7) (pa_cons (pe_call F_law_mixed (hr.mono (by decide)) rfl m_law_mixed k_law_mixed b_law_mixed .nil passF (pa_cons (pv 8) (pa_cons (pe_op op_add pe_int (pe_op op_mod (pv 7) pe_int)) pa_nil))) pa_nil))))) pa_nil)))))
      (pss_one (ps_ret (pv 6)))))))), ?_⟩
    refine ⟨_, rfl, rfl, _, rfl, if_both (fun e1 => ?_) (fun e1 => ?_)⟩
    · exact ⟨(by show 0 ≤ sizeLine; decide), fun l hl => k l _ [] hl (same_new hl) ⟨[], upd_same, .nil⟩ (fun q hq => (nomatch hq)) (Nat.zero_le _) (fun _ => rfl)⟩
    · have big : 2 ≤ m := by
        by_cases h : m = 1
        · exfalso
          rw [h] at e1
          simp at e1
        · omega
      refine ⟨_, rfl, seed, 1, rfl, fs, by decide, by decide, fun r r0 r1 => ?_⟩
      refine ⟨_, _, rfl, rfl, (by show (0 : Int) < 5; decide), ?_⟩
      refine ⟨_, rfl, _, rfl, _, _, rfl, rfl, _, rfl, _, rfl, _, _, rfl, rfl, mul_fit (fit_range (by decide) (by decide)) (fit_range (by omega) (by omega)), (by show 4 ≤ sizeLine; decide), fun L hL => ?_⟩
      refine ⟨_, rfl, seed, 2, rfl, fs, by decide, by decide, fun r2 r20 r21 => ?_⟩
      refine ⟨_, _, rfl, rfl, (by show (0 : Int) < 4; decide), ?_⟩
      have z := emod_lt (i := r2) (m := 4) (by decide)
      obtain ⟨v, hv, hin⟩ := at_lt (xs := [V.int (m : Int), V.int ((m : Int) + 3), V.int (most : Int), V.int (2 * (m : Int))]) z.1 z.2
      obtain ⟨far, rfl⟩ : ∃ far : Nat, v = V.int (far : Int) := by
        simp only [List.mem_cons, List.not_mem_nil, or_false] at hin
        rcases hin with h | h | h | h
        · exact ⟨m, h⟩
        · exact ⟨m + 3, by rw [h]; simp⟩
        · exact ⟨most, h⟩
        · exact ⟨2 * m, by rw [h]; simp⟩
      refine ⟨L, _, _, _, rfl, rfl, SqL.of upd_same, hv, ?_⟩
      have smL : Same H (upd H L (.lst [V.int (m : Int), V.int ((m : Int) + 3), V.int (most : Int), V.int (2 * (m : Int))])) := same_new hL
      refine ⟨(by show 0 ≤ sizeLine; decide), fun F hF => ?_⟩
      have smF := smL.trans (same_new (o := .lst []) hF)
      obtain ⟨cut, hcut⟩ : ∃ cut : Nat, (if (most : Int) < (far : Int) then (most : Int) else (far : Int)) = (cut : Int) ∧ cut ≤ most := by
        by_cases h : (most : Int) < (far : Int)
        · exact ⟨most, by rw [if_pos h], Nat.le_refl _⟩
        · exact ⟨far, by rw [if_neg h], by omega⟩
      refine ⟨_, rfl, _, rfl, _, rfl, _, _, rfl, _, rfl, a, _, rfl, smF.seq hS, fun S hS2 => ?_⟩
      rw [hcut.1, cut_take, ← List.map_take]
      have nFS : F ≠ S := ne_of_none upd_same hS2
      have smS := smF.trans (same_new (o := .lst ((ns.take cut).map V.int)) hS2)
      have hF0 : H F = none := smL.free hF
      have len : ((ns.take cut).map V.int).length ≤ 63 := by
        rw [List.length_map, List.length_take]
        omega
      have lenc : ((ns.take cut).map V.int).length ≤ most := by
        rw [List.length_map, List.length_take]
        omega
      refine ⟨S, _, rfl, SqL.of upd_same, for_it walk_enum (fun i σ H' => ∃ (ps : List Pair) (u v : Option V), σ = [some (.ref a), some (.int seed), some (.int (m : Int)), some (.int (most : Int)), some (.int (r % 5)), some (.int (far : Int)), some (.ref F), u, v] ∧ TL H' F (ps.map pairV) ∧ ps.length = i ∧ (∀ q ∈ ps, PairOk m q) ∧ Same H H' ∧ H' S = some (.lst ((ns.take cut).map V.int)))
        ⟨[], none, none, rfl, ⟨[], by rw [upd_ne nFS]; exact upd_same, .nil⟩, rfl, fun q hq => (nomatch hq), smS, upd_same⟩ (fun i σ H' _ ⟨_, _, _, _, _, _, _, _, e⟩ => SqL.of e) ?_ ?_⟩
      · rintro i x σ H1 H2 hi ⟨ps, u, v, rfl, ⟨vs, e1, e2⟩, e3, e4, sm, e5⟩ ⟨t, y, zz, rfl, ht, rfl, hy, hz⟩
        cases hy
        obtain ⟨c, hc, rfl⟩ := int_item hz
        have fc : Fit c := fits c (List.mem_of_mem_take (List.mem_of_getElem? hc))
        have r50 := emod_lt (i := (i : Int)) (m := 50) (by decide)
        have nFt : F ≠ t := ne_of_none e1 ht
        refine ⟨t, _, rfl, SqT.of upd_same, rfl, _, _, rfl, _, _, rfl, rfl, ?_⟩
        refine ⟨_, rfl, .inl ⟨rfl, _, SqL.of (by rw [upd_ne nFt]; exact e1)⟩, _, rfl, _, rfl, _, rfl, _, rfl, _, rfl, _, _, rfl, rfl, (by show (0 : Int) < 50; decide), _, _, rfl, rfl, c, _, rfl, fc, by omega, by omega, fun rr rr0 rr1 => ?_⟩
        refine ⟨m, _, _, _, rfl, big, m2, by omega, rr0, fun p H3 q hp sm3 e6 okq => ?_⟩
        have keep : ∀ b o, H1 b = some o → H3 b = some o := fun b o e => sm3 b o (by rw [upd_ne (ne_of_none e ht)]; exact e)
        have nFp : F ≠ p := ne_of_none (show upd H1 t _ F = some _ by rw [upd_ne nFt]; exact e1) hp
        refine ⟨F, _, _, rfl, rfl, keep _ _ e1, ?_, ps ++ [q], some (.int (i : Int)), some (.int c), rfl, ⟨vs ++ [V.ref p], upd_same, ?_⟩, by rw [List.length_append, e3]; rfl, fun q2 hq2 => ?_, fun b o e => ?_, ?_⟩
        · rw [tups_len e2, List.length_map, e3, sizeLine_eq]
          omega
        · rw [List.map_append]
          refine tups_snoc (by rw [upd_ne nFp.symm]; exact e6) (tups_ext (fun b xs e => ?_) e2)
          rw [upd_ne (fun z => by rw [z, e1] at e; cases e)]
          exact keep b _ e
        · rcases List.mem_append.mp hq2 with h | h
          · exact e4 q2 h
          · rw [List.mem_singleton] at h
            rw [h]
            exact okq
        · rw [upd_ne (ne_of_none e hF0)]
          exact keep b o (sm b o e)
        · rw [upd_ne nFS.symm]
          exact keep _ _ e5
      · rintro σ H1 ⟨ps, u, v, rfl, e1, e3, e4, sm, e5⟩
        refine ⟨_, rfl, k F H1 ps hF0 sm e1 e4 (by omega) (fun h => by omega)⟩
end
end K02

set_option Elab.async false
set_option linter.all false
set_option maxRecDepth 100000
set_option maxHeartbeats 4000000
namespace K02
open PySem PySem.Spec PyProof.Rows L2 Own
def spMade (C : Addr) : Sp := fun vs H Q _ => ∃ (m : Nat) (pl : Addr) (seed : Int) (ps : List Pair), vs = [.int (m : Int), .ref pl, .int seed] ∧ 1 ≤ m ∧ m ≤ 16 ∧ TL H pl (ps.map pairV) ∧ (∀ q ∈ ps, PairOk m q) ∧ ps.length ≤ 60 ∧ Fit seed ∧
  ∀ (q p d l : Addr) (H' : Hp) (rows : List TRow) (n : Nat), H q = none → H p = none → H d = none → H l = none → Same H H' → H' q = some (.tup [.ref p, .ref l]) → TownAt C H' p d m rows n → TL H' l (rows.map rowV) → rows.map (·.2) = ps → n ≤ 2 * ps.length → (∀ i r, rows[i]? = some r → r.1 ≤ 2 * i + 1) → Q (.ref q) H'
abbrev s_law_made : Stmt := top 42
abbrev N_law_made : List Str := ["_law_many_here", "_law_pairs_here", "_law_seed_here", "_law_town", "_law_rows", "_law_k", "_law_one", "_law_other"]
theorem sc_law_made : FnScope N_law_made ["_law_many_here", "_law_pairs_here", "_law_seed_here"] (defScope s_law_made) := ⟨rfl, rfl, rfl, by decide +kernel, rfl, by decide +kernel, by decide +kernel⟩
section
variable {P : Program} {w : World} {K : PySem.W.Frag} {mg : Str → Option Value} {base : Heap} {f : Addr} {fd : FuncData}
theorem ok_made (T : TxtL mg) (D : FnP K "_law_made" "_law_made" s_law_made f fd) (c_law_mixed : CalX P w K mg base 1 "_law_mixed" spMixed) (c_Town : MakX P w K mg base 2 "Town" (gA K "Town") (spInit K (gA K "Town"))) (c_Town_build : MetX P w K mg base 2 (gA K "Town") "build" (spBuild K (gA K "Town"))) (c_Town_dig : MetX P w K mg base 2 (gA K "Town") "dig" (spDig K (gA K "Town"))) :
    FnOk P w K mg base (L2.CX P w) 4 f fd ["_law_many_here", "_law_pairs_here", "_law_seed_here"] (spMade (gA K "Town")) := by
  have nd := sc_law_made.nd
  refine D.ok sc_law_made (fun vs H Q E h => ?_) (fun cdv A outer s H vs Q E hr h => ?_)
  · obtain ⟨m, pl, seed, ps, rfl, _⟩ := h
    rfl
  · obtain ⟨m, pl, seed, ps, rfl, m1, m2, hP, okp, hlen, fs, k⟩ := h
    obtain ⟨f_law_mixed, fd_law_mixed, ps_law_mixed, F_law_mixed, m_law_mixed, k_law_mixed, b_law_mixed⟩ := c_law_mixed.ex
    obtain ⟨f_Town, fd_Town, ps_Town, M_Town, F_Town, m_Town, b_Town⟩ := c_Town.ex
    obtain ⟨f_Town_build, fd_Town_build, ps_Town_build, c_Town_build, M_Town_build, F_Town_build, b_Town_build⟩ := c_Town_build.ex
    obtain ⟨f_Town_dig, fd_Town_dig, ps_Town_dig, c_Town_dig, M_Town_dig, F_Town_dig, b_Town_dig⟩ := c_Town_dig.ex
    refine ⟨_, (pss_cons (ps_set (i := 3) nd rfl (Or.inl rfl) (pe_make M_Town F_Town (hr.mono (by decide)) rfl m_Town b_Town .nil passF (pa_cons (pv 0) pa_nil)))
      (pss_cons (ps_set (i := 4) nd rfl (Or.inl rfl) (pe_lst pa_nil))
      (pss_cons (ps_for (passes_of rfl) rfl (pi_enum rfl T.f_enumerate (pa_cons (pv 1) pa_nil)) (pg_tup rfl (pgs_cons (pg_name (i := 5) nd rfl (Or.inl rfl)) (pgs_cons (pg_tup rfl (pgs_cons (pg_name (i := 6) nd rfl (Or.inl rfl)) (pgs_cons (pg_name (i := 7) nd rfl (Or.inl rfl)) pgs_nil))) pgs_nil))) (pss_cons (ps_if (pt_cmpR op_eq (pe_op op_mod (pe_call F_law_mixed (hr.mono (by decide)) rfl m_law_mixed k_law_mixed b_law_mixed .nil passF (pa_cons (pv 2) (pa_cons (pe_op op_add pe_int (pe_op op_mod (pv 5) pe_int)) pa_nil))) pe_int) pe_int (nomark _)) (pss_one (ps_expr (pe_meth (pv 3) c_Town_dig M_Town_dig F_Town_dig (hr.mono (by decide)) b_Town_dig .nil passF (pa_cons (pe_meth (pv 3) c_Town_build M_Town_build F_Town_build (hr.mono (by decide)) b_Town_build .nil passF (pa_cons (pv 7) (pa_cons (pv 6) pa_nil))) pa_nil)))) pss_nil)
      (pss_one (ps_expr (pe_bm PySem.F.plainAttrs_list PySem.F.slot_list_append PySem.F.type_list_append mt_append (pv 4) (pa_cons (pe_tup (pa_cons (pe_meth (pv 3) c_Town_build M_Town_build F_Town_build (hr.mono (by decide)) b_Town_build .nil passF (pa_cons (pv 6) (pa_cons (pv 7) pa_nil))) (pa_cons (pv 6) (pa_cons (pv 7) pa_nil)))) pa_nil))))))
      (pss_one (ps_ret (pe_tup (pa_cons (pv 3) (pa_cons (pv 4) pa_nil)))))))), ?_⟩
    refine ⟨_, rfl, fun p dx np ndx nep => ?_⟩
    refine ⟨p, dx, _, rfl, upd_same, ⟨"int", rfl⟩, fun z => ?_, fun m' em _ _ d H1 hd W kp => ⟨rfl, ?_⟩⟩
    · rw [isW_true (by omega) (by omega)] at z
      cases z
    have em' : m' = m := (Int.ofNat.inj (V.int.inj em)).symm
    subst em'
    obtain ⟨ndp, hd1⟩ := upd_none hd
    obtain ⟨_, hd0⟩ := upd_none hd1
    have sm1 : Same H H1 := Same.made np ndx kp
    refine ⟨(by show 0 ≤ sizeLine; decide), fun L hL => ?_⟩
    have hL0 : H L = none := sm1.free hL
    obtain ⟨pvs, hpl, tp⟩ := hP
    have tpl := tups_len tp
    rw [List.length_map] at tpl
    have nLp : L ≠ p := by
      obtain ⟨dy, z⟩ := W.ob
      exact (ne_of_none z hL).symm
    have nLd : L ≠ d := by
      obtain ⟨kvs, z, _⟩ := W.dc
      exact (ne_of_none z hL).symm
    refine ⟨_, rfl, pl, pvs, rfl, (sm1.trans (same_new hL)).seq (SqL.of hpl), for_it walk_enum (fun i σ H' => ∃ (rows : List TRow) (n : Nat) (u v x : Option V), σ = [some (.int (m' : Int)), some (.ref pl), some (.int seed), some (.ref p), some (.ref L), u, v, x] ∧ TownAt (gA K "Town") H' p d m' rows n ∧ TL H' L (rows.map rowV) ∧ rows.map (·.2) = ps.take i ∧ n ≤ 2 * i ∧ Same H H' ∧ ∀ j r, rows[j]? = some r → r.1 ≤ 2 * j + 1)
      ⟨[], 0, none, none, none, rfl, W.same (same_new hL), ⟨[], upd_same, .nil⟩, rfl, Nat.le_refl _, sm1.trans (same_new hL), fun j r h => by simp at h⟩ (fun i σ H' _ ⟨_, _, _, _, _, _, _, _, _, _, sm, _⟩ => sm.seq (SqL.of hpl)) ?_ ?_⟩
    · rintro i x σ H2 H3 hi ⟨rows, n, u, v, y, rfl, W2, ⟨vs, e1, e2⟩, e3, nb, sm2, lo⟩ ⟨t, ka, za, rfl, ht, rfl, hk, hz⟩
      cases hk
      obtain ⟨tq, xs, rfl, hxs, htq⟩ := tups_get tp hz
      rw [List.getElem?_map] at hxs
      obtain ⟨q, hq, rfl⟩ : ∃ q, ps[i]? = some q ∧ xs = pairV q := by
        cases e : ps[i]? with
        | none =>
          rw [e] at hxs
          cases hxs
        | some q =>
          rw [e] at hxs
          exact ⟨q, rfl, (Option.some.inj hxs).symm⟩
      obtain ⟨q1, q2, q3⟩ := okp q (List.mem_of_getElem? hq)
      have lenr : rows.length < 60 := by
        have z := congrArg List.length e3
        rw [List.length_map, List.length_take] at z
        omega
      have W3 : TownAt (gA K "Town") (upd H2 t (.tup [.int (i : Int), .ref tq])) p d m' rows n := W2.same (same_new ht)
      have r30 := emod_lt (i := (i : Int)) (m := 30) (by decide)
      have htq2 := sm2 _ _ htq
      refine ⟨t, _, rfl, SqT.of upd_same, rfl, _, _, rfl, _, _, rfl, tq, _, rfl, SqT.of (by rw [upd_ne (ne_of_none htq2 ht)]; exact htq2), rfl, _, _, rfl, _, _, rfl, rfl, rfl, ?_⟩
      refine (fun (rest : ∀ (H4 : Hp) (n4 : Nat), n4 ≤ n + 1 → TownAt (gA K "Town") H4 p d m' rows n4 → Keeps (upd H2 t (.tup [.int (i : Int), .ref tq])) H4 p d → (_ : Hp → Prop) H4) => ⟨_, rfl, _, rfl, _, _, rfl, rfl, (by show (0 : Int) < 30; decide), _, _, rfl, rfl, seed, _, rfl, fs, (by omega), (by omega), fun r r0 r1 => ⟨_, _, rfl, rfl, (by show (0 : Int) < 4; decide), rfl, _, rfl, if_both (fun c1 => ?extra) (fun _ => rest _ n (Nat.le_succ n) W3 (fun c o hc _ _ => hc))⟩⟩) ?rest
      case extra =>
        obtain ⟨d1, hd1⟩ := W3.ob
        refine ⟨_, rfl, p, d1, _, rfl, hd1, tF_no _ _ _ (by decide +kernel) (by decide +kernel) (by decide +kernel), _, rfl, p, d1, _, rfl, hd1, tF_no _ _ _ (by decide +kernel) (by decide +kernel) (by decide +kernel), _, rfl, _, rfl, p, d, m', rows, n, _, _, rfl, W3, ⟨"int", rfl⟩, ⟨"int", rfl⟩, fun z => ?_, fun a b ea eb _ _ _ z => ?_, fun a b ea eb ha hb ne few H5 W5 kp5 => ?_⟩
        · rcases z with z | z | z
          · rw [isW_true (by omega) (by omega)] at z
            cases z
          · rw [isW_true (by omega) (by omega)] at z
            cases z
          · exact q3 (Int.ofNat.inj (V.int.inj z)).symm
        · omega
        · refine ⟨p, d, m', _, n + 1, _, rfl, W5, ⟨"int", rfl⟩, fun z => z ⟨n, rfl, ?_⟩, fun s es hs H6 W6 kp6 => ?_⟩
          · rw [List.map_append]
            exact List.mem_append_right _ (List.mem_singleton.mpr rfl)
          · have es' : s = n := (Int.ofNat.inj (V.int.inj es)).symm
            subst es'
            rw [W3.ok.back] at W6
            exact rest H6 _ (Nat.le_refl _) W6 fun c o hc h1 h2 => kp6 c o (kp5 c o hc h1 h2) h1 h2
      case rest =>
        intro H4 n4 hn4 W4 kp4
        obtain ⟨d1, hd1⟩ := W4.ob
        have nLt : L ≠ t := ne_of_none e1 ht
        have at4 : H4 L = some (.lst vs) := kp4 _ _ (by rw [upd_ne nLt]; exact e1) nLp nLd
        refine ⟨_, rfl, .inl ⟨rfl, _, SqL.of at4⟩, ?_⟩
        refine ⟨_, rfl, p, d1, _, rfl, hd1, tF_no _ _ _ (by decide +kernel) (by decide +kernel) (by decide +kernel), _, rfl, _, rfl, p, d, m', rows, n4, _, _, rfl, W4, ⟨"int", rfl⟩, ⟨"int", rfl⟩, fun z => ?_, fun a b ea eb _ _ _ z => ?_, fun a b ea eb ha hb ne few H5 W5 kp5 => ?_⟩
        · rcases z with z | z | z
          · rw [isW_true (by omega) (by omega)] at z
            cases z
          · rw [isW_true (by omega) (by omega)] at z
            cases z
          · exact q3 (Int.ofNat.inj (V.int.inj z))
        · omega
        · have ea' : a = q.1 := (Int.ofNat.inj (V.int.inj ea)).symm
          have eb' : b = q.2 := (Int.ofNat.inj (V.int.inj eb)).symm
          subst ea' eb'
          refine ⟨_, rfl, _, rfl, (by show 3 ≤ sizeLine; decide), fun g hg => ?_⟩
          have at5 := kp5 _ _ at4 nLp nLd
          have nLg : L ≠ g := ne_of_none at5 hg
          have tups5 : ∀ b xs, H2 b = some (.tup xs) → H5 b = some (.tup xs) := fun b xs e => keeps_tups W4 kp5 _ _ (keeps_tups W3 kp4 _ _ (by rw [upd_ne (ne_of_none e ht)]; exact e))
          refine ⟨L, vs, _, rfl, rfl, by rw [upd_ne nLg]; exact at5, ?_, rows ++ [(n4, q.1, q.2)], n4 + 1, some (.int (i : Int)), some (.int (q.1 : Int)), some (.int (q.2 : Int)), rfl, ?_, ⟨vs ++ [V.ref g], upd_same, ?_⟩, ?_, by omega, fun b o e => ?_, fun j r hj => ?_⟩
          · rw [tups_len e2, List.length_map, sizeLine_eq]
            omega
          · obtain ⟨dz, h1⟩ := W5.ob
            obtain ⟨kvs, h2, h3⟩ := W5.dc
            refine ⟨⟨dz, by rw [upd_ne nLp.symm, upd_ne (ne_of_none h1 hg)]; exact h1⟩, ⟨kvs, by rw [upd_ne nLd.symm, upd_ne (ne_of_none h2 hg)]; exact h2, ents_ext (fun b xs e => ?_) h3⟩, W5.ok, W5.pm⟩
            rw [upd_ne (fun z => by rw [z, at5] at e; cases e), upd_ne (ne_of_none e hg)]
            exact e
          · rw [List.map_append]
            refine tups_snoc (by rw [upd_ne nLg.symm]; exact upd_same) (tups_ext (fun b xs e => ?_) e2)
            rw [upd_ne (fun z => by rw [z, e1] at e; cases e), upd_ne (ne_of_none (tups5 b xs e) hg)]
            exact tups5 b xs e
          · rw [List.map_append, e3, take_snoc hq]
            rfl
          · have nbp : b ≠ p := fun z => by rw [z, np] at e; cases e
            have nbd : b ≠ d := fun z => by rw [z, hd0] at e; cases e
            have nbt := sm2 b o e
            rw [upd_ne (ne_of_none e hL0)]
            have z5 := kp5 b o (kp4 b o (by rw [upd_ne (ne_of_none nbt ht)]; exact nbt) nbp nbd) nbp nbd
            rw [upd_ne (ne_of_none z5 hg)]
            exact z5
          · have li : rows.length = i := by
              have z := congrArg List.length e3
              rw [List.length_map, List.length_take] at z
              omega
            by_cases hlt : j < rows.length
            · rw [List.getElem?_append_left hlt] at hj
              exact lo j r hj
            · rw [List.getElem?_append_right (by omega)] at hj
              by_cases h0 : j - rows.length = 0
              · rw [h0] at hj
                cases hj
                show n4 ≤ 2 * j + 1
                omega
              · have : ∃ x, j - rows.length = x + 1 := ⟨j - rows.length - 1, by omega⟩
                obtain ⟨x, hx⟩ := this
                rw [hx] at hj
                simp at hj
    · rintro σ H2 ⟨rows, n, u, v, y, rfl, W2, tl, e3, nb, sm2, lo⟩
      rw [tpl, List.take_length] at e3
      refine ⟨_, rfl, _, rfl, (by show 2 ≤ sizeLine; decide), fun q hq => ?_⟩
      obtain ⟨vs, e1, e2⟩ := tl
      exact k q p d L _ rows n (sm2.free hq) np hd0 hL0 (sm2.trans (same_new hq)) upd_same (W2.same (same_new hq)) ⟨vs, same_new hq _ _ e1, tups_ext (fun b xs e => same_new hq _ _ e) e2⟩ e3 (by omega) lo
end
end K02

set_option Elab.async false
set_option linter.all false
set_option maxRecDepth 100000
set_option maxHeartbeats 4000000
namespace K02
open PySem PySem.Spec PyProof.Rows L2 Own
/-! ### walks: both_ways, walks_from, come_to -/
structure TxtG (mg : Str → Option Value) : Prop where
  f_sorted : mg "sorted" = none
  f_any : mg "any" = none
  f_range : mg "range" = none
def spBoth : Sp := fun vs H Q _ => ∃ (l : Addr) (rows : List TRow), vs = [.ref l] ∧ TL H l (rows.map rowV) ∧ rows.length ≤ 60 ∧
  ∀ (r : Addr) (H' : Hp), H r = none → Same H H' → TL H' r ((bothWays rows).map rowV) → Q (.ref r) H'
/-- a dict's entries: places, the walk to each -/
abbrev WEnts (H : Hp) : List (Key × V) → Walks → Prop := Paired fun kv e => kv.1 = (Sum.inl (e.1 : Int) : Key) ∧ ∃ t, kv.2 = V.ref t ∧ TL H t (e.2.map rowV)
def spWalks : Sp := fun vs H Q _ => ∃ (l : Addr) (p m : Nat) (steps : List TRow), vs = [.ref l, .int (p : Int)] ∧ TL H l (steps.map rowV) ∧ (∀ q ∈ ends steps, q.1 < m ∧ q.2 < m) ∧ p < m ∧ m ≤ 16 ∧
  ∀ (d : Addr) (kvs : List (Key × V)) (H' : Hp), H d = none → Same H H' → H' d = some (.dK kvs) → WEnts H' kvs (walksF steps p) → Q (.ref d) H'
def spCome : Sp := fun vs H Q _ => ∃ (l : Addr) (p m : Nat) (rows : List TRow), vs = [.ref l, .int (p : Int)] ∧ TL H l (rows.map rowV) ∧ (∀ q ∈ ends rows, q.1 < m ∧ q.2 < m) ∧ p < m ∧ m ≤ 16 ∧ rows.length ≤ 60 ∧
  ∀ (r : Addr) (H' : Hp), H r = none → Same H H' → H' r = some (.lst ((cls m (ends rows) p).map natV)) → Q (.ref r) H'
theorem keys_has : ∀ {kvs : List (Key × V)} {S : List Nat} (q : Nat), kvs.map (·.1) = S.map (fun (q : Nat) => (Sum.inl (q : Int) : Key)) → (valV kvs (Sum.inl (q : Int) : Key)).isSome = decide (q ∈ S)
  | [], [], q, _ => by simp [valV_nil]
  | [], _ :: _, _, h => by cases h
  | _ :: _, [], _, h => by cases h
  | kv :: kvs, s :: S, q, h => by
    have h1 : kv.1 = (Sum.inl (s : Int) : Key) := (List.cons.inj h).1
    have h2 := (List.cons.inj h).2
    by_cases e : q = s
    · rw [valV_pos (by rw [h1, e])]
      simp [e]
    · rw [valV_neg (by rw [h1]; exact fun z => e (Int.ofNat.inj (Sum.inl.inj z)).symm), keys_has q h2]
      simp [e]
theorem wents_keys {H : Hp} : ∀ {kvs : List (Key × V)} {W : Walks}, WEnts H kvs W → kvs.map (·.1) = (wk W).map fun (q : Nat) => (Sum.inl (q : Int) : Key)
  | _, _, .nil => rfl
  | kv :: kvs, e :: W, .cons ⟨h, _⟩ q => by
    show kv.1 :: kvs.map (·.1) = _
    rw [h, wents_keys q]
    rfl
theorem wents_len {H : Hp} {kvs : List (Key × V)} {W : Walks} (h : WEnts H kvs W) : kvs.length = W.length := Paired.length h
theorem wents_ext {H H' : Hp} : ∀ {kvs : List (Key × V)} {W : Walks}, WEnts H kvs W → (∀ t, (∃ kv ∈ kvs, kv.2 = V.ref t) → ∀ xss, TL H t xss → TL H' t xss) → WEnts H' kvs W
  | _, _, .nil, _ => .nil
  | kv :: kvs, e :: W, .cons ⟨h, t, h1, h2⟩ q, k => .cons ⟨h, t, h1, k t ⟨kv, List.mem_cons_self .., h1⟩ _ h2⟩ (wents_ext q fun t ⟨x, hx, e⟩ => k t ⟨x, List.mem_cons_of_mem _ hx, e⟩)
theorem wents_same {H H' : Hp} {kvs : List (Key × V)} {W : Walks} (h : WEnts H kvs W) (s : Same H H') : WEnts H' kvs W := wents_ext h fun _ _ _ z => tl_same z s
theorem wents_app {H : Hp} {k : Nat} {t : Addr} {w : List TRow} (ht : TL H t (w.map rowV)) : ∀ {kvs : List (Key × V)} {W : Walks}, WEnts H kvs W → WEnts H (kvs ++ [((Sum.inl (k : Int) : Key), V.ref t)]) (W ++ [(k, w)])
  | _, _, .nil => .cons ⟨rfl, t, rfl, ht⟩ .nil
  | _, _, .cons z q => .cons z (wents_app ht q)
theorem wents_put {H : Hp} {kvs : List (Key × V)} {W : Walks} {k : Nat} (v : V) (h : WEnts H kvs W) (n : k ∉ wk W) : putK kvs (Sum.inl (k : Int) : Key) v = kvs ++ [((Sum.inl (k : Int) : Key), v)] := by
  have has := keys_has k (wents_keys h)
  rw [← valV_any] at has
  unfold putK
  rw [if_neg (by rw [has, decide_eq_false n]; exact Bool.false_ne_true)]
theorem wents_get {H : Hp} : ∀ {kvs : List (Key × V)} {W : Walks} {k : Nat}, WEnts H kvs W → k ∈ wk W → ∃ t, valV kvs (Sum.inl (k : Int) : Key) = some (V.ref t) ∧ TL H t ((walkTo W k).map rowV)
  | _, _, _, .nil, h => absurd h List.not_mem_nil
  | kv :: kvs, e :: W, k, .cons ⟨h, t, h1, h2⟩ q, hk => by
    by_cases c : e.1 = k
    · refine ⟨t, by rw [valV_pos (by rw [h, c]), h1], ?_⟩
      have z : walkTo (e :: W) k = e.2 := by
        unfold walkTo
        rw [List.find?_cons_of_pos (by exact decide_eq_true c)]
        rfl
      rw [z]
      exact h2
    · have hk' : k ∈ wk W := by
        rcases List.mem_cons.mp hk with z | z
        · exact (c z.symm).elim
        · exact z
      obtain ⟨t', g1, g2⟩ := wents_get q hk'
      refine ⟨t', by rw [valV_neg (by rw [h]; exact fun z => c (Int.ofNat.inj (Sum.inl.inj z)))]; exact g1, ?_⟩
      have z : walkTo (e :: W) k = walkTo W k := by
        unfold walkTo
        rw [List.find?_cons_of_neg (by rw [decide_eq_false c]; exact Bool.false_ne_true)]
      rw [z]
      exact g2
theorem tl_over {H : Hp} {l q : Addr} {xss : List (List V)} {xs : List V} {o : HO} (t : TL H l xss) (h : H q = some (.lst xs)) (n : l ≠ q) : TL (upd H q o) l xss := by
  obtain ⟨vs, e, tv⟩ := t
  exact ⟨vs, by rw [upd_ne n]; exact e, tups_over h tv⟩
abbrev s_both_ways : Stmt := top 2
abbrev N_both_ways : List Str := ["streets", "told", "street", "one", "other"]
theorem sc_both_ways : FnScope N_both_ways ["streets"] (defScope s_both_ways) := ⟨rfl, rfl, rfl, by decide +kernel, rfl, by decide +kernel, by decide +kernel⟩
abbrev s_walks_from : Stmt := top 3
abbrev N_walks_from : List Str := ["steps", "place", "walks", "waiting", "at", "step"]
theorem sc_walks_from : FnScope N_walks_from ["steps", "place"] (defScope s_walks_from) := ⟨rfl, rfl, rfl, by decide +kernel, rfl, by decide +kernel, by decide +kernel⟩
abbrev s_come_to : Stmt := top 4
abbrev N_come_to : List Str := ["streets", "place"]
theorem sc_come_to : FnScope N_come_to ["streets", "place"] (defScope s_come_to) := ⟨rfl, rfl, rfl, by decide +kernel, rfl, by decide +kernel, by decide +kernel⟩
section
variable {P : Program} {w : World} {K : PySem.W.Frag} {mg : Str → Option Value} {base : Heap} {f : Addr} {fd : FuncData}
theorem ok_both_ways (D : FnP K "both_ways" "both_ways" s_both_ways f fd) : FnOk P w K mg base (L2.CX P w) 1 f fd ["streets"] spBoth := by
  have nd := sc_both_ways.nd
  refine D.ok sc_both_ways (fun vs H Q E h => ?_) (fun cdv A outer s H vs Q E hr h => ?_)
  · obtain ⟨l, rows, rfl, _⟩ := h
    rfl
  · obtain ⟨l, rows, rfl, ⟨vs, el, tv⟩, few, k⟩ := h
    refine ⟨_, (pss_cons (ps_set (i := 1) nd rfl (Or.inl rfl) (pe_lst pa_nil))
      (pss_cons (ps_for (passes_of rfl) rfl (pi_list (pv 0)) (pg_tup rfl (pgs_cons (pg_name (i := 2) nd rfl (Or.inl rfl)) (pgs_cons (pg_name (i := 3) nd rfl (Or.inl rfl)) (pgs_cons (pg_name (i := 4) nd rfl (Or.inl rfl)) pgs_nil)))) (pss_cons (ps_expr (pe_bm PySem.F.plainAttrs_list PySem.F.slot_list_append PySem.F.type_list_append mt_append (pv 1) (pa_cons (pe_tup (pa_cons (pv 2) (pa_cons (pv 3) (pa_cons (pv 4) pa_nil)))) pa_nil)))
      (pss_one (ps_expr (pe_bm PySem.F.plainAttrs_list PySem.F.slot_list_append PySem.F.type_list_append mt_append (pv 1) (pa_cons (pe_tup (pa_cons (pv 2) (pa_cons (pv 4) (pa_cons (pv 3) pa_nil)))) pa_nil))))))
      (pss_one (ps_ret (pv 1))))), ?_⟩
    have lvs : vs.length = rows.length := by rw [tups_len tv, List.length_map]
    refine ⟨(by show 0 ≤ sizeLine; decide), fun D0 hD0 => ?_⟩
    refine ⟨_, rfl, l, rfl, ⟨vs, SqL.of (same_new hD0 _ _ el)⟩, for_it walk_list (fun i σ H' => ∃ (zs : List V) (u2 u3 u4 : Option V), σ = [some (.ref l), some (.ref D0), u2, u3, u4] ∧ H' D0 = some (.lst zs) ∧ Tups H' zs ((bothWays (rows.take i)).map rowV) ∧ Same H H')
      ⟨[], none, none, none, rfl, upd_same, .nil, same_new hD0⟩ (fun i σ H' _ ⟨_, _, _, _, _, _, _, z⟩ => SqL.of (z _ _ el)) ?_ ?_⟩
    · rintro i x σ H2 H3 hi ⟨zs, u2, u3, u4, rfl, e1, e2, sm⟩ ⟨rfl, hx⟩
      obtain ⟨t, xs, rfl, hxs, ht⟩ := tups_get tv hx
      obtain ⟨r, hr0⟩ : ∃ r, rows[i]? = some r := ⟨_, List.getElem?_eq_getElem (by omega)⟩
      rw [List.getElem?_map, hr0] at hxs
      cases hxs
      have lz : zs.length = 2 * i := by
        rw [tups_len e2, List.length_map, both_len, List.length_take]
        omega
      refine ⟨t, _, rfl, SqT.of (sm _ _ ht), rfl, _, _, rfl, _, _, rfl, _, _, rfl, rfl, ?_⟩
      refine ⟨_, rfl, .inl ⟨rfl, _, SqL.of e1⟩, _, rfl, _, rfl, _, rfl, (by show 3 ≤ sizeLine; decide), fun q hq => ?_⟩
      have ct := same_new (o := .tup (rowV r)) hq
      have e1' := ct _ _ e1
      have e2' : Tups (upd H3 q (.tup (rowV r))) zs _ := tups_ext (fun t xs e => ct _ _ e) e2
      have eq' := upd_same (H := H3) (a := q) (o := .tup (rowV r))
      refine ⟨D0, _, _, rfl, rfl, e1', by rw [sizeLine_eq]; omega, ?_⟩
      have e3 := upd_same (H := upd H3 q (.tup (rowV r))) (a := D0) (o := .lst (zs ++ [V.ref q]))
      have t3 : Tups (upd (upd H3 q (.tup (rowV r))) D0 (.lst (zs ++ [V.ref q]))) (zs ++ [V.ref q]) ((bothWays (rows.take i)).map rowV ++ [rowV r]) := tups_snoc (by rw [upd_ne (ne_of eq' e1' (by intro z; cases z))]; exact eq') (tups_over e1' e2')
      have sm3 : Same H (upd (upd H3 q (.tup (rowV r))) D0 (.lst (zs ++ [V.ref q]))) := same_over hD0 (sm.trans ct)
      refine ⟨_, rfl, .inl ⟨rfl, _, SqL.of e3⟩, _, rfl, _, rfl, _, rfl, (by show 3 ≤ sizeLine; decide), fun q2 hq2 => ?_⟩
      have ct2 := same_new (o := .tup (rowV (flipR r))) hq2
      have e4 := ct2 _ _ e3
      have t4 := tups_ext (fun t xs e => ct2 _ _ e) t3
      have eq2 := upd_same (H := upd (upd H3 q (.tup (rowV r))) D0 (.lst (zs ++ [V.ref q]))) (a := q2) (o := .tup (rowV (flipR r)))
      refine ⟨D0, _, _, rfl, rfl, e4, by rw [List.length_append, sizeLine_eq]; show zs.length + 1 < _; omega, (zs ++ [V.ref q]) ++ [V.ref q2], _, _, _, rfl, upd_same, ?_, same_over hD0 (sm3.trans ct2)⟩
      rw [take_snoc hr0, both_snoc, List.map_append]
      show Tups _ _ (_ ++ ([rowV r] ++ [rowV (flipR r)]))
      rw [← List.append_assoc]
      exact tups_snoc (by rw [upd_ne (ne_of eq2 e4 (by intro z; cases z))]; exact eq2) (tups_over e4 t4)
    · rintro σ H2 ⟨zs, u2, u3, u4, rfl, e1, e2, sm⟩
      rw [List.take_of_length_le (by omega)] at e2
      exact ⟨_, rfl, k D0 H2 hD0 sm ⟨zs, e1, e2⟩⟩
theorem ok_walks_from (D : FnP K "walks_from" "walks_from" s_walks_from f fd) : FnOk P w K mg base (L2.CX P w) 1 f fd ["steps", "place"] spWalks := by
  have nd := sc_walks_from.nd
  refine D.ok sc_walks_from (fun vs H Q E h => ?_) (fun cdv A outer s H vs Q E hr h => ?_)
  · obtain ⟨l, p, m, rows, rfl, _⟩ := h
    rfl
  · obtain ⟨l, p, m, rows, rfl, ⟨vs, el, tv⟩, inm, hp, m16, k⟩ := h
    have hu := hu_of hr
    refine ⟨_, (pss_cons (ps_set (i := 2) nd rfl (Or.inl rfl) (pe_disp (pps_cons (pv 1) (pe_lst pa_nil) pps_nil) rfl rfl (by intro z; cases z) (by decide)))
      (pss_cons (ps_set (i := 3) nd rfl (Or.inl rfl) (pe_lst (pa_cons (pv 1) pa_nil)))
      (pss_cons (ps_while (passes_of rfl) (pt_truth (pv 3) (by intro _; rfl)) (pss_cons (ps_set (i := 4) nd rfl (Or.inl rfl) (pe_bm PySem.F.plainAttrs_list PySem.F.slot_list_pop PySem.F.type_list_pop mt_popAt (pv 3) (pa_cons pe_int pa_nil)))
      (pss_one (ps_for (passes_of rfl) rfl (pi_list (pv 0)) (pg_name (i := 5) nd rfl (Or.inl rfl)) (pss_one (ps_if (PW.pt (pw_and (pt_cmpR op_eq (pe_ix ix_tup (pv 5) pe_int (fun _ _ => rfl)) (pv 4) (nomark _)) (pw_and1 (pt_cmp (pc_dnotin hu (pe_ix ix_tup (pv 5) pe_int (fun _ _ => rfl)) (pv 2)))))) (pss_cons (ps_dput hu (pv 2) (pe_ix ix_tup (pv 5) pe_int (fun _ _ => rfl)) (pe_op op_cat (pe_dget hu (pv 2) (pv 4) (fun _ _ => rfl)) (pe_lst (pa_cons (pv 5) pa_nil))) rfl)
      (pss_one (ps_expr (pe_bm PySem.F.plainAttrs_list PySem.F.slot_list_append PySem.F.type_list_append mt_append (pv 3) (pa_cons (pe_ix ix_tup (pv 5) pe_int (fun _ _ => rfl)) pa_nil))))) pss_nil))))))
      (pss_one (ps_ret (pv 2)))))), ?_⟩
    have lvs : vs.length = rows.length := by rw [tups_len tv, List.length_map]
    refine fun da hda => ⟨_, rfl, (by show 0 ≤ sizeLine; decide), fun ea hea => ⟨by rw [upd_ne (fun z => by rw [← z, upd_same] at hea; cases hea)]; exact upd_same, [((Sum.inl (p : Int) : Key), V.ref ea)], rfl, (by show 1 ≤ 15; decide), ?_⟩⟩
    have nda : da ≠ ea := fun z => by
      rw [← z, upd_same] at hea
      cases hea
    have hea0 : H ea = none := by
      rw [upd_ne nda.symm] at hea
      exact hea
    have e1 : upd (upd (upd H da (.dK [])) ea (.lst [])) da (.dK (mergeK [] [((Sum.inl (p : Int) : Key), V.ref ea)])) da = some (.dK [((Sum.inl (p : Int) : Key), V.ref ea)]) := upd_same
    have e2 : upd (upd (upd H da (.dK [])) ea (.lst [])) da (.dK (mergeK [] [((Sum.inl (p : Int) : Key), V.ref ea)])) ea = some (.lst []) := by rw [upd_ne nda.symm, upd_same]
    have sm0 : Same H (upd (upd (upd H da (.dK [])) ea (.lst [])) da (.dK (mergeK [] [((Sum.inl (p : Int) : Key), V.ref ea)]))) := same_over hda (same_over hea0 (same_new hda))
    refine (fun (rest : ∀ H0, H0 da = some (.dK [((Sum.inl (p : Int) : Key), V.ref ea)]) → H0 ea = some (.lst []) → Same H H0 → (_ : Hp → Prop) H0) => rest _ e1 e2 sm0) ?rest
    clear e1 e2 sm0 hea
    intro H0 e1 e2 sm0
    refine ⟨_, rfl, (by show 1 ≤ sizeLine; decide), fun wa hwa => ?_⟩
    have cw := same_new (o := .lst [V.int (p : Int)]) hwa
    have hwa0 : H wa = none := sm0.free hwa
    have d0 := cw _ _ e1
    have t0 := cw _ _ e2
    have w0 := upd_same (H := H0) (a := wa) (o := .lst [V.int (p : Int)])
    have sm1 := sm0.trans cw
    have nwe : ea ≠ wa := fun z => by
      rw [z, hwa] at e2
      cases e2
    generalize upd H0 wa (.lst [V.int (p : Int)]) = H1 at *
    clear e1 e2 sm0 cw hwa H0
    refine ⟨fun mu σ H' => ∃ (W : Walks) (q : List Nat) (kvs : List (Key × V)) (u4 u5 : Option V), σ = [some (.ref l), some (.int (p : Int)), some (.ref da), some (.ref wa), u4, u5] ∧ H' da = some (.dK kvs) ∧ H' wa = some (.lst (q.map natV)) ∧ WEnts H' kvs W ∧ (∀ kv ∈ kvs, kv.2 ≠ V.ref wa) ∧ BfsI rows p m (W, q) ∧ walksF rows p = bfs rows mu (W, q) ∧ q.length + (m - W.length) ≤ mu ∧ mu ≤ 16 ∧ Same H H',
      ⟨16, [(p, [])], [p], _, none, none, rfl, d0, w0, .cons ⟨rfl, ea, rfl, [], t0, .nil⟩ .nil, fun kv hkv z => ?_, bfs_start hp, rfl, (by show 1 + (m - 1) ≤ 16; omega), Nat.le_refl _, sm1⟩, ?_⟩
    · rw [List.mem_singleton.mp hkv] at z
      exact nwe (V.ref.inj z)
    clear d0 w0 t0 sm1 nwe hea0 nda
    rintro mu σ H1 ⟨W, q, kvs, u4, u5, rfl, ed, ew, we, clean, I, eqF, meas, m17, sm⟩
    refine ⟨_, rfl, !(q.map natV).isEmpty, .inl ⟨_, SqL.of ew, rfl⟩, ?_⟩
    cases q with
    | nil =>
      rw [bfs_nil] at eqF
      rw [← eqF] at we
      exact ⟨_, rfl, k da kvs H1 hda sm ed we⟩
    | cons a q =>
      obtain ⟨n, rfl⟩ : ∃ n, mu = n + 1 := ⟨mu - 1, by have : (q.length + 1) + _ ≤ mu := meas; omega⟩
      have meas : (q.length + 1) + (m - W.length) ≤ n + 1 := meas
      have eqF : walksF rows p = bfs rows n (rows.foldl (stepW a) (W, q)) := eqF
      have ha : a ∈ wk W := I.sub a (List.mem_cons_self ..)
      have I0 : BfsI rows p m (W, q) := ⟨I.tree, I.lt, fun x hx => I.sub x (List.mem_cons_of_mem _ hx)⟩
      have ew : H1 wa = some (.lst (natV a :: q.map natV)) := ew
      refine ⟨fun σ H' => ∃ (W : Walks) (q : List Nat) (kvs : List (Key × V)) (u4 u5 : Option V), σ = [some (.ref l), some (.int (p : Int)), some (.ref da), some (.ref wa), u4, u5] ∧ H' da = some (.dK kvs) ∧ H' wa = some (.lst (q.map natV)) ∧ WEnts H' kvs W ∧ (∀ kv ∈ kvs, kv.2 ≠ V.ref wa) ∧ BfsI rows p m (W, q) ∧ walksF rows p = bfs rows n (W, q) ∧ q.length + (m - W.length) ≤ n ∧ n ≤ 16 ∧ Same H H',
        fun σ' H' z => ⟨n, by omega, z⟩, ?_⟩
      have lq : q.length ≤ 16 := by omega
      refine ⟨_, rfl, .inl ⟨rfl, _, SqL.of ew⟩, wa, _, 0, 0, natV a, rfl, rfl, ew, by decide, by decide, ?_, rfl, ?_⟩
      · simp [seqIndex?]
      rw [show (natV a :: q.map natV).eraseIdx 0 = q.map natV from rfl]
      have ew2 := upd_same (H := H1) (a := wa) (o := .lst (q.map natV))
      have ed2 : upd H1 wa (.lst (q.map natV)) da = some (.dK kvs) := by rw [upd_ne (ne_of ed ew (by intro z; cases z))]; exact ed
      have we2 : WEnts (upd H1 wa (.lst (q.map natV))) kvs W := wents_ext we fun t ⟨kv, h1, h2⟩ xss z => tl_over z ew fun y => clean kv h1 (by rw [h2, y])
      have sm2 : Same H (upd H1 wa (.lst (q.map natV))) := same_over hwa0 sm
      generalize upd H1 wa (.lst (q.map natV)) = H2 at *
      clear ed we sm
      refine ⟨_, rfl, l, rfl, ⟨vs, SqL.of (sm2 _ _ el)⟩, for_it walk_list (fun i σ' H' => ∃ (kvs : List (Key × V)) (u5 : Option V), σ' = [some (.ref l), some (.int (p : Int)), some (.ref da), some (.ref wa), some (natV a), u5] ∧ H' da = some (.dK kvs) ∧ H' wa = some (.lst (((rows.take i).foldl (stepW a) (W, q)).2.map natV)) ∧ WEnts H' kvs ((rows.take i).foldl (stepW a) (W, q)).1 ∧ (∀ kv ∈ kvs, kv.2 ≠ V.ref wa) ∧ Same H H')
        ⟨kvs, u5, rfl, ed2, ew2, we2, clean, sm2⟩ (fun i σ' H' _ ⟨_, _, _, _, _, _, _, z⟩ => SqL.of (z _ _ el)) ?_ ?_⟩
      · rintro i x σ H3 H4 hi ⟨kvs', u5', rfl, ed', ew', we', clean', sm'⟩ ⟨rfl, hx⟩
        obtain ⟨t, xs, rfl, hxs, ht⟩ := tups_get tv hx
        obtain ⟨r, hr0⟩ : ∃ r, rows[i]? = some r := ⟨_, List.getElem?_eq_getElem (by omega)⟩
        rw [List.getElem?_map, hr0] at hxs
        cases hxs
        have ht3 := sm' _ _ ht
        have rin := List.mem_of_getElem? hr0
        have bnd := inm _ (List.mem_map.mpr ⟨r, rin, rfl⟩)
        have F := fold_W (a := a) (xs := rows.take i) I0 ha fun st hst => ⟨List.mem_of_mem_take hst, (inm _ (List.mem_map.mpr ⟨st, List.mem_of_mem_take hst, rfl⟩)).2⟩
        rw [take_snoc hr0, List.foldl_append]
        generalize (rows.take i).foldl (stepW a) (W, q) = S at *
        have sz : S.2.length + W.length = q.length + S.1.length := F.size
        have ls := bfsI_len F.I
        have lS : S.1.length ≤ m := ls
        have lk := wents_len we'
        have dq : decide (V.int (r.2.1 : Int) = natV a) = decide (r.2.1 = a) := decide_eq_decide.mpr ⟨fun z => Int.ofNat.inj (V.int.inj z), fun z => by rw [z]; rfl⟩
        refine ⟨_, rfl, t, _, _, _, rfl, rfl, SqT.of ht3, atI_nat (j := 1) rfl, _, rfl, rfl, ?_⟩
        rw [dq]
        refine ⟨_, rfl, ?_⟩
        by_cases eh : r.2.1 = a
        · rw [decide_eq_true eh]
          refine ⟨_, rfl, t, _, _, _, rfl, rfl, SqT.of ht3, atI_nat (j := 2) rfl, _, rfl, da, _, rfl, DGet.k (k := Sum.inl (r.2.2 : Int)) ed', _, rfl, ?_⟩
          rw [keys_has r.2.2 (wents_keys we')]
          by_cases hb : r.2.2 ∈ wk S.1
          · rw [decide_eq_true hb]
            refine ⟨kvs', _, rfl, ed', ?_, ?_, clean', sm'⟩
            · show H4 wa = some (.lst ((stepW a S r).2.map natV))
              rw [stepW_no (fun z => z.2 hb)]
              exact ew'
            · show WEnts H4 kvs' (stepW a S r).1
              rw [stepW_no (fun z => z.2 hb)]
              exact we'
          · rw [decide_eq_false hb]
            obtain ⟨tw, g1, g2, g3, g4⟩ := wents_get we' (F.keep a ha)
            have gd : DGet H4 da (natV a) (some (V.ref tw)) := by
              rw [← g1]
              exact DGet.k (k := Sum.inl (a : Int)) ed'
            refine ⟨_, rfl, _, rfl, da, V.ref tw, rfl, gd, ?_⟩
            refine ⟨_, rfl, (by show 1 ≤ sizeLine; decide), fun q1 hq1 => ?_⟩
            have c1 := same_new (o := .lst [V.ref t]) hq1
            have wl : (walkTo S.1 a).length < S.1.length := (tree_run F.I.tree _ (walkTo_mem (F.keep a ha))).2.2
            have lg : g2.length < 16 := by
              rw [tups_len g4, List.length_map]
              omega
            refine ⟨tw, q1, _, _, rfl, rfl, c1 _ _ g3, upd_same, by rw [sizeLine_eq]; show g2.length + 1 ≤ _; omega, fun q2 hq2 => ?_⟩
            have c2 := c1.trans (same_new (o := .lst (g2 ++ [V.ref t])) hq2)
            have e2 := upd_same (H := upd H4 q1 (.lst [V.ref t])) (a := q2) (o := .lst (g2 ++ [V.ref t]))
            have fq2 : H4 q2 = none := c1.free hq2
            generalize upd (upd H4 q1 (.lst [V.ref t])) q2 (.lst (g2 ++ [V.ref t])) = H6 at *
            have nqw : q2 ≠ wa := fun z => by
              rw [z, ew'] at fq2
              cases fq2
            have sm6 := sm'.trans c2
            have tn : TL H6 q2 ((walkTo S.1 a ++ [r]).map rowV) := ⟨_, e2, by rw [List.map_append]; exact tups_snoc (c2 _ _ ht3) (tups_ext (fun t xs e => c2 _ _ e) g4)⟩
            have we5 := wents_same we' c2
            have we6 := wents_app (k := r.2.2) tn we5
            have ed6 := c2 _ _ ed'
            have ew6 := c2 _ _ ew'
            have ht6 := c2 _ _ ht3
            clear hq1 hq2 c1 c2 ed' ew' we' sm' g1 g3 g4 gd
            refine ⟨_, rfl, _, rfl, t, _, _, _, rfl, rfl, SqT.of ht6, atI_nat (j := 2) rfl, da, _, rfl, .inl ⟨kvs', Sum.inl (r.2.2 : Int), ed6, rfl, by rw [lk, sizeLine_eq]; omega, rfl⟩, ?_⟩
            rw [wents_put (V.ref q2) we5 hb]
            have ntd : ∀ t' xss, TL H6 t' xss → t' ≠ da := fun t' xss ⟨_, e, _⟩ z => by
              rw [z, ed6] at e
              cases e
            have we7 : WEnts (upd H6 da (.dK (kvs' ++ [((Sum.inl (r.2.2 : Int) : Key), V.ref q2)]))) (kvs' ++ [((Sum.inl (r.2.2 : Int) : Key), V.ref q2)]) (S.1 ++ [(r.2.2, walkTo S.1 a ++ [r])]) := wents_ext we6 fun t' _ xss z => by
              obtain ⟨vs', z1, z2⟩ := id z
              exact ⟨vs', by rw [upd_ne (ntd t' xss z)]; exact z1, tups_ext (fun t xs e => by rw [upd_ne (ne_of e ed6 (by intro z; cases z))]; exact e) z2⟩
            have ed7 := upd_same (H := H6) (a := da) (o := .dK (kvs' ++ [((Sum.inl (r.2.2 : Int) : Key), V.ref q2)]))
            have ew7 : upd H6 da (.dK (kvs' ++ [((Sum.inl (r.2.2 : Int) : Key), V.ref q2)])) wa = some (.lst (S.2.map natV)) := by rw [upd_ne (ne_of ew6 ed6 (by intro z; cases z))]; exact ew6
            have ht7 : upd H6 da (.dK (kvs' ++ [((Sum.inl (r.2.2 : Int) : Key), V.ref q2)])) t = some (.tup (rowV r)) := by rw [upd_ne (ne_of ht6 ed6 (by intro z; cases z))]; exact ht6
            have sm7 : Same H (upd H6 da (.dK (kvs' ++ [((Sum.inl (r.2.2 : Int) : Key), V.ref q2)]))) := same_over hda sm6
            generalize upd H6 da (.dK (kvs' ++ [((Sum.inl (r.2.2 : Int) : Key), V.ref q2)])) = H7 at *
            refine ⟨_, rfl, .inl ⟨rfl, _, SqL.of ew7⟩, _, rfl, t, _, _, _, rfl, rfl, SqT.of ht7, atI_nat (j := 2) rfl, wa, _, _, rfl, rfl, ew7, by rw [List.length_map, sizeLine_eq]; omega, kvs' ++ [((Sum.inl (r.2.2 : Int) : Key), V.ref q2)], some (.ref t), rfl, ?_, ?_, ?_, fun kv hkv => ?_, same_over hwa0 sm7⟩
            · rw [upd_ne (ne_of ed7 ew7 (by intro z; cases z))]
              exact ed7
            · show _ = some (HO.lst ((stepW a S r).2.map natV))
              rw [stepW_yes eh hb, upd_same, List.map_append]
              rfl
            · show WEnts _ _ (stepW a S r).1
              rw [stepW_yes eh hb]
              exact wents_ext we7 fun t' ⟨kv, h1, h2⟩ xss z => tl_over z ew7 fun y => by
                rcases List.mem_append.mp h1 with h1 | h1
                · exact clean' kv h1 (by rw [h2, y])
                · rw [List.mem_singleton.mp h1] at h2
                  exact nqw ((V.ref.inj h2).trans y)
            · rcases List.mem_append.mp hkv with h1 | h1
              · exact clean' kv h1
              · rw [List.mem_singleton.mp h1]
                exact fun y => nqw (V.ref.inj y)
        · rw [decide_eq_false eh]
          refine ⟨kvs', _, rfl, ed', ?_, ?_, clean', sm'⟩
          · show H4 wa = some (.lst ((stepW a S r).2.map natV))
            rw [stepW_no (fun z => eh z.1)]
            exact ew'
          · show WEnts H4 kvs' (stepW a S r).1
            rw [stepW_no (fun z => eh z.1)]
            exact we'
      · rintro σ' H3 ⟨kvs', u5', rfl, ed', ew', we', clean', sm'⟩
        have F := fold_W (a := a) (xs := rows) I0 ha fun st hst => ⟨hst, (inm _ (List.mem_map.mpr ⟨st, hst, rfl⟩)).2⟩
        rw [List.take_of_length_le (by omega)] at ew' we'
        have sz : (rows.foldl (stepW a) (W, q)).2.length + W.length = q.length + (rows.foldl (stepW a) (W, q)).1.length := F.size
        have l1 : (rows.foldl (stepW a) (W, q)).1.length ≤ m := bfsI_len F.I
        have l0 : W.length ≤ m := bfsI_len I0
        exact ⟨_, _, kvs', _, _, rfl, ed', ew', we', clean', F.I, eqF, by omega, by omega, sm'⟩
theorem ok_come (T : TxtG mg) (D : FnP K "come_to" "come_to" s_come_to f fd) (c_both_ways : CalX P w K mg base 1 "both_ways" spBoth) (c_walks_from : CalX P w K mg base 1 "walks_from" spWalks) : FnOk P w K mg base (L2.CX P w) 2 f fd ["streets", "place"] spCome := by
  have nd := sc_come_to.nd
  refine D.ok sc_come_to (fun vs H Q E h => ?_) (fun cdv A outer s H vs Q E hr h => ?_)
  · obtain ⟨l, p, m, rows, rfl, _⟩ := h
    rfl
  · obtain ⟨l, p, m, rows, rfl, tl, inm, hp, m16, few, k⟩ := h
    obtain ⟨f_both_ways, fd_both_ways, ps_both_ways, F_both_ways, m_both_ways, k_both_ways, b_both_ways⟩ := c_both_ways.ex
    obtain ⟨f_walks_from, fd_walks_from, ps_walks_from, F_walks_from, m_walks_from, k_walks_from, b_walks_from⟩ := c_walks_from.ex
    refine ⟨_, (pss_one (ps_ret (pe_callB (call_sortedDI rfl) rfl T.f_sorted (by decide +kernel) (pa_cons (pe_call F_walks_from (hr.mono (by decide)) rfl m_walks_from k_walks_from b_walks_from .nil passF (pa_cons (pe_call F_both_ways (hr.mono (by decide)) rfl m_both_ways k_both_ways b_both_ways .nil passF (pa_cons (pv 0) pa_nil)) (pa_cons (pv 1) pa_nil))) pa_nil)))), ?_⟩
    refine ⟨_, rfl, l, rows, rfl, tl, few, fun b H1 hb sm1 tb => ?_⟩
    refine ⟨_, rfl, b, p, m, bothWays rows, rfl, tb, both_in inm, hp, m16, fun d kvs H2 hd sm2 ed we => ?_⟩
    have spec := walks_spec (both_in inm) hp m16
    have len := walks_len (both_in inm) hp m16
    have keys := wents_keys we
    refine ⟨d, kvs, (wk (walksF (bothWays rows) p)).map (fun (q : Nat) => (q : Int)), rfl, .of ed, ?_, ?_, fun ys r perm up hr => ?_⟩
    · rw [keys, List.map_map]
      rfl
    · rw [List.length_map]
      unfold wk
      rw [List.length_map]
      omega
    · have e := sorted_cls perm up (tree_nd spec.1) (cls_up (m := m) (ps := ends rows) (p := p)) fun x => ?_
      · refine k r _ ((sm1.trans sm2).free hr) ((sm1.trans sm2).trans (same_new hr)) ?_
        rw [upd_same, e, List.map_map]
        rfl
      · rw [mem_cls, spec.2, led_both]
end
end K02

set_option Elab.async false
set_option linter.all false
set_option maxRecDepth 100000
set_option maxHeartbeats 4000000
namespace K02
open PySem PySem.Spec PyProof.Rows L2 Own
/-! ### parts_along -/
def natL (yss : List (List Nat)) : List (List V) := yss.map fun ys => ys.map natV
def spPartsAlong : Sp := fun vs H Q _ => ∃ (l : Addr) (m : Nat) (rows : List TRow), vs = [.int (m : Int), .ref l] ∧ TL H l (rows.map rowV) ∧ (∀ q ∈ ends rows, q.1 < m ∧ q.2 < m) ∧ m ≤ 16 ∧ rows.length ≤ 60 ∧
  ∀ (r : Addr) (zs : List V) (H' : Hp), H r = none → Same H H' → H' r = some (.lst zs) → NewL H H' r zs (natL (partsOf m (ends rows))) → Q (.ref r) H'
theorem inV_nat (q : Nat) (ys : List Nat) : inV (.int (q : Int)) (ys.map natV) = decide (q ∈ ys) := by
  induction ys with
  | nil => rfl
  | cons y ys ih =>
    show (eqV (natV y) (.int (q : Int)) || inV (.int (q : Int)) (ys.map natV)) = _
    rw [ih]
    show (((y : Int) == (q : Int)) || decide (q ∈ ys)) = _
    by_cases h : q = y
    · subst h
      simp
    · have n : ((y : Int) == (q : Int)) = false := by
        rw [beq_eq_false_iff_ne]
        exact fun z => h (Int.ofNat.inj z).symm
      rw [n]
      simp [h]
theorem flat_nat (ys : List Nat) : (ys.map natV).all flatV = true := by
  rw [List.all_map]
  exact List.all_eq_true.mpr fun _ _ => rfl
theorem heads_succ (ps : Join) (i : Nat) (hl : Least ps i) : heads (i + 1) ps = heads i ps ++ [i] := by
  unfold heads
  rw [List.range_succ, List.filter_append, List.filter_cons, if_pos ((@decide_eq_true_iff _ (Classical.propDecidable _)).mpr hl)]
  rfl
theorem heads_skip (ps : Join) (i : Nat) (hl : ¬ Least ps i) : heads (i + 1) ps = heads i ps := by
  unfold heads
  rw [List.range_succ, List.filter_append, List.filter_cons, if_neg (fun z => hl ((@decide_eq_true_iff _ (Classical.propDecidable _)).mp z))]
  exact List.append_nil _
/-- whether a part told so far holds the place -/
theorem any_heads {ps : Join} {m i : Nat} (hi : i < m) : (heads i ps).any (fun h => decide (i ∈ cls m ps h)) = true ↔ ¬ Least ps i := by
  rw [List.any_eq_true]
  constructor
  · rintro ⟨h, h1, h2⟩ l
    exact l h (mem_heads.mp h1).1 (mem_cls.mp (of_decide_eq_true h2)).2
  · intro n
    obtain ⟨h, h1, h2, h3⟩ := least_of ps i
    have lt : h < i := by
      rcases Nat.lt_or_eq_of_le h1 with z | z
      · exact z
      · exact (n (z ▸ h3)).elim
    exact ⟨h, mem_heads.mpr ⟨lt, h3⟩, decide_eq_true (mem_cls.mpr ⟨hi, h2⟩)⟩
abbrev s_parts_along : Stmt := top 5
abbrev N_parts_along : List Str := ["many", "streets", "told", "place", "part"]
theorem sc_parts_along : FnScope N_parts_along ["many", "streets"] (defScope s_parts_along) := ⟨rfl, rfl, rfl, by decide +kernel, rfl, by decide +kernel, by decide +kernel⟩
section
variable {P : Program} {w : World} {K : PySem.W.Frag} {mg : Str → Option Value} {base : Heap} {f : Addr} {fd : FuncData}
theorem ok_parts_along (T : TxtG mg) (D : FnP K "parts_along" "parts_along" s_parts_along f fd) (c_come_to : CalX P w K mg base 2 "come_to" spCome) : FnOk P w K mg base (L2.CX P w) 3 f fd ["many", "streets"] spPartsAlong := by
  have nd := sc_parts_along.nd
  refine D.ok sc_parts_along (fun vs H Q E h => ?_) (fun cdv A outer s H vs Q E hr h => ?_)
  · obtain ⟨l, m, rows, rfl, _⟩ := h
    rfl
  · obtain ⟨l, m, rows, rfl, tl, inm, m16, few, k⟩ := h
    obtain ⟨f_come_to, fd_come_to, ps_come_to, F_come_to, m_come_to, k_come_to, b_come_to⟩ := c_come_to.ex
    refine ⟨_, (pss_cons (ps_set (i := 2) nd rfl (Or.inl rfl) (pe_lst pa_nil))
      (pss_cons (ps_for (passes_of rfl) rfl (pi_range1 rfl T.f_range (pa_cons (pv 0) pa_nil)) (pg_name (i := 3) nd rfl (Or.inr rfl)) (pss_one (ps_if (pt_not (pt_val (pe_callB (cr_any rfl) rfl T.f_any (by decide +kernel) (pa_cons (pe_lc (own := [("part", 4)]) (g := (gName 4)) (te := tOp (rIn K false) (tVar 3) (tVar 4)) rfl nd (pi_list (pv 2)) (blkOk_by (own := [("part", 4)]) (N := N_parts_along) (sc := defScope s_parts_along) (by decide +kernel)) (fun _ _ _ _ _ => (pg_name (i := 4) nd rfl (Or.inl rfl))) (fun _ _ _ _ _ => pts_nil) (fun _ _ _ _ _ => (pe_cmpR op_in_seq (pv 3) (pv 4) (by with_unfolding_all rfl)))) pa_nil)))) (pss_one (ps_expr (pe_bm PySem.F.plainAttrs_list PySem.F.slot_list_append PySem.F.type_list_append mt_append (pv 2) (pa_cons (pe_call F_come_to (hr.mono (by decide)) rfl m_come_to k_come_to b_come_to .nil passF (pa_cons (pv 1) (pa_cons (pv 3) pa_nil))) pa_nil)))) pss_nil)))
      (pss_one (ps_ret (pv 2))))), ?_⟩
    refine ⟨(by show 0 ≤ sizeLine; decide), fun D0 hD0 => ?_⟩
    have sm0 := same_new (o := .lst []) hD0
    refine ⟨_, rfl, (m : Int), rfl, by omega, by omega, for_it walk_range (fun i σ H' => ∃ (zs : List V) (u1 : Option V), σ = [some (.int (m : Int)), some (.ref l), some (.ref D0), u1, none] ∧ H' D0 = some (.lst zs) ∧ NewL H H' D0 zs (natL ((heads i (ends rows)).map (cls m (ends rows)))) ∧ Same H H') ⟨[], none, rfl, upd_same, .nil, sm0⟩ (fun _ _ _ _ _ => trivial) ?_ ?_⟩
    · rintro i x σ H1 H2 hi ⟨zs, u1, rfl, ez, nz, sm⟩ ⟨rfl, ex⟩
      dsimp only at ex
      rw [Int.zero_add] at ex
      subst ex
      have im : i < m := by omega
      have hl0 : (heads i (ends rows)).length ≤ i := heads_len
      have lz : zs.length = (heads i (ends rows)).length := by
        rw [Paired.length nz]
        unfold natL
        rw [List.length_map, List.length_map]
      refine ⟨_, rfl, D0, rfl, ⟨zs, SqL.of ez⟩, fun D2 hD2 => ?_⟩
      have c2 := same_new (o := .lst []) hD2
      refine lc_it (walk_list (K := K) (xs := zs)) (fun j H' => H' D2 = some (.lst (((heads i (ends rows)).take j).map fun h => V.bl (decide (i ∈ cls m (ends rows) h)))) ∧ Same H2 H') ⟨upd_same, c2⟩ (fun _ _ _ z => SqL.of (z.2 _ _ ez)) ?_ ?_
      · rintro j x H3 H4 hj ⟨e3, sm3⟩ ⟨rfl, hx⟩
        obtain ⟨t, ys, hx1, hy, nt, z1, z2⟩ := newL_get nz hj
        rw [hx] at hx1
        cases hx1
        obtain ⟨h, hh⟩ : ∃ h, (heads i (ends rows))[j]? = some h := ⟨_, List.getElem?_eq_getElem (by omega)⟩
        have ey : ys = (cls m (ends rows) h).map natV := by
          unfold natL at hy
          rw [List.getElem?_map, List.getElem?_map, hh] at hy
          exact (Option.some.inj hy).symm
        subst ey
        refine ⟨rfl, _, rfl, _, rfl, t, _, rfl, .inl (SqL.of (sm3 _ _ z2)), rfl, flat_nat _, ?_⟩
        rw [inV_nat]
        refine ⟨_, e3, by rw [List.length_map, List.length_take, sizeLine_eq]; omega, ?_, fun b o e => ?_⟩
        · rw [upd_same, take_snoc hh, List.map_append]
          rfl
        · rw [upd_ne (ne_of_none e hD2)]
          exact sm3 _ _ e
      · rintro H3 ⟨e3, sm3⟩
        rw [List.take_of_length_le (by omega)] at e3
        refine ⟨D2, (heads i (ends rows)).map (fun h => decide (i ∈ cls m (ends rows) h)), rfl, SqL.of (by rw [e3, List.map_map]; rfl), _, rfl, ?_⟩
        have ez3 := sm3 _ _ ez
        have nz3 : NewL H H3 D0 zs (natL ((heads i (ends rows)).map (cls m (ends rows)))) := newL_ext (fun t ys _ _ e => sm3 _ _ e) nz
        have smC := sm.trans sm3
        have key := any_heads (ps := ends rows) im
        have ea : ((heads i (ends rows)).map (fun h => decide (i ∈ cls m (ends rows) h))).any id = (heads i (ends rows)).any fun h => decide (i ∈ cls m (ends rows) h) := by
          rw [List.any_map]
          rfl
        rw [ea]
        by_cases hL : Least (ends rows) i
        · have an : ((heads i (ends rows)).any fun h => decide (i ∈ cls m (ends rows) h)) = false := by
            cases z : (heads i (ends rows)).any fun h => decide (i ∈ cls m (ends rows) h) with
            | false => rfl
            | true => exact (key.mp z hL).elim
          rw [an]
          refine ⟨_, rfl, .inl ⟨rfl, _, SqL.of ez3⟩, _, rfl, _, rfl, l, i, m, rows, rfl, tl_same tl smC, inm, im, m16, few, fun r H4 hr4 sm4 er => ?_⟩
          have nrD : r ≠ D0 := fun z => by
            rw [z, ez3] at hr4
            cases hr4
          refine ⟨D0, zs, _, rfl, rfl, sm4 _ _ ez3, by rw [sizeLine_eq]; omega, zs ++ [V.ref r], _, rfl, upd_same, ?_, same_over hD0 (smC.trans sm4)⟩
          rw [heads_succ _ _ hL, List.map_append]
          unfold natL
          rw [List.map_append]
          exact newL_snoc nrD (smC.free hr4) (by rw [upd_ne nrD]; exact er) (newL_ext (fun t ys n _ e => by rw [upd_ne n]; exact sm4 _ _ e) nz3)
        · have an : ((heads i (ends rows)).any fun h => decide (i ∈ cls m (ends rows) h)) = true := key.mpr hL
          rw [an]
          refine ⟨zs, _, rfl, ez3, ?_, smC⟩
          rw [heads_skip _ _ hL]
          exact nz3
    · rintro σ H1 ⟨zs, u1, rfl, ez, nz, sm⟩
      exact ⟨_, rfl, k D0 zs H1 hD0 sm ez nz⟩
end
end K02

set_option Elab.async false
set_option linter.all false
set_option maxRecDepth 100000
set_option maxHeartbeats 4000000
namespace K02
open PySem PySem.Spec PyProof.Rows L2 Own
/-! ### walks and parting -/
theorem town_inm {C : Addr} {H : Hp} {p d : Addr} {m : Nat} {rows : List TRow} {n : Nat} (T : TownAt C H p d m rows n) : ∀ q ∈ ends rows, q.1 < m ∧ q.2 < m := fun q hq => by
  obtain ⟨r, hr, rfl⟩ := List.mem_map.mp hq
  obtain ⟨a, b, _⟩ := T.ok.ends r hr
  exact ⟨a, b⟩
theorem newL_free {H H1 H2 : Hp} {r : Addr} (sm : Same H H1) : ∀ {vs : List V} {yss : List (List V)}, NewL H1 H2 r vs yss → NewL H H2 r vs yss
  | _, _, .nil => .nil
  | _, _, .cons ⟨t, e, n, z, h⟩ q => .cons ⟨t, e, n, sm.free z, h⟩ (newL_free sm q)
def spReached (K : PySem.W.Frag) (C : Addr) : Sp := fun vs H Q E => ∃ (p d : Addr) (m : Nat) (rows : List TRow) (n : Nat) (x : V), vs = [.ref p, x] ∧ TownAt C H p d m rows n ∧ (∃ t, tyName x H = some t) ∧
  (isW x 0 ((m : Int) - 1) = false → ∀ H', Same H H' → E (.ref (gA K "BadPlace")) none H') ∧
  (∀ q : Nat, x = .int (q : Int) → q < m → ∀ (r : Addr) (H' : Hp), H r = none → Same H H' → H' r = some (.lst ((cls m (ends rows) q).map natV)) → Q (.ref r) H')
def spPartsT (C : Addr) : Sp := fun vs H Q _ => ∃ (p d : Addr) (m : Nat) (rows : List TRow) (n : Nat), vs = [.ref p] ∧ TownAt C H p d m rows n ∧
  ∀ (r : Addr) (zs : List V) (H' : Hp), H r = none → Same H H' → H' r = some (.lst zs) → NewL H H' r zs (natL (partsOf m (ends rows))) → Q (.ref r) H'
def spApart : Sp := fun vs H Q _ => ∃ (l t m : Nat) (rows : List TRow) (r : TRow), vs = [.ref l, .ref t] ∧ TL H l (rows.map rowV) ∧ (∀ q ∈ ends rows, q.1 < m ∧ q.2 < m) ∧ m ≤ 16 ∧ rows.length ≤ 60 ∧ r ∈ rows ∧ H t = some (.tup (rowV r)) ∧
  ∀ H', Same H H' → Q (.bl (bridge rows r)) H'
abbrev s_parts : Stmt := top 22
abbrev N_parts : List Str := ["town"]
theorem sc_parts : FnScope N_parts ["town"] (defScope s_parts) := ⟨rfl, rfl, rfl, by decide +kernel, rfl, by decide +kernel, by decide +kernel⟩
abbrev s_parts_its_ends : Stmt := top 7
abbrev N_parts_its_ends : List Str := ["streets", "row", "street", "one", "other", "left", "kept"]
theorem sc_parts_its_ends : FnScope N_parts_its_ends ["streets", "row"] (defScope s_parts_its_ends) := ⟨rfl, rfl, rfl, by decide +kernel, rfl, by decide +kernel, by decide +kernel⟩
section
variable {P : Program} {w : World} {K : PySem.W.Frag} {mg : Str → Option Value} {base : Heap} {f : Addr} {fd : FuncData}
theorem ok_parts (D : FnP K "parts" "parts" s_parts f fd) (c_parts_along : CalX P w K mg base 3 "parts_along" spPartsAlong)
    (c_Town_places : MetX P w K mg base 1 (gA K "Town") "places" (spPlaces (gA K "Town"))) (c_Town_streets : MetX P w K mg base 1 (gA K "Town") "streets" (spStreets (gA K "Town"))) : FnOk P w K mg base (L2.CX P w) 4 f fd ["town"] (spPartsT (gA K "Town")) := by
  have nd := sc_parts.nd
  refine D.ok sc_parts (fun vs H Q E h => ?_) (fun cdv A outer s H vs Q E hr h => ?_)
  · obtain ⟨p, d, m, rows, n, rfl, _⟩ := h
    rfl
  · obtain ⟨p, d, m, rows, n, rfl, W, k⟩ := h
    obtain ⟨f_parts_along, fd_parts_along, ps_parts_along, F_parts_along, m_parts_along, k_parts_along, b_parts_along⟩ := c_parts_along.ex
    obtain ⟨f_Town_places, fd_Town_places, ps_Town_places, c_Town_places, M_Town_places, F_Town_places, b_Town_places⟩ := c_Town_places.ex
    obtain ⟨f_Town_streets, fd_Town_streets, ps_Town_streets, c_Town_streets, M_Town_streets, F_Town_streets, b_Town_streets⟩ := c_Town_streets.ex
    refine ⟨_, (pss_one (ps_ret (pe_call F_parts_along (hr.mono (by decide)) rfl m_parts_along k_parts_along b_parts_along .nil passF (pa_cons (pe_meth0 (pv 0) c_Town_places M_Town_places F_Town_places (hr.mono (by decide)) b_Town_places .nil passF) (pa_cons (pe_meth0 (pv 0) c_Town_streets M_Town_streets F_Town_streets (hr.mono (by decide)) b_Town_streets .nil passF) pa_nil))))), ?_⟩
    obtain ⟨dx, hp⟩ := W.ob
    refine ⟨_, rfl, p, dx, _, rfl, hp, tF_no _ _ _ (by decide +kernel) (by decide +kernel) (by decide +kernel), p, d, m, rows, n, rfl, W, ?_⟩
    refine ⟨_, rfl, p, dx, _, rfl, hp, tF_no _ _ _ (by decide +kernel) (by decide +kernel) (by decide +kernel), p, d, m, rows, n, rfl, W, fun l H1 hl sm tl => ?_⟩
    exact ⟨l, m, rows, rfl, tl, (town_inm W), W.pm.2, W.ok.few, fun r zs H2 hr2 sm2 er nz => k r zs H2 (sm.free hr2) (sm.trans sm2) er (newL_free sm nz)⟩
theorem ok_apart (D : FnP K "_parts_its_ends" "_parts_its_ends" s_parts_its_ends f fd) (c_come_to : CalX P w K mg base 2 "come_to" spCome) : FnOk P w K mg base (L2.CX P w) 3 f fd ["streets", "row"] spApart := by
  have nd := sc_parts_its_ends.nd
  refine D.ok sc_parts_its_ends (fun vs H Q E h => ?_) (fun cdv A outer s H vs Q E hr h => ?_)
  · obtain ⟨l, t, m, rows, r, rfl, _⟩ := h
    rfl
  · obtain ⟨l, t, m, rows, r, rfl, tl, inm, m16, few, hr0, ht, k⟩ := h
    obtain ⟨f_come_to, fd_come_to, ps_come_to, F_come_to, m_come_to, k_come_to, b_come_to⟩ := c_come_to.ex
    refine ⟨_, (pss_cons (ps_asg (pv 1) (pg_tup rfl (pgs_cons (pg_name (i := 2) nd rfl (Or.inr rfl)) (pgs_cons (pg_name (i := 3) nd rfl (Or.inl rfl)) (pgs_cons (pg_name (i := 4) nd rfl (Or.inl rfl)) pgs_nil)))))
      (pss_cons (ps_setLc (own := [("kept", 6)]) (g := (gName 6)) (tt := tTest (tOp rNe (tOp (rIxT K) (tVar 6) (tC (.int 0))) (tVar 2))) (i := 5) rfl nd rfl rfl (sw_true rfl rfl rfl (by decide +kernel)) (pi_list (pv 0)) (blkOk_by (own := [("kept", 6)]) (N := N_parts_its_ends) (sc := defScope s_parts_its_ends) (by decide +kernel)) (fun _ _ _ _ _ => (pg_name (i := 6) nd rfl (Or.inl rfl))) (fun _ _ _ _ _ => (pts_one (pt_cmpR op_ne (pe_ix ix_tup (pv 6) pe_int (fun _ _ => rfl)) (pv 2) (nomark _)))) (fun _ _ _ _ _ => (pv 6)))
      (pss_one (ps_ret (pe_cmpR op_notIn_seq (pv 4) (pe_call F_come_to (hr.mono (by decide)) rfl m_come_to k_come_to b_come_to .nil passF (pa_cons (pv 5) (pa_cons (pv 3) pa_nil))) (by with_unfolding_all rfl)))))), ?_⟩
    obtain ⟨vs, el, tv⟩ := tl
    have lvs : vs.length = rows.length := by rw [tups_len tv, List.length_map]
    refine ⟨_, rfl, t, _, rfl, SqT.of ht, rfl, _, _, rfl, _, _, rfl, _, _, rfl, rfl, ?_⟩
    refine ⟨_, rfl, l, rfl, ⟨vs, SqL.of el⟩, fun D0 hD0 => ?_⟩
    have c0 := same_new (o := .lst []) hD0
    refine lc_it (walk_list (K := K) (xs := vs)) (fun i H' => ∃ zs, H' D0 = some (.lst zs) ∧ Tups H' zs (((rows.take i).filter fun q => decide (q.1 ≠ r.1)).map rowV) ∧ Same H H') ⟨[], upd_same, .nil, c0⟩ (fun _ _ _ ⟨_, _, _, z⟩ => SqL.of (z _ _ el)) ?_ ?_
    · rintro i x H1 H2 hi ⟨zs, e1, e2, sm⟩ ⟨rfl, hx⟩
      obtain ⟨u, xs, rfl, hxs, hu⟩ := tups_get tv hx
      obtain ⟨q, hq⟩ : ∃ q, rows[i]? = some q := ⟨_, List.getElem?_eq_getElem (by omega)⟩
      rw [List.getElem?_map, hq] at hxs
      cases hxs
      have hu2 := sm _ _ hu
      refine ⟨rfl, _, rfl, u, _, _, _, rfl, rfl, SqT.of hu2, atI_nat (j := 0) rfl, _, rfl, rfl, _, rfl, ?_⟩
      rw [take_snoc hq, List.filter_append, List.map_append]
      have dq : decide (V.int (q.1 : Int) = V.int (r.1 : Int)) = decide (q.1 = r.1) := decide_eq_decide.mpr ⟨fun z => Int.ofNat.inj (V.int.inj z), fun z => by rw [z]⟩
      rw [dq]
      have lz : zs.length ≤ i := by
        rw [tups_len e2, List.length_map]
        exact Nat.le_trans (List.length_filter_le _ _) (by rw [List.length_take]; omega)
      by_cases eq : q.1 = r.1
      · rw [decide_eq_true eq]
        refine ⟨zs, e1, ?_, sm⟩
        rw [List.filter_cons, if_neg (by simp [eq])]
        simpa using e2
      · rw [decide_eq_false eq]
        refine ⟨_, rfl, zs, e1, by rw [sizeLine_eq]; omega, zs ++ [V.ref u], upd_same, ?_, same_over hD0 sm⟩
        rw [List.filter_cons, if_pos (by simpa using eq)]
        refine tups_snoc ?_ (tups_over e1 e2)
        rw [upd_ne (ne_of hu2 e1 (by intro z; cases z))]
        exact hu2
    · rintro H1 ⟨zs, e1, e2, sm⟩
      rw [List.take_of_length_le (by omega)] at e2
      have inr := inm (r.2.1, r.2.2) (List.mem_map.mpr ⟨r, hr0, rfl⟩)
      refine ⟨_, rfl, _, rfl, _, rfl, D0, r.2.1, m, rows.filter (fun q => decide (q.1 ≠ r.1)), rfl, ⟨zs, e1, e2⟩, fun q hq => ?_, inr.1, m16, Nat.le_trans (List.length_filter_le _ _) few, fun r2 H3 hr3 sm3 er => ?_⟩
      · obtain ⟨y, hy, rfl⟩ := List.mem_map.mp hq
        exact inm _ (List.mem_map.mpr ⟨y, (List.mem_filter.mp hy).1, rfl⟩)
      · refine ⟨r2, _, rfl, .inl (SqL.of er), rfl, flat_nat _, ?_⟩
        rw [inV_nat]
        have e : (!decide (r.2.2 ∈ cls m (ends (rows.filter fun q => decide (q.1 ≠ r.1))) r.2.1)) = bridge rows r := by
          unfold bridge
          rw [← decide_not]
          refine decide_eq_decide.mpr ?_
          rw [mem_cls]
          exact ⟨fun z y => z ⟨inr.2, y⟩, fun z y => z y.2⟩
        rw [if_pos rfl, e]
        exact k H3 (sm.trans sm3)
end
end K02

set_option Elab.async false
set_option linter.all false
set_option maxRecDepth 100000
set_option maxHeartbeats 4000000
namespace K02
open PySem PySem.Spec PyProof.Rows L2 Own
/-! ### the streets that part, the pieces -/
def spPartingRows (C : Addr) : Sp := fun vs H Q _ => ∃ (p d : Addr) (m : Nat) (rows : List TRow) (n : Nat), vs = [.ref p] ∧ TownAt C H p d m rows n ∧
  ∀ (r : Addr) (H' : Hp), H r = none → Same H H' → TL H' r ((rows.filter (bridge rows)).map rowV) → Q (.ref r) H'
def spWithout (C : Addr) : Sp := fun vs H Q _ => ∃ (p d b : Addr) (m : Nat) (rows bs : List TRow) (n : Nat), vs = [.ref p, .ref b] ∧ TownAt C H p d m rows n ∧ TL H b (bs.map rowV) ∧ bs.length ≤ 60 ∧
  ∀ (r : Addr) (zs : List V) (H' : Hp), H r = none → Same H H' → H' r = some (.lst zs) → NewL H H' r zs (natL (partsOf m (ends (rows.filter fun q => decide (q ∉ bs))))) → Q (.ref r) H'
def spParting (C : Addr) : Sp := fun vs H Q _ => ∃ (p d : Addr) (m : Nat) (rows : List TRow) (n : Nat), vs = [.ref p] ∧ TownAt C H p d m rows n ∧
  ∀ (r : Addr) (H' : Hp), H r = none → Same H H' → H' r = some (.lst (((rows.filter (bridge rows)).map (·.1)).map natV)) → Q (.ref r) H'
def spPieces (C : Addr) : Sp := fun vs H Q _ => ∃ (p d : Addr) (m : Nat) (rows : List TRow) (n : Nat), vs = [.ref p] ∧ TownAt C H p d m rows n ∧
  ∀ (r : Addr) (zs : List V) (H' : Hp), H r = none → Same H H' → H' r = some (.lst zs) → NewL H H' r zs (natL (piecesOf m rows)) → Q (.ref r) H'
theorem eqv_row (a b : TRow) : PyData.eqv (rowD a) (rowD b) = decide (a = b) := by
  obtain ⟨a1, a2, a3⟩ := a
  obtain ⟨b1, b2, b3⟩ := b
  have i : ∀ x y : Nat, ((x : Int) == (y : Int)) = decide (x = y) := fun x y => by
    by_cases e : x = y
    · subst e
      simp
    · rw [decide_eq_false e, beq_eq_false_iff_ne]
      exact fun z => e (Int.ofNat.inj z)
  simp [rowD, PyData.eqv, PyData.eqvAll]
  rw [i, i, i]
theorem any_row (r : TRow) (bs : List TRow) : (bs.map rowD).any (fun z => PyData.eqv z (rowD r)) = decide (r ∈ bs) := by
  induction bs with
  | nil => rfl
  | cons b bs ih =>
    rw [List.map_cons, List.any_cons, ih, eqv_row]
    by_cases h : r = b
    · subst h
      simp
    · rw [decide_eq_false (fun z => h z.symm)]
      simp [h]
theorem lay_row (r : TRow) : Lay 1 (rowD r) := lay_tup fun e he => by
  simp only [List.mem_cons, List.not_mem_nil, or_false] at he
  rcases he with h | h | h <;> rw [h] <;> exact lay_int _
theorem room65 {k : Nat} {A : Around} (r : Room k A) : A.units + 65 < cLine := by
  have := r.un
  omega
abbrev s_parting_rows : Stmt := top 8
abbrev N_parting_rows : List Str := ["town", "streets", "row"]
theorem sc_parting_rows : FnScope N_parting_rows ["town"] (defScope s_parting_rows) := ⟨rfl, rfl, rfl, by decide +kernel, rfl, by decide +kernel, by decide +kernel⟩
abbrev s_pieces_without : Stmt := top 9
abbrev N_pieces_without : List Str := ["town", "between", "left", "row"]
theorem sc_pieces_without : FnScope N_pieces_without ["town", "between"] (defScope s_pieces_without) := ⟨rfl, rfl, rfl, by decide +kernel, rfl, by decide +kernel, by decide +kernel⟩
abbrev s_parting : Stmt := top 11
abbrev N_parting : List Str := ["town", "row"]
theorem sc_parting : FnScope N_parting ["town"] (defScope s_parting) := ⟨rfl, rfl, rfl, by decide +kernel, rfl, by decide +kernel, by decide +kernel⟩
abbrev s_pieces : Stmt := top 12
abbrev N_pieces : List Str := ["town"]
theorem sc_pieces : FnScope N_pieces ["town"] (defScope s_pieces) := ⟨rfl, rfl, rfl, by decide +kernel, rfl, by decide +kernel, by decide +kernel⟩
section
variable {P : Program} {w : World} {K : PySem.W.Frag} {mg : Str → Option Value} {base : Heap} {f : Addr} {fd : FuncData}
theorem ok_parting_rows (D : FnP K "_parting_rows" "_parting_rows" s_parting_rows f fd) (c_parts_its_ends : CalX P w K mg base 3 "_parts_its_ends" spApart) (c_Town_streets : MetX P w K mg base 1 (gA K "Town") "streets" (spStreets (gA K "Town"))) :
    FnOk P w K mg base (L2.CX P w) 4 f fd ["town"] (spPartingRows (gA K "Town")) := by
  have nd := sc_parting_rows.nd
  refine D.ok sc_parting_rows (fun vs H Q E h => ?_) (fun cdv A outer s H vs Q E hr h => ?_)
  · obtain ⟨p, d, m, rows, n, rfl, _⟩ := h
    rfl
  · obtain ⟨p, d, m, rows, n, rfl, W, k⟩ := h
    obtain ⟨f_parts_its_ends, fd_parts_its_ends, ps_parts_its_ends, F_parts_its_ends, m_parts_its_ends, k_parts_its_ends, b_parts_its_ends⟩ := c_parts_its_ends.ex
    obtain ⟨f_Town_streets, fd_Town_streets, ps_Town_streets, c_Town_streets, M_Town_streets, F_Town_streets, b_Town_streets⟩ := c_Town_streets.ex
    refine ⟨_, (pss_cons (ps_set (i := 1) nd rfl (Or.inr rfl) (pe_meth0 (pv 0) c_Town_streets M_Town_streets F_Town_streets (hr.mono (by decide)) b_Town_streets .nil passF))
      (pss_one (ps_ret (pe_lc (own := [("row", 2)]) (g := (gName 2)) rfl nd (pi_list (pv 1)) (blkOk_by (own := [("row", 2)]) (N := N_parting_rows) (sc := defScope s_parting_rows) (by decide +kernel)) (fun _ _ _ _ _ => (pg_name (i := 2) nd rfl (Or.inl rfl))) (fun _ _ _ _ _ => (pts_one (pt_val (pe_call F_parts_its_ends (hr.mono (by decide)) rfl m_parts_its_ends k_parts_its_ends b_parts_its_ends .nil passF (pa_cons (pv 1) (pa_cons (pv 2) pa_nil)))))) (fun _ _ _ _ _ => (pv 2)))))), ?_⟩
    obtain ⟨dx, hp⟩ := W.ob
    refine ⟨_, rfl, p, dx, _, rfl, hp, tF_no _ _ _ (by decide +kernel) (by decide +kernel) (by decide +kernel), p, d, m, rows, n, rfl, W, fun l H1 hl sm1 tl => ?_⟩
    obtain ⟨vs, el, tv⟩ := tl
    have lvs : vs.length = rows.length := by rw [tups_len tv, List.length_map]
    have few := W.ok.few
    refine ⟨_, rfl, l, rfl, ⟨vs, SqL.of el⟩, fun D0 hD0 => ?_⟩
    have c0 := same_new (o := .lst []) hD0
    refine lc_it (walk_list (K := K) (xs := vs)) (fun i H' => ∃ zs, H' D0 = some (.lst zs) ∧ Tups H' zs (((rows.take i).filter (bridge rows)).map rowV) ∧ Same H1 H') ⟨[], upd_same, .nil, c0⟩ (fun _ _ _ ⟨_, _, _, z⟩ => SqL.of (z _ _ el)) ?_ ?_
    · rintro i x H2 H3 hi ⟨zs, e1, e2, sm⟩ ⟨rfl, hx⟩
      obtain ⟨u, xs, rfl, hxs, hu⟩ := tups_get tv hx
      obtain ⟨q, hq⟩ : ∃ q, rows[i]? = some q := ⟨_, List.getElem?_eq_getElem (by omega)⟩
      rw [List.getElem?_map, hq] at hxs
      cases hxs
      have hu2 := sm _ _ hu
      have lz : zs.length ≤ i := by
        rw [tups_len e2, List.length_map]
        exact Nat.le_trans (List.length_filter_le _ _) (by rw [List.length_take]; omega)
      refine ⟨rfl, _, rfl, _, rfl, l, u, m, rows, q, rfl, tl_same ⟨vs, el, tv⟩ sm, town_inm W, W.pm.2, few, List.mem_of_getElem? hq, hu2, fun H4 sm4 => ?_⟩
      rw [take_snoc hq, List.filter_append, List.map_append]
      refine ⟨_, rfl, ?_⟩
      cases hb : bridge rows q with
      | false =>
        refine ⟨zs, sm4 _ _ e1, ?_, sm.trans sm4⟩
        rw [List.filter_cons, if_neg (by rw [hb]; exact Bool.false_ne_true)]
        simpa using tups_ext (fun t xs e => sm4 _ _ e) e2
      | true =>
        refine ⟨_, rfl, zs, sm4 _ _ e1, by rw [sizeLine_eq]; omega, zs ++ [V.ref u], upd_same, ?_, same_over hD0 (sm.trans sm4)⟩
        rw [List.filter_cons, if_pos hb]
        refine tups_snoc ?_ (tups_over (sm4 _ _ e1) (tups_ext (fun t xs e => sm4 _ _ e) e2))
        rw [upd_ne (ne_of hu2 e1 (by intro z; cases z))]
        exact sm4 _ _ hu2
    · rintro H2 ⟨zs, e1, e2, sm⟩
      rw [List.take_of_length_le (by omega)] at e2
      exact k D0 H2 (sm1.free hD0) (sm1.trans sm) ⟨zs, e1, e2⟩
theorem ok_without (D : FnP K "_pieces_without" "_pieces_without" s_pieces_without f fd) (c_parts_along : CalX P w K mg base 3 "parts_along" spPartsAlong) (c_Town_places : MetX P w K mg base 1 (gA K "Town") "places" (spPlaces (gA K "Town"))) (c_Town_streets : MetX P w K mg base 1 (gA K "Town") "streets" (spStreets (gA K "Town"))) :
    FnOk P w K mg base (L2.CX P w) 4 f fd ["town", "between"] (spWithout (gA K "Town")) := by
  have nd := sc_pieces_without.nd
  refine D.ok sc_pieces_without (fun vs H Q E h => ?_) (fun cdv A outer s H vs Q E hr h => ?_)
  · obtain ⟨p, d, b, m, rows, bs, n, rfl, _⟩ := h
    rfl
  · obtain ⟨p, d, b, m, rows, bs, n, rfl, W, tb, fb, k⟩ := h
    obtain ⟨f_parts_along, fd_parts_along, ps_parts_along, F_parts_along, m_parts_along, k_parts_along, b_parts_along⟩ := c_parts_along.ex
    obtain ⟨f_Town_places, fd_Town_places, ps_Town_places, c_Town_places, M_Town_places, F_Town_places, b_Town_places⟩ := c_Town_places.ex
    obtain ⟨f_Town_streets, fd_Town_streets, ps_Town_streets, c_Town_streets, M_Town_streets, F_Town_streets, b_Town_streets⟩ := c_Town_streets.ex
    have hu65 := room65 hr
    refine ⟨_, (pss_cons (ps_setLc (own := [("row", 3)]) (g := (gName 3)) (tt := tTest (tOp (rNotInD K) (tVar 3) (tVar 1))) (i := 2) rfl nd rfl rfl (sw_true rfl rfl rfl (by decide +kernel)) (pi_list (pe_meth0 (pv 0) c_Town_streets M_Town_streets F_Town_streets (hr.mono (by decide)) b_Town_streets .nil passF)) (blkOk_by (own := [("row", 3)]) (N := N_pieces_without) (sc := defScope s_pieces_without) (by decide +kernel)) (fun _ _ _ _ _ => (pg_name (i := 3) nd rfl (Or.inl rfl))) (fun _ _ _ _ _ => (pts_one (pt_cmpR (op_notInD hu65) (pv 3) (pv 1) (by with_unfolding_all rfl)))) (fun _ _ _ _ _ => (pv 3)))
      (pss_one (ps_ret (pe_call F_parts_along (hr.mono (by decide)) rfl m_parts_along k_parts_along b_parts_along .nil passF (pa_cons (pe_meth0 (pv 0) c_Town_places M_Town_places F_Town_places (hr.mono (by decide)) b_Town_places .nil passF) (pa_cons (pv 2) pa_nil)))))), ?_⟩
    obtain ⟨dx, hp⟩ := W.ob
    have few := W.ok.few
    refine ⟨_, rfl, p, dx, _, rfl, hp, tF_no _ _ _ (by decide +kernel) (by decide +kernel) (by decide +kernel), p, d, m, rows, n, rfl, W, fun l H1 hl sm1 tl => ?_⟩
    obtain ⟨vs, el, tv⟩ := tl
    have lvs : vs.length = rows.length := by rw [tups_len tv, List.length_map]
    refine ⟨l, rfl, ⟨vs, SqL.of el⟩, fun D0 hD0 => ?_⟩
    have c0 := same_new (o := .lst []) hD0
    refine lc_it (walk_list (K := K) (xs := vs)) (fun i H' => ∃ zs, H' D0 = some (.lst zs) ∧ Tups H' zs (((rows.take i).filter fun q => decide (q ∉ bs)).map rowV) ∧ Same H1 H') ⟨[], upd_same, .nil, c0⟩ (fun _ _ _ ⟨_, _, _, z⟩ => SqL.of (z _ _ el)) ?_ ?_
    · rintro i x H2 H3 hi ⟨zs, e1, e2, sm⟩ ⟨rfl, hx⟩
      obtain ⟨u, xs, rfl, hxs, hu⟩ := tups_get tv hx
      obtain ⟨q, hq⟩ : ∃ q, rows[i]? = some q := ⟨_, List.getElem?_eq_getElem (by omega)⟩
      rw [List.getElem?_map, hq] at hxs
      cases hxs
      have hu2 := sm _ _ hu
      have lz : zs.length ≤ i := by
        rw [tups_len e2, List.length_map]
        exact Nat.le_trans (List.length_filter_le _ _) (by rw [List.length_take]; omega)
      refine ⟨rfl, _, rfl, _, rfl, rowD q, bs.map rowD, .tup (SqT.of hu2) (.cons (.int _) (.cons (.int _) (.cons (.int _) .nil))), dp_town (tl_same tb (sm1.trans sm)), (lay_row q).shaped (by decide), (lay_rows bs).shaped (by decide), ?_⟩
      rw [any_row, take_snoc hq, List.filter_append, List.map_append]
      refine ⟨_, rfl, ?_⟩
      by_cases hb : q ∈ bs
      · rw [decide_eq_true hb]
        refine ⟨zs, e1, ?_, sm⟩
        rw [List.filter_cons, if_neg (by simpa using hb)]
        simpa using e2
      · rw [decide_eq_false hb]
        refine ⟨_, rfl, zs, e1, by rw [sizeLine_eq]; omega, zs ++ [V.ref u], upd_same, ?_, same_over hD0 sm⟩
        rw [List.filter_cons, if_pos (by simpa using hb)]
        refine tups_snoc ?_ (tups_over e1 e2)
        rw [upd_ne (ne_of hu2 e1 (by intro z; cases z))]
        exact hu2
    · rintro H2 ⟨zs, e1, e2, sm⟩
      rw [List.take_of_length_le (by omega)] at e2
      have W2 := (W.same sm1).same sm
      obtain ⟨dx2, hp2⟩ := W2.ob
      refine ⟨_, rfl, p, dx2, _, rfl, hp2, tF_no _ _ _ (by decide +kernel) (by decide +kernel) (by decide +kernel), p, d, m, rows, n, rfl, W2, _, rfl, D0, m, rows.filter (fun q => decide (q ∉ bs)), rfl, ⟨zs, e1, e2⟩, fun q hq => ?_, W.pm.2, Nat.le_trans (List.length_filter_le _ _) W.ok.few, fun r zs2 H3 hr3 sm3 er nz => ?_⟩
      · obtain ⟨y, hy, rfl⟩ := List.mem_map.mp hq
        exact town_inm W _ (List.mem_map.mpr ⟨y, (List.mem_filter.mp hy).1, rfl⟩)
      · exact k r zs2 H3 ((sm1.trans sm).free hr3) ((sm1.trans sm).trans sm3) er (newL_free (sm1.trans sm) nz)
theorem ok_parting (D : FnP K "parting" "parting" s_parting f fd) (c_parting_rows : CalX P w K mg base 4 "_parting_rows" (spPartingRows (gA K "Town"))) : FnOk P w K mg base (L2.CX P w) 5 f fd ["town"] (spParting (gA K "Town")) := by
  have nd := sc_parting.nd
  refine D.ok sc_parting (fun vs H Q E h => ?_) (fun cdv A outer s H vs Q E hr h => ?_)
  · obtain ⟨p, d, m, rows, n, rfl, _⟩ := h
    rfl
  · obtain ⟨p, d, m, rows, n, rfl, W, k⟩ := h
    obtain ⟨f_parting_rows, fd_parting_rows, ps_parting_rows, F_parting_rows, m_parting_rows, k_parting_rows, b_parting_rows⟩ := c_parting_rows.ex
    refine ⟨_, (pss_one (ps_ret (pe_lc (own := [("row", 1)]) (g := (gName 1)) (te := tOp (rIxT K) (tVar 1) (tC (.int 0))) rfl nd (pi_list (pe_call F_parting_rows (hr.mono (by decide)) rfl m_parting_rows k_parting_rows b_parting_rows .nil passF (pa_cons (pv 0) pa_nil))) (blkOk_by (own := [("row", 1)]) (N := N_parting) (sc := defScope s_parting) (by decide +kernel)) (fun _ _ _ _ _ => (pg_name (i := 1) nd rfl (Or.inl rfl))) (fun _ _ _ _ _ => pts_nil) (fun _ _ _ _ _ => (pe_ix ix_tup (pv 1) pe_int (fun _ _ => rfl)))))), ?_⟩
    refine ⟨_, rfl, p, d, m, rows, n, rfl, W, fun l H1 hl sm1 tl => ?_⟩
    obtain ⟨vs, el, tv⟩ := tl
    have lvs : vs.length = (rows.filter (bridge rows)).length := by rw [tups_len tv, List.length_map]
    have few : (rows.filter (bridge rows)).length ≤ 60 := Nat.le_trans (List.length_filter_le _ _) W.ok.few
    refine ⟨l, rfl, ⟨vs, SqL.of el⟩, fun D0 hD0 => ?_⟩
    have c0 := same_new (o := .lst []) hD0
    refine lc_it (walk_list (K := K) (xs := vs)) (fun i H' => H' D0 = some (.lst ((((rows.filter (bridge rows)).take i).map (·.1)).map natV)) ∧ Same H1 H') ⟨upd_same, c0⟩ (fun _ _ _ z => SqL.of (z.2 _ _ el)) ?_ ?_
    · rintro i x H2 H3 hi ⟨e1, sm⟩ ⟨rfl, hx⟩
      obtain ⟨u, xs, rfl, hxs, hu⟩ := tups_get tv hx
      obtain ⟨q, hq⟩ : ∃ q, (rows.filter (bridge rows))[i]? = some q := ⟨_, List.getElem?_eq_getElem (by omega)⟩
      rw [List.getElem?_map, hq] at hxs
      cases hxs
      refine ⟨rfl, _, rfl, u, _, _, _, rfl, rfl, SqT.of (sm _ _ hu), atI_nat (j := 0) rfl, _, e1, by rw [List.length_map, List.length_map, List.length_take, sizeLine_eq]; omega, ?_, same_over hD0 sm⟩
      rw [upd_same, take_snoc hq, List.map_append, List.map_append]
      rfl
    · rintro H2 ⟨e1, sm⟩
      rw [List.take_of_length_le (by omega)] at e1
      exact k D0 H2 (sm1.free hD0) (sm1.trans sm) e1
theorem ok_pieces (D : FnP K "pieces" "pieces" s_pieces f fd) (c_parting_rows : CalX P w K mg base 4 "_parting_rows" (spPartingRows (gA K "Town"))) (c_pieces_without : CalX P w K mg base 4 "_pieces_without" (spWithout (gA K "Town"))) : FnOk P w K mg base (L2.CX P w) 5 f fd ["town"] (spPieces (gA K "Town")) := by
  have nd := sc_pieces.nd
  refine D.ok sc_pieces (fun vs H Q E h => ?_) (fun cdv A outer s H vs Q E hr h => ?_)
  · obtain ⟨p, d, m, rows, n, rfl, _⟩ := h
    rfl
  · obtain ⟨p, d, m, rows, n, rfl, W, k⟩ := h
    obtain ⟨f_parting_rows, fd_parting_rows, ps_parting_rows, F_parting_rows, m_parting_rows, k_parting_rows, b_parting_rows⟩ := c_parting_rows.ex
    obtain ⟨f_pieces_without, fd_pieces_without, ps_pieces_without, F_pieces_without, m_pieces_without, k_pieces_without, b_pieces_without⟩ := c_pieces_without.ex
    refine ⟨_, (pss_one (ps_ret (pe_call F_pieces_without (hr.mono (by decide)) rfl m_pieces_without k_pieces_without b_pieces_without .nil passF (pa_cons (pv 0) (pa_cons (pe_call F_parting_rows (hr.mono (by decide)) rfl m_parting_rows k_parting_rows b_parting_rows .nil passF (pa_cons (pv 0) pa_nil)) pa_nil))))), ?_⟩
    refine ⟨_, rfl, _, rfl, p, d, m, rows, n, rfl, W, fun l H1 hl sm1 tl => ?_⟩
    exact ⟨p, d, l, m, rows, rows.filter (bridge rows), n, rfl, W.same sm1, tl, Nat.le_trans (List.length_filter_le _ _) W.ok.few, fun r zs H2 hr2 sm2 er nz => k r zs H2 (sm1.free hr2) (sm1.trans sm2) er (newL_free sm1 nz)⟩
end
end K02

set_option Elab.async false
set_option linter.all false
set_option maxRecDepth 100000
set_option maxHeartbeats 4000000
namespace K02
open PySem PySem.Spec PyProof.Rows L2 Own
/-! ### comprehensions over rows -/
/-- the slots written out -/
theorem nice {T : TS} {D : Ends} {σ σ' : L2.St} {H : Hp} (e : σ = σ') (h : T D σ' H) : T D σ H := e ▸ h
theorem at_seq {A B : TS} {D : Ends} {σ : L2.St} {H : Hp} (h : A { D with nx := B D } σ H) : tSeq A B D σ H := h
theorem at_asg {te : TE} {g : TG} {D : Ends} {σ : L2.St} {H : Hp} (h : te σ H fun x H1 => g x σ H1 D.nx) : tAsg te g D σ H := h
theorem at_op {r : R2} {ta tb : TE} {σ : L2.St} {H : Hp} {Q : VK} (h : ta σ H fun x H1 => tb σ H1 fun y H2 => r x y H2 Q) : tOp r ta tb σ H Q := h
theorem at_ret {te : TE} {D : Ends} {σ : L2.St} {H : Hp} (h : te σ H D.rt) : tRet te D σ H := h
theorem at_next {D : Ends} {σ : L2.St} {H : Hp} (h : D.nx σ H) : tNext D σ H := h
theorem at_cb {r : List V → Hp → VK → Prop} {t : TA} {σ : L2.St} {H : Hp} {Q : VK} (h : t σ H fun vs H1 => r vs H1 Q) : tCB r t σ H Q := h
theorem at_test {t : TE} {σ : L2.St} {H : Hp} {Q : Bool → Hp → Prop} (h : t σ H fun x H' => ∃ k, x = .bl k ∧ Q k H') : tTest t σ H Q := h
theorem at_call {sp : Sp} {dvs : List V} {E : XK} {t : TA} {σ : L2.St} {H : Hp} {Q : VK} (h : t σ H fun vs H1 => sp (vs ++ dvs) H1 Q E) : tCall sp dvs E t σ H Q := h
theorem at_cons {ta : TE} {tr : TA} {σ : L2.St} {H : Hp} {Q : List V → Hp → Prop} (h : ta σ H fun x H1 => tr σ H1 fun xs H2 => Q (x :: xs) H2) : tCons ta tr σ H Q := h
theorem town_over {C : Addr} {H : Hp} {p d l : Addr} {m : Nat} {rows : List TRow} {n : Nat} {xs : List V} {o : HO} (T : TownAt C H p d m rows n) (h : H l = some (.lst xs)) : TownAt C (upd H l o) p d m rows n := by
  obtain ⟨dx, h1⟩ := T.ob
  obtain ⟨kvs, h2, h3⟩ := T.dc
  refine ⟨⟨dx, by rw [upd_ne (ne_of h1 h (by intro z; cases z))]; exact h1⟩, ⟨kvs, by rw [upd_ne (ne_of h2 h (by intro z; cases z))]; exact h2, ents_ext (fun t ys e => ?_) h3⟩, T.ok, T.pm⟩
  rw [upd_ne (ne_of e h (by intro z; cases z))]
  exact e
theorem sub_len {xs : List Nat} : ∀ {ys : List Nat}, xs.Nodup → (∀ x ∈ xs, x ∈ ys) → xs.length ≤ ys.length := by
  induction xs with
  | nil => exact fun _ _ => Nat.zero_le _
  | cons x xs ih =>
    intro ys nd h
    obtain ⟨n1, n2⟩ := List.nodup_cons.mp nd
    have hx := h x (List.mem_cons_self ..)
    have z := ih (ys := ys.erase x) n2 fun y hy => (List.mem_erase_of_ne (fun e => n1 (by rw [← e]; exact hy))).mpr (h y (List.mem_cons_of_mem _ hy))
    rw [List.length_erase_of_mem hx] at z
    have : 0 < ys.length := List.length_pos_of_mem hx
    show xs.length + 1 ≤ ys.length
    omega
theorem cut_drop (xs : List V) (c : Nat) : cutV xs (some (c : Int)) none = xs.drop c := by
  unfold cutV
  rw [HT.sIx_none, HT.sIx_nat]
  by_cases h : c ≤ xs.length
  · rw [Nat.min_eq_left h, List.take_of_length_le (by rw [List.length_drop]; exact Nat.le_refl _)]
  · rw [Nat.min_eq_right (by omega), List.drop_of_length_le (Nat.le_refl _), List.drop_of_length_le (by omega)]
    simp
/-- one after the other, by what holds between -/
theorem at_seqP {A B : TS} {D : Ends} {σ : L2.St} {H : Hp} (Pv : L2.St → Hp → Prop) (rest : ∀ σ' H', Pv σ' H' → B D σ' H') (h : ∀ N : L2.St → Hp → Prop, (∀ σ' H', Pv σ' H' → N σ' H') → A { D with nx := N } σ H) : tSeq A B D σ H := h (B D) rest
/-- two ways, by what the test tells -/
theorem at_ifP {t : TT} {A B : TS} {D : Ends} {σ : L2.St} {H : Hp} (Pt : Bool → Hp → Prop) (yes : ∀ H', Pt true H' → A D σ H') (no : ∀ H', Pt false H' → B D σ H') (test : ∀ N : Bool → Hp → Prop, (∀ b H', Pt b H' → N b H') → t σ H N) : tIfS t A B D σ H :=
  test _ fun b H' h => by
    cases b with
    | true => exact yes H' h
    | false => exact no H' h
/-- those kept by a test -/
theorem lc_rows {K : PySem.W.Frag} {i : Nat} {wi : TI} {tt : TT} {σ : L2.St} {H0 : Hp} {Q : VK} {rows : List TRow} (p : TRow → Bool)
    (src : ∀ R, (∀ l H1, Same H0 H1 → TL H1 l (rows.map rowV) → R (Itl K l) H1) → wi σ H0 R) (few : rows.length ≤ 1000)
    (hw : ∀ t, wipe ((wipe σ [i]).set i (some (V.ref t))) [i] = wipe σ [i]) (hi : ∀ t, ((wipe σ [i]).set i (some (V.ref t)))[i]? = some (some (V.ref t)))
    (test : ∀ (r : TRow), r ∈ rows → ∀ (t : Addr) (H2 : Hp) (Qt : Bool → Hp → Prop), Same H0 H2 → H2 t = some (.tup (rowV r)) → Qt (p r) H2 → tt ((wipe σ [i]).set i (some (V.ref t))) H2 Qt)
    (done : ∀ D H2, H0 D = none → Same H0 H2 → TL H2 D ((rows.filter p).map rowV) → Q (.ref D) H2) : tLc wi (gName i) tt (tVar i) [i] σ H0 Q := by
  refine src _ fun l H1 smA tl => ?_
  obtain ⟨vs, el, tv⟩ := tl
  have lvs : vs.length = rows.length := by rw [tups_len tv, List.length_map]
  intro D0 hD0
  refine lc_it (walk_list (K := K) (xs := vs)) (fun i H' => ∃ zs, H' D0 = some (.lst zs) ∧ Tups H' zs (((rows.take i).filter p).map rowV) ∧ Same H1 H') ⟨[], upd_same, .nil, same_new hD0⟩ (fun _ _ _ ⟨_, _, _, z⟩ => SqL.of (z _ _ el)) ?_ ?_
  · rintro j x H2 H3 hj ⟨zs, e1, e2, sm⟩ ⟨rfl, hx⟩
    obtain ⟨t, xs, rfl, hxs, ht⟩ := tups_get tv hx
    obtain ⟨r, hr0⟩ : ∃ r, rows[j]? = some r := ⟨_, List.getElem?_eq_getElem (by omega)⟩
    rw [List.getElem?_map, hr0] at hxs
    cases hxs
    have ht2 := sm _ _ ht
    have lz : zs.length ≤ j := by
      rw [tups_len e2, List.length_map]
      exact Nat.le_trans (List.length_filter_le _ _) (by rw [List.length_take]; omega)
    refine ⟨hw t, test r (List.mem_of_getElem? hr0) t H3 _ (smA.trans sm) ht2 ?_⟩
    rw [take_snoc hr0, List.filter_append, List.map_append]
    cases hp : p r with
    | true =>
      refine ⟨_, hi t, zs, e1, by rw [sizeLine_eq]; omega, zs ++ [V.ref t], upd_same, ?_, same_over hD0 sm⟩
      rw [List.filter_cons, if_pos hp]
      refine tups_snoc ?_ (tups_over e1 e2)
      rw [upd_ne (ne_of ht2 e1 (by intro z; cases z))]
      exact ht2
    | false =>
      refine ⟨zs, e1, ?_, sm⟩
      rw [List.filter_cons, if_neg (by rw [hp]; exact Bool.false_ne_true)]
      simpa using e2
  · rintro H2 ⟨zs, e1, e2, sm⟩
    rw [List.take_of_length_le (by omega)] at e2
    exact done D0 H2 (smA.free hD0) (smA.trans sm) ⟨zs, e1, e2⟩
/-- a number of each -/
theorem lc_nums {K : PySem.W.Frag} {i : Nat} {wi : TI} {te : TE} {σ : L2.St} {H0 : Hp} {Q : VK} {rows : List TRow} (g : TRow → Nat)
    (src : ∀ R, (∀ l H1, Same H0 H1 → TL H1 l (rows.map rowV) → R (Itl K l) H1) → wi σ H0 R) (few : rows.length ≤ 1000)
    (hw : ∀ t, wipe ((wipe σ [i]).set i (some (V.ref t))) [i] = wipe σ [i])
    (elem : ∀ (r : TRow), r ∈ rows → ∀ (t : Addr) (H2 : Hp) (Qt : VK), Same H0 H2 → H2 t = some (.tup (rowV r)) → Qt (natV (g r)) H2 → te ((wipe σ [i]).set i (some (V.ref t))) H2 Qt)
    (done : ∀ D H2, H0 D = none → Same H0 H2 → H2 D = some (.lst ((rows.map g).map natV)) → Q (.ref D) H2) : tLc wi (gName i) tYes te [i] σ H0 Q := by
  refine src _ fun l H1 smA tl => ?_
  obtain ⟨vs, el, tv⟩ := tl
  have lvs : vs.length = rows.length := by rw [tups_len tv, List.length_map]
  intro D0 hD0
  refine lc_it (walk_list (K := K) (xs := vs)) (fun i H' => H' D0 = some (.lst (((rows.take i).map g).map natV)) ∧ Same H1 H') ⟨upd_same, same_new hD0⟩ (fun _ _ _ ⟨_, z⟩ => SqL.of (z _ _ el)) ?_ ?_
  · rintro j x H2 H3 hj ⟨e1, sm⟩ ⟨rfl, hx⟩
    obtain ⟨t, xs, rfl, hxs, ht⟩ := tups_get tv hx
    obtain ⟨r, hr0⟩ : ∃ r, rows[j]? = some r := ⟨_, List.getElem?_eq_getElem (by omega)⟩
    rw [List.getElem?_map, hr0] at hxs
    cases hxs
    refine ⟨hw t, elem r (List.mem_of_getElem? hr0) t H3 _ (smA.trans sm) (sm _ _ ht) ?_⟩
    refine ⟨_, e1, by rw [List.length_map, List.length_map, List.length_take, sizeLine_eq]; omega, ?_, same_over hD0 sm⟩
    rw [upd_same, take_snoc hr0, List.map_append, List.map_append]
    rfl
  · rintro H2 ⟨e1, sm⟩
    rw [List.take_of_length_le (by omega)] at e1
    exact done D0 H2 (smA.free hD0) (smA.trans sm) e1
theorem src_name {K : PySem.W.Frag} {a : Nat} {σ : L2.St} {H0 : Hp} {l : Addr} {rows : List TRow} (hl : σ[a]? = some (some (V.ref l))) (tl : TL H0 l (rows.map rowV)) : ∀ R, (∀ l H1, Same H0 H1 → TL H1 l (rows.map rowV) → R (Itl K l) H1) → iList K (tVar a) σ H0 R := fun R h => by
  obtain ⟨vs, el, tv⟩ := id tl
  exact ⟨_, hl, l, rfl, ⟨vs, SqL.of el⟩, h l H0 (Same.refl H0) tl⟩
/-- lists of rows -/
abbrev TLs (H : Hp) : List V → List (List TRow) → Prop := Paired fun v rs => ∃ t, v = V.ref t ∧ TL H t (rs.map rowV)
theorem tls_get {H : Hp} : ∀ {vs : List V} {RR : List (List TRow)} {i : Nat} {v : V}, TLs H vs RR → vs[i]? = some v → ∃ t rs, v = V.ref t ∧ RR[i]? = some rs ∧ TL H t (rs.map rowV)
  | _, _, _, _, .nil, e => by simp at e
  | _, _, 0, _, .cons ⟨t, e, h⟩ _, q => by
    simp at q
    exact ⟨t, _, by rw [← q, e], rfl, h⟩
  | _, _, i + 1, v, .cons _ r, q => by
    obtain ⟨t, rs, h1, h2, h3⟩ := tls_get (i := i) (v := v) r (by simpa using q)
    exact ⟨t, rs, h1, by simpa using h2, h3⟩
/-- all the steps of all rows -/
theorem lc2_rows {K : PySem.W.Frag} {i j : Nat} {wi : TI} {σ : L2.St} {H0 : Hp} {Q : VK} {RR : List (List TRow)}
    (src : ∀ R, (∀ l zs H1, Same H0 H1 → H1 l = some (.lst zs) → TLs H1 zs RR → R (Itl K l) H1) → wi σ H0 R) (few : RR.flatten.length ≤ 1000)
    (hw : ∀ t, wipe ((wipe σ [i, j]).set i (some (V.ref t))) [i, j] = wipe σ [i, j]) (hi : ∀ t, ((wipe σ [i, j]).set i (some (V.ref t)))[i]? = some (some (V.ref t)))
    (hw2 : ∀ t x, wipe ((wipe ((wipe σ [i, j]).set i (some (V.ref t))) [j]).set j (some x)) [j] = wipe ((wipe σ [i, j]).set i (some (V.ref t))) [j]) (hj : ∀ t x, ((wipe ((wipe σ [i, j]).set i (some (V.ref t))) [j]).set j (some x))[j]? = some (some x))
    (done : ∀ D H2, H0 D = none → Same H0 H2 → TL H2 D (RR.flatten.map rowV) → Q (.ref D) H2) : tLc2 wi (gName i) tYes (iList K (tVar i)) (gName j) tYes (tVar j) [i, j] [j] σ H0 Q := by
  refine src _ fun l zs H1 smA el tl => ?_
  have lzs : zs.length = RR.length := Paired.length tl
  intro D0 hD0
  have w := walk_list (K := K) (a := l) (xs := zs)
  refine ⟨fun i m H' => m = zs.length - i ∧ i ≤ zs.length ∧ TL H' D0 (((RR.take i).flatten).map rowV) ∧ Same H1 H', ⟨_, rfl, Nat.zero_le _, ⟨[], upd_same, .nil⟩, same_new hD0⟩, ?_⟩
  rintro a mu H2 ⟨rfl, ha, td, sm⟩
  have q : SqL K H2 l zs := SqL.of (sm _ _ el)
  by_cases hlt : a < zs.length
  · refine .inr ⟨w.goes a H2 hlt q, fun H' => a + 1 ≤ zs.length ∧ TL H' D0 (((RR.take (a + 1)).flatten).map rowV) ∧ Same H1 H', fun H' h => ⟨zs.length - (a + 1), by omega, rfl, h.1, h.2.1, h.2.2⟩, fun x H' y => ?_⟩
    obtain ⟨rfl, hx⟩ := w.yields a H2 x H' hlt q y
    obtain ⟨t, rs, rfl, hrs, ht⟩ := tls_get tl hx
    refine ⟨hw t, ?_⟩
    obtain ⟨vs, ev, tv⟩ := tl_same ht sm
    have lvs : vs.length = rs.length := by rw [tups_len tv, List.length_map]
    have etk : (RR.take (a + 1)).flatten = (RR.take a).flatten ++ rs := by
      rw [take_snoc hrs, List.flatten_append]
      simp
    have lall : ((RR.take (a + 1)).flatten).length ≤ 1000 := by
      have e : RR.flatten = (RR.take (a + 1)).flatten ++ (RR.drop (a + 1)).flatten := by rw [← List.flatten_append, List.take_append_drop]
      rw [e, List.length_append] at few
      omega
    rw [etk, List.length_append] at lall
    refine ⟨_, hi t, t, rfl, ⟨vs, SqL.of ev⟩, ?_⟩
    have w1 := walk_list (K := K) (a := t) (xs := vs)
    refine ⟨fun b k H3 => k = vs.length - b ∧ b ≤ vs.length ∧ TL H3 D0 (((RR.take a).flatten ++ rs.take b).map rowV) ∧ Same H1 H3, ⟨_, rfl, Nat.zero_le _, by rw [List.take_zero, List.append_nil]; exact td, sm⟩, ?_⟩
    rintro b k H3 ⟨rfl, hb, td3, sm3⟩
    have ht3 := tl_same ht sm3
    obtain ⟨vs3, ev3, tv3⟩ := ht3
    have evs : vs3 = vs := by
      have e1 := sm3
      obtain ⟨v0, e0, _⟩ := id ht
      have z1 := sm _ _ e0
      have z2 := sm3 _ _ e0
      rw [ev] at z1
      rw [ev3] at z2
      cases z1
      cases z2
      rfl
    subst evs
    have q3 : SqL K H3 t vs3 := SqL.of ev3
    by_cases hlt3 : b < vs3.length
    · refine .inr ⟨w1.goes b H3 hlt3 q3, fun H' => b + 1 ≤ vs3.length ∧ TL H' D0 (((RR.take a).flatten ++ rs.take (b + 1)).map rowV) ∧ Same H1 H', fun H' h => ⟨vs3.length - (b + 1), by omega, rfl, h.1, h.2.1, h.2.2⟩, fun x H' y => ?_⟩
      obtain ⟨rfl, hx⟩ := w1.yields b H3 x H' hlt3 q3 y
      obtain ⟨u, xs, rfl, hxs, hu⟩ := tups_get tv3 hx
      obtain ⟨r, hr0⟩ : ∃ r, rs[b]? = some r := ⟨_, List.getElem?_eq_getElem (by omega)⟩
      rw [List.getElem?_map, hr0] at hxs
      cases hxs
      refine ⟨hw2 t _, ?_⟩
      obtain ⟨acc, ea, ta⟩ := td3
      have la : acc.length = ((RR.take a).flatten ++ rs.take b).length := by rw [tups_len ta, List.length_map]
      refine ⟨_, hj t _, acc, ea, ?_, by omega, ⟨acc ++ [V.ref u], upd_same, ?_⟩, same_over hD0 sm3⟩
      · rw [la, List.length_append, List.length_take, sizeLine_eq]
        omega
      · rw [take_snoc hr0, ← List.append_assoc, List.map_append]
        refine tups_snoc ?_ (tups_over ea ta)
        rw [upd_ne (ne_of hu ea (by intro z; cases z))]
        exact hu
    · have e : b = vs3.length := by omega
      subst e
      rw [show rs.take vs3.length = rs from List.take_of_length_le (by omega)] at td3
      exact .inl ⟨w1.stops H3 q3, by omega, by rw [etk]; exact td3, sm3⟩
  · have e : a = zs.length := by omega
    subst e
    rw [List.take_of_length_le (by omega)] at td
    exact .inl ⟨w.stops H2 q, done D0 H2 (smA.free hD0) (smA.trans sm) td⟩
/-! ### _row_from, _rows_of, handles -/
def spRowFrom : Sp := fun vs H Q _ => ∃ (ls lh : Addr) (m : Nat) (steps : List TRow) (had : List Nat) (f : TRow) (fs : List TRow) (k : Nat) (ks : List Nat), vs = [.ref ls, .ref lh] ∧ TL H ls (steps.map rowV) ∧ H lh = some (.lst (had.map natV)) ∧ (∀ q ∈ ends steps, q.1 < m ∧ q.2 < m) ∧ m ≤ 16 ∧ steps.length ≤ 120 ∧ RowAt steps had f fs k ks ∧
  ∀ (r : Addr) (H' : Hp), H r = none → Same H H' → TL H' r ((rowF steps had).map rowV) → Q (.ref r) H'
theorem keys_at {kvs : List (Key × V)} {S : List Nat} (h : kvs.map (·.1) = S.map fun (q : Nat) => (Sum.inl (q : Int) : Key)) {j : Nat} {kv : Key} {v : V} (e : kvs[j]? = some (kv, v)) : ∃ q, S[j]? = some q ∧ kv = Sum.inl (q : Int) := by
  have z : (kvs.map (·.1))[j]? = (S.map fun (q : Nat) => (Sum.inl (q : Int) : Key))[j]? := by rw [h]
  rw [List.getElem?_map, e, List.getElem?_map] at z
  cases hq : S[j]? with
  | none =>
    rw [hq] at z
    cases z
  | some q =>
    rw [hq] at z
    exact ⟨q, rfl, Option.some.inj z⟩
abbrev s_row_from : Stmt := top 27
abbrev N_row_from : List Str := ["steps", "had", "first", "others", "walks", "last", "step", "place"]
theorem sc_row_from : FnScope N_row_from ["steps", "had"] (defScope s_row_from) := ⟨rfl, rfl, rfl, by decide +kernel, rfl, by decide +kernel, by decide +kernel⟩
section
variable {P : Program} {w : World} {K : PySem.W.Frag} {mg : Str → Option Value} {base : Heap} {f : Addr} {fd : FuncData}
theorem ok_row_from (D : FnP K "_row_from" "_row_from" s_row_from f fd) (c_walks_from : CalX P w K mg base 1 "walks_from" spWalks) : FnOk P w K mg base (L2.CX P w) 2 f fd ["steps", "had"] spRowFrom := by
  have nd := sc_row_from.nd
  refine D.ok sc_row_from (fun vs H Q E h => ?_) (fun cdv A outer s H vs Q E hr h => ?_)
  · obtain ⟨ls, lh, m, steps, had, f, fs, k, ks, rfl, _⟩ := h
    rfl
  · obtain ⟨ls, lh, m, steps, had, f, fs, k, ks, rfl, tl, eh, inm, m16, few, A, kk⟩ := h
    have hu := hu_of hr
    obtain ⟨f_walks_from, fd_walks_from, ps_walks_from, F_walks_from, m_walks_from, k_walks_from, b_walks_from⟩ := c_walks_from.ex
    refine ⟨_, (pss_cons (ps_set (i := 2) nd rfl (Or.inr rfl) (pe_ix ix_list (pe_lc (own := [("step", 6)]) (g := (gName 6)) (tt := tTest (tOp (rIn K false) (tOp (rIxT K) (tVar 6) (tC (.int 1))) (tVar 1))) rfl nd (pi_list (pv 0)) (blkOk_by (own := [("step", 6)]) (N := N_row_from) (sc := defScope s_row_from) (by decide +kernel)) (fun _ _ _ _ _ => (pg_name (i := 6) nd rfl (Or.inl rfl))) (fun _ _ _ _ _ => (pts_one (pt_cmpR op_in_seq (pe_ix ix_tup (pv 6) pe_int (fun _ _ => rfl)) (pv 1) (by with_unfolding_all rfl)))) (fun _ _ _ _ _ => (pv 6))) pe_int (fun _ _ => rfl)))
      (pss_cons (ps_setLc (own := [("step", 6)]) (g := (gName 6)) (tt := tTest (tOp rNe (tOp (rIxT K) (tVar 6) (tC (.int 0))) (tOp (rIxT K) (tVar 2) (tC (.int 0))))) (i := 3) rfl nd rfl rfl (sw_true rfl rfl rfl (by decide +kernel)) (pi_list (pv 0)) (blkOk_by (own := [("step", 6)]) (N := N_row_from) (sc := defScope s_row_from) (by decide +kernel)) (fun _ _ _ _ _ => (pg_name (i := 6) nd rfl (Or.inl rfl))) (fun _ _ _ _ _ => (pts_one (pt_cmpR op_ne (pe_ix ix_tup (pv 6) pe_int (fun _ _ => rfl)) (pe_ix ix_tup (pv 2) pe_int (fun _ _ => rfl)) (nomark _)))) (fun _ _ _ _ _ => (pv 6)))
      (pss_cons (ps_set (i := 4) nd rfl (Or.inl rfl) (pe_call F_walks_from (hr.mono (by decide)) rfl m_walks_from k_walks_from b_walks_from .nil passF (pa_cons (pv 3) (pa_cons (pe_ix ix_tup (pv 2) pe_int (fun _ _ => rfl)) pa_nil))))
      (pss_cons (ps_set (i := 5) nd rfl (Or.inl rfl) (pe_ix ix_list (pe_lock (pe_lc (own := [("place", 7)]) (g := (gName 7)) (tt := tTest (tOp (rIn K false) (tVar 7) (tVar 1))) rfl nd (pi_keys (pv 4)) (blkOk_by (own := [("place", 7)]) (N := N_row_from) (sc := defScope s_row_from) (by decide +kernel)) (fun _ _ _ _ _ => (pg_name (i := 7) nd rfl (Or.inl rfl))) (fun _ _ _ _ _ => (pts_one (pt_cmpR op_in_seq (pv 7) (pv 1) (by with_unfolding_all rfl)))) (fun _ _ _ _ _ => (pv 7)))) pe_int (fun _ _ => rfl)))
      (pss_one (ps_ret (pe_op op_cat (pe_lst (pa_cons (pv 2) pa_nil)) (pe_dget hu (pv 4) (pv 5) (fun _ _ => rfl))))))))), ?_⟩
    refine at_seq (at_asg (at_op (lc_rows (fun st => decide (st.2.1 ∈ had)) (src_name rfl tl) (by omega) (fun _ => rfl) (fun _ => rfl) (fun r hr0 t H2 Qt sm ht q => ?_) (fun D0 H2 hD0 sm tf => ?_))))
    · refine ⟨_, rfl, t, _, _, _, rfl, rfl, SqT.of ht, atI_nat (j := 1) rfl, _, rfl, lh, _, rfl, .inl (SqL.of (sm _ _ eh)), rfl, flat_nat _, _, rfl, ?_⟩
      rw [inV_nat]
      exact q
    obtain ⟨vf, ef, tvf⟩ := tf
    rw [A.first] at tvf
    obtain ⟨tf, vf', rfl, ht⟩ : ∃ (tf : Addr) (vf' : List V), vf = V.ref tf :: vf' ∧ H2 tf = some (.tup (rowV f)) := by
      cases tvf with
      | cons h _ =>
        obtain ⟨t, rfl, ht⟩ := h
        exact ⟨t, _, rfl, ht⟩
    have fmem := (filter_head A.first).1
    have fb := inm _ (List.mem_map.mpr ⟨f, fmem, rfl⟩)
    refine ⟨D0, _, _, _, rfl, rfl, SqL.of ef, atI_nat (j := 0) rfl, ?_⟩
    dsimp only [gName]
    refine nice (σ' := [some (.ref ls), some (.ref lh), some (.ref tf), none, none, none, none, none]) rfl ?_
    clear ef tvf hD0
    have eh2 := sm _ _ eh
    have tl2 := tl_same tl sm
    refine at_seq (at_asg (lc_rows (fun st => decide (st.1 ≠ f.1)) (src_name rfl tl2) (by omega) (fun _ => rfl) (fun _ => rfl) (fun r hr0 t H3 Qt sm3 ht3 q => ?_) (fun D3 H3 hD3 sm3 to => ?_)))
    · refine ⟨_, rfl, t, _, _, _, rfl, rfl, SqT.of ht3, atI_nat (j := 0) rfl, _, rfl, tf, _, _, _, rfl, rfl, SqT.of (sm3 _ _ ht), atI_nat (j := 0) rfl, rfl, _, rfl, ?_⟩
      have dq : (!decide (V.int (r.1 : Int) = V.int (f.1 : Int))) = decide (r.1 ≠ f.1) := by
        rw [← decide_not]
        exact decide_eq_decide.mpr ⟨fun z y => z (by rw [y]), fun z y => z (Int.ofNat.inj (V.int.inj y))⟩
      rw [dq]
      exact q
    dsimp only [gName]
    refine nice (σ' := [some (.ref ls), some (.ref lh), some (.ref tf), some (.ref D3), none, none, none, none]) rfl ?_
    have inO : ∀ q ∈ ends (steps.filter fun st => decide (st.1 ≠ f.1)), q.1 < m ∧ q.2 < m := fun q hq => by
      obtain ⟨x, hx, rfl⟩ := List.mem_map.mp hq
      exact inm _ (List.mem_map.mpr ⟨x, (List.mem_filter.mp hx).1, rfl⟩)
    refine ⟨_, rfl, _, rfl, tf, _, _, _, rfl, rfl, SqT.of (sm3 _ _ ht), atI_nat (j := 2) rfl, D3, f.2.2, m, _, rfl, to, inO, fb.2, m16, fun dw kvs H4 hdw sm4 ed we => ?_⟩
    dsimp only [gName]
    refine nice (σ' := [some (.ref ls), some (.ref lh), some (.ref tf), some (.ref D3), some (.ref dw), none, none, none]) rfl ?_
    have smA := sm3.trans sm4
    have eh4 := smA _ _ eh2
    have ht4 := smA _ _ ht
    have smT := sm.trans smA
    have keys := wents_keys we
    have len := walks_len inO fb.2 m16
    have lk := wents_len we
    have tree := (walks_spec inO fb.2 m16).1
    have last := A.last
    have eqR := rowF_eq A
    generalize hW : walksF (steps.filter fun st => decide (st.1 ≠ f.1)) f.2.2 = W at *
    have kin := (filter_head last).1
    clear sm sm3 sm4 smA to inO eh2 ht tl2 hD3 hdw eh
    -- the first place that is had
    refine ⟨dw, .dK kvs, ed, trivial, fun od => ?_⟩
    refine ⟨_, rfl, dw, od, rfl, .inl ⟨kvs, upd_same, fun D5 hD5 => ?_⟩⟩
    obtain ⟨nDd, hD50⟩ := upd_none hD5
    refine lc_it walk_keys (fun j H' => H' D5 = some (.lst ((((wk W).take j).filter fun k => decide (k ∈ had)).map natV)) ∧ H' dw = some (.frz od (.dK kvs)) ∧ ∀ b o, b ≠ dw → H4 b = some o → H' b = some o)
      ⟨upd_same, (by rw [upd_ne nDd.symm]; exact upd_same), fun b o hb e => by rw [upd_ne (ne_of_none e hD50), upd_ne hb]; exact e⟩ (fun i H' _ ⟨_, z, _⟩ => z) ?_ ?_
    · rintro j x H5 H6 hj ⟨e1, e2, e3⟩ ⟨rfl, kk', v, hkv, rfl⟩
      obtain ⟨q, hq, rfl⟩ := keys_at keys hkv
      have nlh : lh ≠ dw := fun z => by
        rw [z, ed] at eh4
        cases eh4
      refine ⟨rfl, _, rfl, _, rfl, lh, _, rfl, .inl (SqL.of (e3 _ _ nlh eh4)), rfl, flat_nat _, _, rfl, ?_⟩
      have iv : inV (kV (Sum.inl (q : Int))) (had.map natV) = decide (q ∈ had) := inV_nat q had
      rw [iv, take_snoc hq, List.filter_append, List.map_append]
      have lj : ((((wk W).take j).filter fun k => decide (k ∈ had)).map natV).length ≤ j := by
        rw [List.length_map]
        exact Nat.le_trans (List.length_filter_le _ _) (by rw [List.length_take]; omega)
      have keep : ∀ v b o, b ≠ dw → H4 b = some o → upd H6 D5 v b = some o := fun v b o nb e => by
        rw [upd_ne (ne_of_none e hD50)]
        exact e3 b o nb e
      by_cases hin : q ∈ had
      · rw [decide_eq_true hin]
        refine ⟨_, rfl, _, e1, by rw [sizeLine_eq]; omega, ?_, by rw [upd_ne nDd.symm]; exact e2, keep _⟩
        rw [upd_same, List.filter_cons, if_pos (decide_eq_true hin)]
        rfl
      · rw [decide_eq_false hin]
        refine ⟨?_, e2, e3⟩
        rw [List.filter_cons, if_neg (by rw [decide_eq_false hin]; exact Bool.false_ne_true), e1]
        simp
    · rintro H5 ⟨e1, e2, e3⟩
      have lw : kvs.length = (wk W).length := by
        unfold wk
        rw [List.length_map]
        exact lk
      rw [lw, List.take_length, last] at e1
      have e1' : upd H5 dw (.dK kvs) D5 = some (.lst ((k :: ks).map natV)) := by rw [upd_ne nDd]; exact e1
      have smB : Same H4 (upd H5 dw (.dK kvs)) := fun b o e => by
        by_cases hb : b = dw
        · rw [hb, ed] at e
          cases e
          rw [hb]
          exact upd_same
        · rw [upd_ne hb]
          exact e3 b o hb e
      refine ⟨e2, D5, _, _, _, rfl, rfl, SqL.of e1', atI_nat (j := 0) rfl, ?_⟩
      have ed6 : upd H5 dw (.dK kvs) dw = some (.dK kvs) := upd_same
      have ht6 := smB _ _ ht4
      have we6 := wents_same we smB
      have smC := smT.trans smB
      generalize upd H5 dw (.dK kvs) = H6 at *
      obtain ⟨tw, g1, g2, g3, g4⟩ := wents_get we6 kin
      have gd : DGet H6 dw (natV k) (some (V.ref tw)) := by
        rw [← g1]
        exact DGet.k (k := Sum.inl (k : Int)) ed6
      have wl : (walkTo W k).length < W.length := (tree_run tree _ (walkTo_mem kin)).2.2
      have lg : g2.length < 16 := by
        rw [tups_len g4, List.length_map]
        omega
      refine ⟨_, rfl, (by show 1 ≤ sizeLine; decide), fun q1 hq1 => ?_⟩
      have c1 := same_new (o := .lst [V.ref tf]) hq1
      have gd1 : DGet (upd H6 q1 (.lst [V.ref tf])) dw (natV k) (some (V.ref tw)) := by
        rw [← g1]
        exact DGet.k (k := Sum.inl (k : Int)) (c1 _ _ ed6)
      refine ⟨_, rfl, _, rfl, dw, V.ref tw, rfl, gd1, q1, tw, _, _, rfl, rfl, upd_same, c1 _ _ g3, by rw [sizeLine_eq]; show 1 + g2.length ≤ _; omega, fun q2 hq2 => ?_⟩
      have c2 := c1.trans (same_new (o := .lst ([V.ref tf] ++ g2)) hq2)
      refine kk q2 _ ((smC.trans c1).free hq2) (smC.trans c2) ⟨_, upd_same, ?_⟩
      rw [eqR]
      exact .cons ⟨tf, rfl, c2 _ _ ht6⟩ (tups_ext (fun t xs e => c2 _ _ e) g4)
end
end K02

set_option Elab.async false
set_option linter.all false
set_option maxRecDepth 100000
set_option maxHeartbeats 4000000
namespace K02
open PySem PySem.Spec PyProof.Rows L2 Own
/-! ### _rows_of -/
abbrev NewT (H H' : Hp) (r : Addr) : List V → List (List TRow) → Prop := Paired fun v rs => ∃ t, v = V.ref t ∧ t ≠ r ∧ H t = none ∧ TL H' t (rs.map rowV)
theorem newT_ext {H H1 H2 : Hp} {r : Addr} : ∀ {vs : List V} {rss : List (List TRow)}, NewT H H1 r vs rss → (∀ t, V.ref t ∈ vs → t ≠ r → H t = none → ∀ xss, TL H1 t xss → TL H2 t xss) → NewT H H2 r vs rss
  | _, _, .nil, _ => .nil
  | _, _, .cons ⟨t, e, n, z, h⟩ q, k => .cons ⟨t, e, n, z, k t (by rw [e]; exact List.mem_cons_self ..) n z _ h⟩ (newT_ext q fun t ht => k t (List.mem_cons_of_mem _ ht))
theorem newT_snoc {H H' : Hp} {r t : Addr} {rs : List TRow} (n : t ≠ r) (z : H t = none) (h : TL H' t (rs.map rowV)) : ∀ {vs : List V} {rss : List (List TRow)}, NewT H H' r vs rss → NewT H H' r (vs ++ [V.ref t]) (rss ++ [rs])
  | _, _, .nil => .cons ⟨t, rfl, n, z, h⟩ .nil
  | _, _, .cons z0 q => .cons z0 (newT_snoc n z h q)
theorem newT_free {H H1 H2 : Hp} {r : Addr} (sm : Same H H1) : ∀ {vs : List V} {rss : List (List TRow)}, NewT H1 H2 r vs rss → NewT H H2 r vs rss
  | _, _, .nil => .nil
  | _, _, .cons ⟨t, e, n, z, h⟩ q => .cons ⟨t, e, n, sm.free z, h⟩ (newT_free sm q)
theorem newT_app {H H' : Hp} {r : Addr} : ∀ {vs vs' : List V} {rss rss' : List (List TRow)}, NewT H H' r vs rss → NewT H H' r vs' rss' → NewT H H' r (vs ++ vs') (rss ++ rss')
  | _, _, _, _, .nil, b => b
  | _, _, _, _, .cons z q, b => .cons z (newT_app q b)
def rowsOf (E : List TRow) (pc : List Nat) : List (List TRow) := rowsF (bothWays E).length (bothWays E) (pc.take 1)
def spRowsOf : Sp := fun vs H Q _ => ∃ (lp ls : Addr) (m : Nat) (E : List TRow) (pc : List Nat) (h : Nat), vs = [.ref lp, .ref ls] ∧ H lp = some (.lst (pc.map natV)) ∧ TL H ls ((bothWays E).map rowV) ∧ PieceI m E pc ∧ m ≤ 16 ∧ E.length ≤ 60 ∧ pc.take 1 = [h] ∧ h ∈ pc ∧
  ∀ (r : Addr) (zs : List V) (H' : Hp), H r = none → Same H H' → H' r = some (.lst zs) → NewT H H' r zs (rowsOf E pc) → Q (.ref r) H'
theorem cut_last (xs : List V) : cutV xs none (some (-1)) = xs.dropLast := by
  unfold cutV
  rw [HT.sIx_none, Nat.sub_zero, List.drop_zero, List.dropLast_eq_take]
  have z : HT.sIx xs.length xs.length (some (-1)) = xs.length - 1 := by
    show (if (-1 : Int) < 0 then ((-1 : Int) + (xs.length : Int)).toNat else min (-1 : Int).toNat xs.length) = _
    rw [if_pos (by decide)]
    omega
  rw [z]
theorem tups_init {H : Hp} {vs : List V} {xss : List (List V)} (t : Tups H vs xss) : Tups H vs.dropLast xss.dropLast := by
  induction t with
  | nil => exact .nil
  | cons a b ih =>
    cases b with
    | nil => exact .nil
    | cons c d => exact .cons a ih
theorem src_init {K : PySem.W.Frag} {a : Nat} {σ : L2.St} {H0 : Hp} {l : Addr} {rows : List TRow} (hl : σ[a]? = some (some (V.ref l))) (tl : TL H0 l (rows.map rowV)) : ∀ R, (∀ l H1, Same H0 H1 → TL H1 l (rows.dropLast.map rowV) → R (Itl K l) H1) → iList K (tSl (rSlL K) (tVar a) tNoPart (tPart (tUn (rU fun i => V.int (-i)) (tC (V.int 1))))) σ H0 R := fun R h => by
  obtain ⟨vs, el, tv⟩ := id tl
  refine ⟨_, hl, _, rfl, _, rfl, l, _, rfl, SqL.of el, fun S hS => ?_⟩
  have e : cutV vs none (some (-1)) = vs.dropLast := cut_last vs
  rw [e]
  have cS := same_new (o := .lst vs.dropLast) hS
  refine ⟨S, rfl, ⟨vs.dropLast, SqL.of upd_same⟩, h S _ cS ⟨vs.dropLast, upd_same, ?_⟩⟩
  have y := tups_init tv
  rw [← List.map_dropLast] at y
  exact tups_ext (fun t xs e => cS _ _ e) y
theorem src_tail {K : PySem.W.Frag} {a : Nat} {σ : L2.St} {H0 : Hp} {l : Addr} {rows : List TRow} (hl : σ[a]? = some (some (V.ref l))) (tl : TL H0 l (rows.map rowV)) : ∀ R, (∀ l H1, Same H0 H1 → TL H1 l (rows.tail.map rowV) → R (Itl K l) H1) → iList K (tSl (rSlL K) (tVar a) (tPart (tC (V.int 1))) tNoPart) σ H0 R := fun R h => by
  obtain ⟨vs, el, tv⟩ := id tl
  refine ⟨_, hl, _, rfl, l, _, rfl, SqL.of el, fun S hS => ?_⟩
  have e : cutV vs (some 1) none = vs.drop 1 := cut_drop vs 1
  rw [e]
  have cS := same_new (o := .lst (vs.drop 1)) hS
  refine ⟨S, rfl, ⟨vs.drop 1, SqL.of upd_same⟩, h S _ cS ⟨vs.drop 1, upd_same, ?_⟩⟩
  have y : Tups H0 (vs.drop 1) (rows.tail.map rowV) := by
    cases rows with
    | nil =>
      cases tv
      exact .nil
    | cons r rs =>
      cases tv with
      | cons a b => exact b
  exact tups_ext (fun t xs e => cS _ _ e) y
abbrev s_rows_of : Stmt := top 28
abbrev N_rows_of : List Str := ["piece", "steps", "told", "had", "row", "used", "step"]
theorem sc_rows_of : FnScope N_rows_of ["piece", "steps"] (defScope s_rows_of) := ⟨rfl, rfl, rfl, by decide +kernel, rfl, by decide +kernel, by decide +kernel⟩
section
variable {P : Program} {w : World} {K : PySem.W.Frag} {mg : Str → Option Value} {base : Heap} {f : Addr} {fd : FuncData}
theorem ok_rows_of (D : FnP K "_rows_of" "_rows_of" s_rows_of f fd) (c_row_from : CalX P w K mg base 2 "_row_from" spRowFrom) : FnOk P w K mg base (L2.CX P w) 3 f fd ["piece", "steps"] spRowsOf := by
  have nd := sc_rows_of.nd
  refine D.ok sc_rows_of (fun vs H Q E h => ?_) (fun cdv A outer s H vs Q E hr h => ?_)
  · obtain ⟨lp, ls, m, E, pc, h, rfl, _⟩ := h
    rfl
  · obtain ⟨lp, ls, m, E, pc, h, rfl, ep, tl, PI, m16, few, e1, hh, kk⟩ := h
    obtain ⟨f_row_from, fd_row_from, ps_row_from, F_row_from, m_row_from, k_row_from, b_row_from⟩ := c_row_from.ex
    refine ⟨_, (pss_cons (ps_set (i := 2) nd rfl (Or.inl rfl) (pe_lst pa_nil))
      (pss_cons (ps_set (i := 3) nd rfl (Or.inl rfl) (pe_slice sl_list (pv 0) po_none (po_some pe_int)))
      (pss_cons (ps_while (passes_of rfl) (pt_truth (pv 1) (by intro _; rfl)) (pss_cons (ps_set (i := 4) nd rfl (Or.inl rfl) (pe_call F_row_from (hr.mono (by decide)) rfl m_row_from k_row_from b_row_from .nil passF (pa_cons (pv 1) (pa_cons (pv 3) pa_nil))))
      (pss_cons (ps_expr (pe_bm PySem.F.plainAttrs_list PySem.F.slot_list_append PySem.F.type_list_append mt_append (pv 2) (pa_cons (pv 4) pa_nil)))
      (pss_cons (ps_expr (pe_bm PySem.F.plainAttrs_list PySem.F.slot_list_extend PySem.F.type_list_extend mt_extend (pv 3) (pa_cons (pe_lc (own := [("step", 6)]) (g := (gName 6)) (te := tOp (rIxT K) (tVar 6) (tC (.int 2))) rfl nd (pi_list (pe_slice sl_list (pv 4) po_none (po_some (pe_un un_neg pe_int)))) (blkOk_by (own := [("step", 6)]) (N := N_rows_of) (sc := defScope s_rows_of) (by decide +kernel)) (fun _ _ _ _ _ => (pg_name (i := 6) nd rfl (Or.inl rfl))) (fun _ _ _ _ _ => pts_nil) (fun _ _ _ _ _ => (pe_ix ix_tup (pv 6) pe_int (fun _ _ => rfl)))) pa_nil)))
      (pss_cons (ps_set (i := 5) nd rfl (Or.inr rfl) (pe_lc (own := [("step", 6)]) (g := (gName 6)) (te := tOp (rIxT K) (tVar 6) (tC (.int 0))) rfl nd (pi_list (pv 4)) (blkOk_by (own := [("step", 6)]) (N := N_rows_of) (sc := defScope s_rows_of) (by decide +kernel)) (fun _ _ _ _ _ => (pg_name (i := 6) nd rfl (Or.inl rfl))) (fun _ _ _ _ _ => pts_nil) (fun _ _ _ _ _ => (pe_ix ix_tup (pv 6) pe_int (fun _ _ => rfl)))))
      (pss_one (ps_setLc (own := [("step", 6)]) (g := (gName 6)) (tt := tTest (tOp (rIn K true) (tOp (rIxT K) (tVar 6) (tC (.int 0))) (tVar 5))) (i := 1) rfl nd rfl rfl (sw_true rfl rfl rfl (by decide +kernel)) (pi_list (pv 1)) (blkOk_by (own := [("step", 6)]) (N := N_rows_of) (sc := defScope s_rows_of) (by decide +kernel)) (fun _ _ _ _ _ => (pg_name (i := 6) nd rfl (Or.inl rfl))) (fun _ _ _ _ _ => (pts_one (pt_cmpR op_notIn_seq (pe_ix ix_tup (pv 6) pe_int (fun _ _ => rfl)) (pv 5) (by with_unfolding_all rfl)))) (fun _ _ _ _ _ => (pv 6)))))))))
      (pss_one (ps_ret (pv 2)))))), ?_⟩
    refine ⟨(by show 0 ≤ sizeLine; decide), fun da hda => ?_⟩
    have cd := same_new (o := .lst []) hda
    refine ⟨_, rfl, _, rfl, lp, _, rfl, SqL.of (cd _ _ ep), fun ha hha => ?_⟩
    have ch := same_new (o := .lst (cutV (pc.map natV) none (some 1))) hha
    have ed0 := ch _ _ (upd_same (H := H) (a := da) (o := .lst []))
    have eh0 := upd_same (H := upd H da (.lst [])) (a := ha) (o := .lst (cutV (pc.map natV) none (some 1)))
    have ecut : cutV (pc.map natV) none (some 1) = [natV h] := by
      have z := cut_take (pc.map natV) 1
      rw [← List.map_take, e1] at z
      exact z
    rw [ecut] at ch eh0 ed0 ⊢
    have nhd : ha ≠ da := fun z => by
      rw [z, upd_same] at hha
      cases hha
    have hha0 : H ha = none := cd.free hha
    have sm0 := cd.trans ch
    generalize upd (upd H da (.lst [])) ha (.lst [natV h]) = H0 at *
    clear cd ch hha
    dsimp only [gName]
    refine nice (σ' := [some (.ref lp), some (.ref ls), some (.ref da), some (.ref ha), none, none, none]) rfl ?_
    have R0 := rows_start PI hh
    have N120 : (bothWays E).length ≤ 120 := by
      rw [both_len]
      omega
    have nls : ∀ {x : Addr}, H x = none → ls ≠ x := fun {x} hx z => by
      obtain ⟨_, e, _⟩ := tl
      rw [z, hx] at e
      cases e
    refine ⟨fun mu σ H' => ∃ (l2 : Addr) (st : List TRow) (had : List Nat) (R : List (List TRow)) (zs : List V) (u4 u5 : Option V), σ = [some (.ref lp), some (.ref l2), some (.ref da), some (.ref ha), u4, u5, none] ∧ TL H' l2 (st.map rowV) ∧ l2 ≠ da ∧ l2 ≠ ha ∧ H' da = some (.lst zs) ∧ NewT H H' da zs R ∧ V.ref ha ∉ zs ∧ H' ha = some (.lst (had.map natV)) ∧ RowsI E pc st had R.flatten ∧ R ++ rowsF mu st had = rowsOf E pc ∧ st.length ≤ mu ∧ mu ≤ 120 ∧ had.length + 17 * mu ≤ 3000 ∧ zs.length + mu ≤ 300 ∧ Same H H',
      ⟨(bothWays E).length, ls, bothWays E, [h], [], [], none, none, rfl, tl_same tl sm0, nls hda, nls hha0, ed0, .nil, List.not_mem_nil, eh0, R0, by unfold rowsOf; rw [e1]; rfl, Nat.le_refl _, N120, by show 1 + _ ≤ _; omega, by show 0 + _ ≤ _; omega, sm0⟩, ?_⟩
    clear R0 N120 nls sm0 ed0 eh0 ecut tl few e1 hh ep H0
    rintro mu σ H1 ⟨l2, st, had, R, zs, u4, u5, rfl, tl, n1, n2, ed, nt, hz, eh, RI, eqF, ln, mu120, lh, lz, sm⟩
    obtain ⟨v1, el, tv⟩ := id tl
    have lv1 : v1.length = st.length := by rw [tups_len tv, List.length_map]
    refine ⟨_, rfl, !v1.isEmpty, .inl ⟨_, SqL.of el, rfl⟩, ?_⟩
    cases st with
    | nil =>
      have e0 : v1 = [] := List.length_eq_zero_iff.mp lv1
      subst e0
      have e2 : rowsF mu [] had = [] := by cases mu <;> rfl
      rw [e2, List.append_nil] at eqF
      rw [eqF] at nt
      exact ⟨_, rfl, kk da zs H1 hda sm ed nt⟩
    | cons s0 st0 =>
      have ev : (!v1.isEmpty) = true := by
        cases v1 with
        | nil => cases lv1
        | cons _ _ => rfl
      rw [ev]
      have ne : s0 :: st0 ≠ [] := by simp
      generalize hst : s0 :: st0 = st at *
      clear hst v1 el tv lv1 ev
      have pos : 1 ≤ st.length := by
        cases st with
        | nil => exact (ne rfl).elim
        | cons _ _ => exact Nat.succ_le_succ (Nat.zero_le _)
      obtain ⟨n, rfl⟩ : ∃ n, mu = n + 1 := ⟨mu - 1, by omega⟩
      obtain ⟨fr, fs, k, ks, AT⟩ := row_at PI m16 RI ne
      have RW := row_is PI m16 RI AT
      have eqF2 : (R ++ [rowF st had]) ++ rowsF n (leftF st (rowF st had)) (moreF had (rowF st had)) = rowsOf E pc := by
        rw [← eqF]
        have e3 : rowsF (n + 1) st had = rowF st had :: rowsF n (leftF st (rowF st had)) (moreF had (rowF st had)) := by
          show (if st.isEmpty = true then [] else _) = _
          rw [if_neg (fun z => ne (List.isEmpty_iff.mp z))]
        rw [e3, List.append_assoc]
        rfl
      have inS : ∀ q ∈ ends st, q.1 < m ∧ q.2 < m := fun q hq => by
        obtain ⟨x, hx, rfl⟩ := List.mem_map.mp hq
        have z := both_pc PI (rowsI_in PI RI x hx).1
        exact ⟨PI.lt _ z.1, PI.lt _ z.2⟩
      have RN := row_next PI RI RW
      have less := left_less RW
      generalize hrow : rowF st had = row at *
      refine ⟨fun σ' H' => ∃ (l2 : Addr) (st : List TRow) (had : List Nat) (R : List (List TRow)) (zs : List V) (u4 u5 : Option V), σ' = [some (.ref lp), some (.ref l2), some (.ref da), some (.ref ha), u4, u5, none] ∧ TL H' l2 (st.map rowV) ∧ l2 ≠ da ∧ l2 ≠ ha ∧ H' da = some (.lst zs) ∧ NewT H H' da zs R ∧ V.ref ha ∉ zs ∧ H' ha = some (.lst (had.map natV)) ∧ RowsI E pc st had R.flatten ∧ R ++ rowsF n st had = rowsOf E pc ∧ st.length ≤ n ∧ n ≤ 120 ∧ had.length + 17 * n ≤ 3000 ∧ zs.length + n ≤ 300 ∧ Same H H',
        fun σ' H' z => ⟨n, by omega, z⟩, ?_⟩
      refine ⟨_, rfl, _, rfl, l2, ha, m, st, had, fr, fs, k, ks, rfl, tl, eh, inS, m16, by omega, AT, fun rr H2 hrr sm2 tr => ?_⟩
      rw [hrow] at tr
      clear hrow AT inS ne RI eqF
      dsimp only [gName]
      refine nice (σ' := [some (.ref lp), some (.ref l2), some (.ref da), some (.ref ha), some (.ref rr), u5, none]) rfl ?_
      have few17 := RW.few
      have ed2 := sm2 _ _ ed
      have eh2 := sm2 _ _ eh
      have nt2 := newT_ext nt fun t _ _ _ xss z => tl_same z sm2
      have tl2 := tl_same tl sm2
      have smA := sm.trans sm2
      have nrd : rr ≠ da := fun z => by
        rw [z, ed] at hrr
        cases hrr
      have nrh : rr ≠ ha := fun z => by
        rw [z, eh] at hrr
        cases hrr
      have hrr0 := sm.free hrr
      clear ed eh nt tl sm sm2 hrr H1
      refine ⟨_, rfl, .inl ⟨rfl, _, SqL.of ed2⟩, _, rfl, da, _, _, rfl, rfl, ed2, by rw [sizeLine_eq]; omega, ?_⟩
      have nt3 : NewT H (upd H2 da (.lst (zs ++ [V.ref rr]))) da (zs ++ [V.ref rr]) (R ++ [row]) := newT_ext (newT_snoc nrd hrr0 tr nt2) fun t _ n _ xss z => tl_over z ed2 n
      have tr3 := tl_over (o := .lst (zs ++ [V.ref rr])) tr ed2 nrd
      have tl3 := tl_over (o := .lst (zs ++ [V.ref rr])) tl2 ed2 n1
      have ed3 := upd_same (H := H2) (a := da) (o := .lst (zs ++ [V.ref rr]))
      have eh3 : upd H2 da (.lst (zs ++ [V.ref rr])) ha = some (.lst (had.map natV)) := by rw [upd_ne nhd]; exact eh2
      have sm3 : Same H (upd H2 da (.lst (zs ++ [V.ref rr]))) := same_over hda smA
      have hz3 : V.ref ha ∉ zs ++ [V.ref rr] := fun z => by
        rcases List.mem_append.mp z with z | z
        · exact hz z
        · exact nrh (V.ref.inj (List.mem_singleton.mp z)).symm
      generalize upd H2 da (.lst (zs ++ [V.ref rr])) = H3 at *
      clear nt2 tr tl2 ed2 eh2 smA
      -- had grows
      refine ⟨_, rfl, .inl ⟨rfl, _, SqL.of eh3⟩, ?_⟩
      refine lc_nums (K := K) (rows := row.dropLast) (fun r => r.2.2) (fun Rr hR => ?_) (by rw [List.length_dropLast]; omega) (fun _ => rfl) (fun r hr0 t H4 Qt sm4 ht q => ?_) (fun D4 H4 hD4 sm4 e4 => ?_)
      · obtain ⟨vr, er, tvr⟩ := id tr3
        refine ⟨_, rfl, _, rfl, _, rfl, rr, _, rfl, SqL.of er, fun S hS => ?_⟩
        have cS := same_new (o := .lst (cutV vr none (some (-1)))) hS
        have eS := upd_same (H := H3) (a := S) (o := .lst (cutV vr none (some (-1))))
        rw [cut_last] at cS eS
        refine ⟨S, rfl, ⟨vr.dropLast, SqL.of (by rw [cut_last]; exact eS)⟩, hR S _ (by rw [cut_last]; exact cS) ⟨vr.dropLast, by rw [cut_last]; exact eS, ?_⟩⟩
        rw [cut_last]
        have z : ∀ (vs : List V) (xss : List (List V)), Tups H3 vs xss → Tups H3 vs.dropLast xss.dropLast := fun vs xss t => by
          induction t with
          | nil => exact .nil
          | cons a b ih =>
            cases b with
            | nil => exact .nil
            | cons c d => exact .cons a ih
        have y := z _ _ tvr
        rw [← List.map_dropLast] at y
        exact tups_ext (fun t xs e => cS _ _ e) y
      · exact ⟨_, rfl, t, _, _, _, rfl, rfl, SqT.of ht, atI_nat (j := 2) rfl, q⟩
      have eh4 := sm4 _ _ eh3
      have ed4 := sm4 _ _ ed3
      have nt4 := newT_ext nt3 fun t _ _ _ xss z => tl_same z sm4
      have tr4 := tl_same tr3 sm4
      have tl4 := tl_same tl3 sm4
      have sm5 := sm3.trans sm4
      have ndl : row.dropLast.length ≤ 17 := by
        rw [List.length_dropLast]
        omega
      refine ⟨ha, D4, _, _, rfl, rfl, eh4, e4, by rw [List.length_map, List.length_map, List.length_map, sizeLine_eq]; omega, ?_⟩
      have emore : had.map natV ++ (row.dropLast.map fun r => r.2.2).map natV = (moreF had row).map natV := by
        unfold moreF
        rw [List.map_append]
      rw [emore]
      have nt6 : NewT H (upd H4 ha (.lst ((moreF had row).map natV))) da (zs ++ [V.ref rr]) (R ++ [row]) := newT_ext nt4 fun t ht _ _ xss z => tl_over z eh4 fun y => hz3 (by rw [← y]; exact ht)
      have tr6 := tl_over (o := .lst ((moreF had row).map natV)) tr4 eh4 nrh
      have tl6 := tl_over (o := .lst ((moreF had row).map natV)) tl4 eh4 n2
      have ed6 : upd H4 ha (.lst ((moreF had row).map natV)) da = some (.lst (zs ++ [V.ref rr])) := by rw [upd_ne nhd.symm]; exact ed4
      have eh6 := upd_same (H := H4) (a := ha) (o := .lst ((moreF had row).map natV))
      have sm6 : Same H (upd H4 ha (.lst ((moreF had row).map natV))) := same_over hha0 sm5
      generalize upd H4 ha (.lst ((moreF had row).map natV)) = H6 at *
      clear emore ed4 eh4 nt4 tr4 tl4 sm5 sm4 hD4 e4 ed3 eh3 nt3 tr3 tl3 sm3 H3 H4
      -- what is used, what is left
      refine at_seq (at_asg (lc_nums (K := K) (rows := row) (fun r => r.1) (src_name rfl tr6) (by omega) (fun _ => rfl) (fun r hr0 t H7 Qt sm7 ht q => ⟨_, rfl, t, _, _, _, rfl, rfl, SqT.of ht, atI_nat (j := 0) rfl, q⟩) (fun ua H7 hua sm7 eu => ?_)))
      dsimp only [gName]
      refine nice (σ' := [some (.ref lp), some (.ref l2), some (.ref da), some (.ref ha), some (.ref rr), some (.ref ua), none]) rfl ?_
      refine at_asg (lc_rows (fun r => decide (r.1 ∉ row.map (·.1))) (src_name rfl (tl_same tl6 sm7)) (by omega) (fun _ => rfl) (fun _ => rfl) (fun r hr0 t H8 Qt sm8 ht q => ?_) (fun D8 H8 hD8 sm8 t8 => ?_))
      · refine ⟨_, rfl, t, _, _, _, rfl, rfl, SqT.of ht, atI_nat (j := 0) rfl, _, rfl, ua, _, rfl, .inl (SqL.of (sm8 _ _ eu)), rfl, flat_nat _, _, rfl, ?_⟩
        have iv : inV (.int (r.1 : Int)) ((row.map fun r => r.1).map natV) = decide (r.1 ∈ row.map fun r => r.1) := inV_nat _ _
        rw [iv, if_pos rfl, ← decide_not]
        exact q
      · have smB := sm7.trans sm8
        have nD : ∀ {x xs}, H6 x = some (.lst xs) → D8 ≠ x := fun {x xs} e z => by
          have y := sm7 _ _ e
          rw [← z, hD8] at y
          cases y
        refine ⟨D8, leftF st row, moreF had row, R ++ [row], zs ++ [V.ref rr], _, _, rfl, t8, nD ed6, nD eh6, smB _ _ ed6, newT_ext nt6 fun t _ _ _ xss z => tl_same z smB, hz3, smB _ _ eh6, ?_, eqF2, by omega, by omega, ?_, ?_, sm6.trans smB⟩
        · rw [List.flatten_append]
          have e9 : [row].flatten = row := by simp
          rw [e9]
          exact RN
        · unfold moreF
          rw [List.length_append, List.length_map]
          omega
        · rw [List.length_append]
          show zs.length + 1 + n ≤ 300
          omega
end
end K02

set_option Elab.async false
set_option linter.all false
set_option maxRecDepth 100000
set_option maxHeartbeats 4000000
namespace K02
open PySem PySem.Spec PyProof.Rows L2 Own
/-! ### handles -/
def spHandles (C : Addr) : Sp := fun vs H Q _ => ∃ (p d : Addr) (m : Nat) (rows : List TRow) (n : Nat), vs = [.ref p] ∧ TownAt C H p d m rows n ∧
  ∀ (r : Addr) (zs : List V) (H' : Hp), H r = none → Same H H' → H' r = some (.lst zs) → NewT H H' r zs (handlesF m rows) → Q (.ref r) H'
theorem rowsF_len : ∀ (n : Nat) (st : List TRow) (had : List Nat), (rowsF n st had).length ≤ n
  | 0, _, _ => Nat.le_refl _
  | n + 1, st, had => by
    unfold rowsF
    split
    · exact Nat.zero_le _
    · exact Nat.succ_le_succ (rowsF_len n _ _)
theorem newT_re {H H1 H2 : Hp} {r r' : Addr} {o : HO} (sm : Same H H1) (e : H1 r = some o) : ∀ {vs : List V} {rss : List (List TRow)}, NewT H1 H2 r' vs rss → NewT H H2 r vs rss
  | _, _, .nil => .nil
  | _, _, .cons ⟨t, a, n, z, h⟩ q => .cons ⟨t, a, fun y => (by rw [y, e] at z; cases z), sm.free z, h⟩ (newT_re sm e q)
abbrev s_handles : Stmt := top 29
abbrev N_handles : List Str := ["town", "between", "steps", "told", "piece", "row", "step"]
theorem sc_handles : FnScope N_handles ["town"] (defScope s_handles) := ⟨rfl, rfl, rfl, by decide +kernel, rfl, by decide +kernel, by decide +kernel⟩
section
variable {P : Program} {w : World} {K : PySem.W.Frag} {mg : Str → Option Value} {base : Heap} {f : Addr} {fd : FuncData}
theorem ok_handles (D : FnP K "handles" "handles" s_handles f fd) (c_parting : CalX P w K mg base 5 "parting" (spParting (gA K "Town"))) (c_pieces : CalX P w K mg base 5 "pieces" (spPieces (gA K "Town"))) (c_both_ways : CalX P w K mg base 1 "both_ways" spBoth) (c_rows_of : CalX P w K mg base 3 "_rows_of" spRowsOf)
    (c_Town_streets : MetX P w K mg base 1 (gA K "Town") "streets" (spStreets (gA K "Town"))) : FnOk P w K mg base (L2.CX P w) 6 f fd ["town"] (spHandles (gA K "Town")) := by
  have nd := sc_handles.nd
  refine D.ok sc_handles (fun vs H Q E h => ?_) (fun cdv A outer s H vs Q E hr h => ?_)
  · obtain ⟨p, d, m, rows, n, rfl, _⟩ := h
    rfl
  · obtain ⟨p, d, m, rows, n, rfl, W, kk⟩ := h
    obtain ⟨f_parting, fd_parting, ps_parting, F_parting, m_parting, k_parting, b_parting⟩ := c_parting.ex
    obtain ⟨f_pieces, fd_pieces, ps_pieces, F_pieces, m_pieces, k_pieces, b_pieces⟩ := c_pieces.ex
    obtain ⟨f_both_ways, fd_both_ways, ps_both_ways, F_both_ways, m_both_ways, k_both_ways, b_both_ways⟩ := c_both_ways.ex
    obtain ⟨f_rows_of, fd_rows_of, ps_rows_of, F_rows_of, m_rows_of, k_rows_of, b_rows_of⟩ := c_rows_of.ex
    obtain ⟨f_Town_streets, fd_Town_streets, ps_Town_streets, c_Town_streets, M_Town_streets, F_Town_streets, b_Town_streets⟩ := c_Town_streets.ex
    refine ⟨_, (pss_cons (ps_set (i := 1) nd rfl (Or.inr rfl) (pe_call F_parting (hr.mono (by decide)) rfl m_parting k_parting b_parting .nil passF (pa_cons (pv 0) pa_nil)))
      (pss_cons (ps_set (i := 2) nd rfl (Or.inl rfl) (pe_call F_both_ways (hr.mono (by decide)) rfl m_both_ways k_both_ways b_both_ways .nil passF (pa_cons (pe_lc (own := [("row", 5)]) (g := (gName 5)) (tt := tTest (tOp (rIn K true) (tOp (rIxT K) (tVar 5) (tC (.int 0))) (tVar 1))) rfl nd (pi_list (pe_meth0 (pv 0) c_Town_streets M_Town_streets F_Town_streets (hr.mono (by decide)) b_Town_streets .nil passF)) (blkOk_by (own := [("row", 5)]) (N := N_handles) (sc := defScope s_handles) (by decide +kernel)) (fun _ _ _ _ _ => (pg_name (i := 5) nd rfl (Or.inl rfl))) (fun _ _ _ _ _ => (pts_one (pt_cmpR op_notIn_seq (pe_ix ix_tup (pv 5) pe_int (fun _ _ => rfl)) (pv 1) (by with_unfolding_all rfl)))) (fun _ _ _ _ _ => (pv 5))) pa_nil)))
      (pss_cons (ps_set (i := 3) nd rfl (Or.inl rfl) (pe_lst pa_nil))
      (pss_cons (ps_for (passes_of rfl) rfl (pi_list (pe_call F_pieces (hr.mono (by decide)) rfl m_pieces k_pieces b_pieces .nil passF (pa_cons (pv 0) pa_nil))) (pg_name (i := 4) nd rfl (Or.inr rfl)) (pss_one (ps_expr (pe_bm PySem.F.plainAttrs_list PySem.F.slot_list_extend PySem.F.type_list_extend mt_extend (pv 3) (pa_cons (pe_call F_rows_of (hr.mono (by decide)) rfl m_rows_of k_rows_of b_rows_of .nil passF (pa_cons (pv 4) (pa_cons (pe_lc (own := [("step", 6)]) (g := (gName 6)) (tt := tTest (tOp (rIn K false) (tOp (rIxT K) (tVar 6) (tC (.int 1))) (tVar 4))) rfl nd (pi_list (pv 2)) (blkOk_by (own := [("step", 6)]) (N := N_handles) (sc := defScope s_handles) (by decide +kernel)) (fun _ _ _ _ _ => (pg_name (i := 6) nd rfl (Or.inl rfl))) (fun _ _ _ _ _ => (pts_one (pt_cmpR op_in_seq (pe_ix ix_tup (pv 6) pe_int (fun _ _ => rfl)) (pv 4) (by with_unfolding_all rfl)))) (fun _ _ _ _ _ => (pv 6))) pa_nil))) pa_nil)))))
      (pss_one (ps_ret (pv 3))))))), ?_⟩
    have u := rise_one W.ok.rise
    have inm := town_inm W
    have m1 := W.pm.1
    have m16 := W.pm.2
    refine ⟨_, rfl, p, d, m, rows, n, rfl, W, fun bl H1 hbl sm1 eb => ?_⟩
    dsimp only [gName]
    refine nice (σ' := [some (.ref p), some (.ref bl), none, none, none, none, none]) rfl ?_
    have W1 := W.same sm1
    obtain ⟨dx, hp1⟩ := W1.ob
    refine at_seq (at_asg (at_call (at_cons ?_)))
    refine lc_rows (K := K) (rows := rows) (fun r => decide (r.1 ∉ (rows.filter (bridge rows)).map (·.1))) (fun Rr hR => ?_) (by have := W.ok.few; omega) (fun _ => rfl) (fun _ => rfl) (fun r hr0 t H3 Qt sm3 ht q => ?_) (fun kl H2 hkl sm2 tk => ?_)
    · refine ⟨_, rfl, p, dx, _, rfl, hp1, tF_no _ _ _ (by decide +kernel) (by decide +kernel) (by decide +kernel), p, d, m, rows, n, rfl, W1, fun l H3 hl sm3 tl => ?_⟩
      obtain ⟨vs, el, tv⟩ := id tl
      exact ⟨l, rfl, ⟨vs, SqL.of el⟩, hR l H3 sm3 tl⟩
    · refine ⟨_, rfl, t, _, _, _, rfl, rfl, SqT.of ht, atI_nat (j := 0) rfl, _, rfl, bl, _, rfl, .inl (SqL.of (sm3 _ _ eb)), rfl, flat_nat _, _, rfl, ?_⟩
      have iv : inV (.int (r.1 : Int)) (((rows.filter (bridge rows)).map (·.1)).map natV) = decide (r.1 ∈ (rows.filter (bridge rows)).map (·.1)) := inV_nat _ _
      rw [iv, if_pos rfl, ← decide_not]
      exact q
    rw [(solid_kept rows u).2] at tk
    have lsol : (solid rows).length ≤ 60 := Nat.le_trans (List.length_filter_le _ _) W.ok.few
    refine ⟨kl, solid rows, rfl, tk, lsol, fun sl H3 hsl sm3 ts => ?_⟩
    dsimp only [gName]
    refine nice (σ' := [some (.ref p), some (.ref bl), some (.ref sl), none, none, none, none]) rfl ?_
    have sm03 := (sm1.trans sm2).trans sm3
    refine ⟨(by show 0 ≤ sizeLine; decide), fun da hda => ?_⟩
    have cd := same_new (o := .lst []) hda
    have ed := upd_same (H := H3) (a := da) (o := .lst [])
    have hda0 := sm03.free hda
    have ts4 := tl_same ts cd
    have nsl : sl ≠ da := fun z => by
      obtain ⟨_, e, _⟩ := ts
      rw [z, hda] at e
      cases e
    have sm04 := sm03.trans cd
    generalize upd H3 da (.lst []) = H4 at *
    clear hda cd ts tk sm03 sm1 sm2 sm3 hp1 hkl hsl hbl W1 eb
    have W4 := W.same sm04
    dsimp only [gName]
    refine nice (σ' := [some (.ref p), some (.ref bl), some (.ref sl), some (.ref da), none, none, none]) rfl ?_
    refine at_seq ?_
    refine ⟨_, rfl, p, d, m, rows, n, rfl, W4, fun pl pv H5 hpl sm5 ep np => ?_⟩
    have lpv : pv.length = (piecesOf m rows).length := by
      rw [Paired.length np]
      unfold natL
      rw [List.length_map]
    have lp16 : (piecesOf m rows).length ≤ 16 := Nat.le_trans parts_len m16
    refine ⟨pl, rfl, ⟨pv, SqL.of ep⟩, for_it walk_list (fun i σ' H' => ∃ (zs : List V) (u4 : Option V), σ' = [some (.ref p), some (.ref bl), some (.ref sl), some (.ref da), u4, none, none] ∧ H' da = some (.lst zs) ∧ NewT H H' da zs (((piecesOf m rows).take i).flatMap (pieceRows (solid rows))) ∧ zs.length ≤ 120 * i ∧ Same H H' ∧ (∀ x o, x ≠ da → H5 x = some o → H' x = some o))
      ⟨[], none, rfl, sm5 _ _ ed, .nil, Nat.zero_le _, sm04.trans sm5, fun _ _ _ e => e⟩ (fun i σ' H' _ ⟨_, _, _, e, _, _, _, z⟩ => SqL.of (z _ _ (fun y => by rw [← y, hpl] at ed; cases ed) ep)) ?_ ?_⟩
    · rintro i x σ H6 H7 hi ⟨zs, u4, rfl, e6, n6, l6, sm6, keep⟩ ⟨rfl, hx⟩
      obtain ⟨t, ys, hx1, hy, nt, z1, z2⟩ := newL_get np hi
      rw [hx] at hx1
      cases hx1
      obtain ⟨pc, hpc⟩ : ∃ pc, (piecesOf m rows)[i]? = some pc := ⟨_, List.getElem?_eq_getElem (by omega)⟩
      have ey : ys = pc.map natV := by
        unfold natL at hy
        rw [List.getElem?_map, hpc] at hy
        exact (Option.some.inj hy).symm
      subst ey
      have hpc2 := hpc
      rw [pieces_eq m u, List.getElem?_map] at hpc2
      obtain ⟨h, hh⟩ : ∃ h, (heads m (ends (solid rows)))[i]? = some h := by
        cases z : (heads m (ends (solid rows)))[i]? with
        | none =>
          rw [z] at hpc2
          cases hpc2
        | some h => exact ⟨h, rfl⟩
      rw [hh] at hpc2
      have epc : cls m (ends (solid rows)) h = pc := Option.some.inj hpc2
      obtain ⟨hm, hl⟩ := mem_heads.mp (List.mem_of_getElem? hh)
      have PI := piece_I u inm h
      have tk := cls_take hm hl
      have hin : h ∈ cls m (ends (solid rows)) h := mem_cls.mpr ⟨hm, .stay _⟩
      have inS : ∀ q ∈ ends (solid rows), q.1 < m ∧ q.2 < m := fun q hq => by
        obtain ⟨x, hx, e⟩ := List.mem_map.mp hq
        exact inm q (List.mem_map.mpr ⟨x, (solid_in.mp hx).1, e⟩)
      have bf := both_filterP (fun x => decide (x ∈ cls m (ends (solid rows)) h)) (solid rows) fun r hr => decide_eq_decide.mpr (cls_ends (h := h) inS hr)
      rw [epc] at PI tk hin bf
      have nta : t ≠ da := fun y => by
        rw [y, sm5 _ _ ed] at z2
        have := (V.ref.inj (congrArg V.ref y))
        rw [y] at z1
        rw [ed] at z1
        cases z1
      have ep7 := keep _ _ nta z2
      have ts7 : TL H7 sl ((bothWays (solid rows)).map rowV) := by
        obtain ⟨vs, el, tv⟩ := tl_same ts4 sm5
        exact ⟨vs, keep _ _ nsl el, tups_ext (fun t xs e => keep _ _ (ne_of e (sm5 _ _ ed) (by intro z; cases z)) e) tv⟩
      dsimp only [gName]
      refine ⟨_, rfl, .inl ⟨rfl, _, SqL.of e6⟩, _, rfl, ?_⟩
      refine lc_rows (K := K) (rows := bothWays (solid rows)) (fun st => decide (st.2.1 ∈ pc)) (src_name rfl ts7) (by rw [both_len]; omega) (fun _ => rfl) (fun _ => rfl) (fun r hr0 t' H8 Qt sm8 ht q => ?_) (fun D8 H8 hD8 sm8 t8 => ?_)
      · refine ⟨_, rfl, t', _, _, _, rfl, rfl, SqT.of ht, atI_nat (j := 1) rfl, _, rfl, t, _, rfl, .inl (SqL.of (sm8 _ _ ep7)), rfl, flat_nat _, _, rfl, ?_⟩
        have iv : inV (.int (r.2.1 : Int)) (pc.map natV) = decide (r.2.1 ∈ pc) := inV_nat _ _
        rw [iv]
        exact q
      · have e9 : (bothWays (solid rows)).filter (fun st => decide (st.2.1 ∈ pc)) = bothWays (pieceE (solid rows) pc) := bf
        rw [e9] at t8
        refine ⟨t, D8, m, pieceE (solid rows) pc, pc, h, rfl, sm8 _ _ ep7, t8, PI, m16, Nat.le_trans (List.length_filter_le _ _) lsol, tk, hin, fun rr zs' H9 hrr sm9 er nr => ?_⟩
        have smX := sm8.trans sm9
        have lz' : zs'.length ≤ 120 := by
          rw [Paired.length nr]
          refine Nat.le_trans (rowsF_len _ _ _) ?_
          rw [both_len]
          have := List.length_filter_le (fun r : TRow => decide (r.2.1 ∈ pc)) (solid rows)
          show 2 * ((solid rows).filter fun r : TRow => decide (r.2.1 ∈ pc)).length ≤ 120
          omega
        refine ⟨da, rr, zs, zs', rfl, rfl, smX _ _ e6, er, by rw [sizeLine_eq]; omega, ?_⟩
        have e6' := smX _ _ e6
        have nn : NewT H H9 da (zs ++ zs') (((piecesOf m rows).take (i + 1)).flatMap (pieceRows (solid rows))) := by
          rw [take_snoc hpc, List.flatMap_append]
          refine newT_app (newT_ext n6 fun t _ _ _ xss z => tl_same z smX) ?_
          have z := newT_re (r := da) (sm6.trans sm8) (sm8 _ _ e6) nr
          have e10 : List.flatMap (pieceRows (solid rows)) [pc] = rowsOf (pieceE (solid rows) pc) pc := by
            show pieceRows (solid rows) pc ++ [] = _
            rw [List.append_nil]
            rfl
          rw [e10]
          exact z
        refine ⟨zs ++ zs', _, rfl, upd_same, newT_ext nn fun t _ n _ xss z => tl_over z e6' n, by rw [List.length_append]; omega, same_over hda0 (sm6.trans smX), fun x o nx e => ?_⟩
        rw [upd_ne nx]
        exact smX _ _ (keep x o nx e)
    · rintro σ' H6 ⟨zs, u4, rfl, e6, n6, _, sm6, _⟩
      rw [List.take_of_length_le (by omega)] at n6
      exact ⟨_, rfl, kk da zs H6 hda0 sm6 e6 n6⟩
end
end K02

set_option Elab.async false
set_option linter.all false
set_option maxRecDepth 100000
set_option maxHeartbeats 4000000
namespace K02
open PySem PySem.Spec PyProof.Rows L2 Own
/-! ### ends, and a walk in depth -/
structure TxtLN (mg : Str → Option Value) : Prop where
  f_len : mg "len" = none
def outB (ys : List Nat) (r : TRow) : Bool := decide (r.2.1 ∈ ys) || decide (r.2.2 ∈ ys)
def spLeading : Sp := fun vs H Q _ => ∃ (pc bl : Addr) (ys : List Nat) (bs : List TRow), vs = [.ref pc, .ref bl] ∧ H pc = some (.lst (ys.map natV)) ∧ TL H bl (bs.map rowV) ∧ bs.length ≤ 60 ∧
  ∀ H', Same H H' → Q (.int ((bs.filter (outB ys)).length : Nat)) H'
def spDepth : Sp := fun vs H Q _ => ∃ (l : Addr) (p : Nat) (steps : List TRow), vs = [.ref l, natV p] ∧ TL H l (steps.map rowV) ∧ steps.length ≤ 120 ∧
  ∀ (r : Addr) (H' : Hp), H r = none → Same H H' → H' r = some (.lst ((inDepthF steps p).map natV)) → Q (.ref r) H'
abbrev s_leading_out : Stmt := top 10
abbrev N_leading_out : List Str := ["piece", "between", "row"]
theorem sc_leading_out : FnScope N_leading_out ["piece", "between"] (defScope s_leading_out) := ⟨rfl, rfl, rfl, by decide +kernel, rfl, by decide +kernel, by decide +kernel⟩
abbrev s_in_depth : Stmt := top 24
abbrev N_in_depth : List Str := ["steps", "place", "told", "waiting", "at", "step"]
theorem sc_in_depth : FnScope N_in_depth ["steps", "place"] (defScope s_in_depth) := ⟨rfl, rfl, rfl, by decide +kernel, rfl, by decide +kernel, by decide +kernel⟩
section
variable {P : Program} {w : World} {K : PySem.W.Frag} {mg : Str → Option Value} {base : Heap} {f : Addr} {fd : FuncData}
theorem ok_leading (T : TxtLN mg) (D : FnP K "_leading_out" "_leading_out" s_leading_out f fd) : FnOk P w K mg base (L2.CX P w) 1 f fd ["piece", "between"] spLeading := by
  have nd := sc_leading_out.nd
  refine D.ok sc_leading_out (fun vs H Q E h => ?_) (fun cdv A outer s H vs Q E hr h => ?_)
  · obtain ⟨pc, bl, ys, bs, rfl, _⟩ := h
    rfl
  · obtain ⟨pc, bl, ys, bs, rfl, ep, tl, few, k⟩ := h
    refine ⟨_, (pss_one (ps_ret (pe_callB call_len_seq rfl T.f_len PySem.boot_len (pa_cons (pe_lc (own := [("row", 2)]) (g := (gName 2)) (tt := tOr (tTest (tOp (rIn K false) (tOp (rIxT K) (tVar 2) (tC (.int 1))) (tVar 0))) (tTest (tOp (rIn K false) (tOp (rIxT K) (tVar 2) (tC (.int 2))) (tVar 0)))) rfl nd (pi_list (pv 1)) (blkOk_by (own := [("row", 2)]) (N := N_leading_out) (sc := defScope s_leading_out) (by decide +kernel)) (fun _ _ _ _ _ => (pg_name (i := 2) nd rfl (Or.inl rfl))) (fun _ _ _ _ _ => (pts_one (PW.pt (pw_or (pt_cmpR op_in_seq (pe_ix ix_tup (pv 2) pe_int (fun _ _ => rfl)) (pv 0) (by with_unfolding_all rfl)) (pw_or1 (pt_cmpR op_in_seq (pe_ix ix_tup (pv 2) pe_int (fun _ _ => rfl)) (pv 0) (by with_unfolding_all rfl))))))) (fun _ _ _ _ _ => (pv 2))) pa_nil)))), ?_⟩
    refine at_ret (at_cb (at_cons ?_))
    refine lc_rows (K := K) (rows := bs) (outB ys) (src_name rfl tl) (by omega) (fun _ => rfl) (fun _ => rfl) (fun r hr0 t H2 Qt sm ht q => ?_) (fun D0 H2 hD0 sm tl2 => ?_)
    · have ep2 := sm _ _ ep
      refine ⟨_, rfl, t, _, _, _, rfl, rfl, SqT.of ht, atI_nat (j := 1) rfl, _, rfl, pc, _, rfl, .inl (SqL.of ep2), rfl, flat_nat _, _, rfl, ?_⟩
      have i1 : inV (.int (r.2.1 : Int)) (ys.map natV) = decide (r.2.1 ∈ ys) := inV_nat _ _
      show if (inV (.int (r.2.1 : Int)) (ys.map natV)) = true then Qt true H2 else _
      rw [i1]
      unfold outB at q
      cases e1 : decide (r.2.1 ∈ ys) with
      | true =>
        rw [e1, Bool.true_or] at q
        exact q
      | false =>
        rw [e1, Bool.false_or] at q
        rw [if_neg Bool.false_ne_true]
        refine ⟨_, rfl, t, _, _, _, rfl, rfl, SqT.of ht, atI_nat (j := 2) rfl, _, rfl, pc, _, rfl, .inl (SqL.of ep2), rfl, flat_nat _, _, rfl, ?_⟩
        have i2 : inV (.int (r.2.2 : Int)) (ys.map natV) = decide (r.2.2 ∈ ys) := inV_nat _ _
        show Qt (inV (.int (r.2.2 : Int)) (ys.map natV)) H2
        rw [i2]
        exact q
    · obtain ⟨v2, e2, t2⟩ := tl2
      refine ⟨D0, _, rfl, .inl (SqL.of e2), ?_⟩
      rw [tups_len t2, List.length_map]
      exact k _ sm
theorem ok_in_depth (D : FnP K "_in_depth" "_in_depth" s_in_depth f fd) : FnOk P w K mg base (L2.CX P w) 1 f fd ["steps", "place"] spDepth := by
  have nd := sc_in_depth.nd
  refine D.ok sc_in_depth (fun vs H Q E h => ?_) (fun cdv A outer s H vs Q E hr h => ?_)
  · obtain ⟨l, p, steps, rfl, _⟩ := h
    rfl
  · obtain ⟨l, p, steps, rfl, tl, few, k⟩ := h
    refine ⟨_, (pss_cons (ps_set (i := 2) nd rfl (Or.inl rfl) (pe_lst pa_nil))
      (pss_cons (ps_set (i := 3) nd rfl (Or.inl rfl) (pe_lst (pa_cons (pv 1) pa_nil)))
      (pss_cons (ps_while (passes_of rfl) (pt_truth (pv 3) (by intro _; rfl)) (pss_cons (ps_set (i := 4) nd rfl (Or.inr rfl) (pe_bm0 PySem.F.plainAttrs_list PySem.F.slot_list_pop PySem.F.type_list_pop mt_pop (pv 3)))
      (pss_one (ps_if (pt_cmpR op_notIn_seq (pv 4) (pv 2) (by with_unfolding_all rfl)) (pss_cons (ps_expr (pe_bm PySem.F.plainAttrs_list PySem.F.slot_list_append PySem.F.type_list_append mt_append (pv 2) (pa_cons (pv 4) pa_nil)))
      (pss_one (ps_expr (pe_bm PySem.F.plainAttrs_list PySem.F.slot_list_extend PySem.F.type_list_extend mt_extend (pv 3) (pa_cons (pe_lc (own := [("step", 5)]) (g := (gName 5)) (te := tOp (rIxT K) (tVar 5) (tC (.int 2))) (tt := tTest (tOp rEq (tOp (rIxT K) (tVar 5) (tC (.int 1))) (tVar 4))) rfl nd (pi_list (pv 0)) (blkOk_by (own := [("step", 5)]) (N := N_in_depth) (sc := defScope s_in_depth) (by decide +kernel)) (fun _ _ _ _ _ => (pg_name (i := 5) nd rfl (Or.inl rfl))) (fun _ _ _ _ _ => (pts_one (pt_cmpR op_eq (pe_ix ix_tup (pv 5) pe_int (fun _ _ => rfl)) (pv 4) (nomark _)))) (fun _ _ _ _ _ => (pe_ix ix_tup (pv 5) pe_int (fun _ _ => rfl)))) pa_nil))))) pss_nil))))
      (pss_one (ps_ret (pv 2)))))), ?_⟩
    refine ⟨(by show 0 ≤ sizeLine; decide), fun a1 ha1 => ?_⟩
    have c1 := same_new (o := .lst []) ha1
    dsimp only [gName]
    refine nice (σ' := [some (.ref l), some (natV p), some (.ref a1), none, none, none]) rfl ?_
    refine at_seq (at_asg ?_)
    refine ⟨_, rfl, (by show 1 ≤ sizeLine; decide), fun a2 ha2 => ?_⟩
    have c2 := same_new (o := .lst [natV p]) ha2
    dsimp only [gName]
    refine nice (σ' := [some (.ref l), some (natV p), some (.ref a1), some (.ref a2), none, none]) rfl ?_
    have n12 : a2 ≠ a1 := fun z => by
      rw [z, upd_same] at ha2
      cases ha2
    have f2 : H a2 = none := c1.free ha2
    have nl1 : l ≠ a1 := fun z => by
      obtain ⟨_, e, _⟩ := tl
      rw [z, ha1] at e
      cases e
    have nl2 : l ≠ a2 := fun z => by
      obtain ⟨_, e, _⟩ := tl
      rw [z, f2] at e
      cases e
    have e1 := c2 _ _ (upd_same (H := H) (a := a1) (o := .lst []))
    have e2 := upd_same (H := upd H a1 (.lst [])) (a := a2) (o := .lst [natV p])
    have sm0 := c1.trans c2
    generalize upd (upd H a1 (.lst [])) a2 (.lst [natV p]) = H0 at *
    clear c1 c2 ha2
    have fuel : ([p] : List Nat).length + (openF steps []).length ≤ steps.length + 1 := by
      have := List.length_filter_le (fun st : TRow => decide (st.2.1 ∉ ([] : List Nat))) steps
      unfold openF
      show 1 + _ ≤ _
      omega
    refine at_seq ?_
    refine ⟨fun mu σ H' => ∃ (told s : List Nat) (u4 : Option V), σ = [some (.ref l), some (natV p), some (.ref a1), some (.ref a2), u4, none] ∧ H' a1 = some (.lst (told.map natV)) ∧ H' a2 = some (.lst (s.reverse.map natV)) ∧ depthF steps mu told s = inDepthF steps p ∧ s.length + (openF steps told).length ≤ mu ∧ told.length + mu ≤ 130 ∧ Same H H',
      ⟨steps.length + 1, [], [p], none, rfl, e1, e2, rfl, fuel, by show 0 + _ ≤ _; omega, sm0⟩, ?_⟩
    rintro mu σ H1 ⟨told, s, u4, rfl, e1, e2, eqF, ln, lt, sm⟩
    refine ⟨_, rfl, !(s.reverse.map natV).isEmpty, .inl ⟨_, SqL.of e2, rfl⟩, ?_⟩
    cases s with
    | nil =>
      have e0 : depthF steps mu told [] = told := by cases mu <;> rfl
      rw [e0] at eqF
      rw [eqF] at e1
      exact ⟨_, rfl, k a1 H1 ha1 sm e1⟩
    | cons a s0 =>
      have ev : (!((a :: s0).reverse.map natV).isEmpty) = true := by simp
      rw [ev]
      have l1 : (a :: s0).length = s0.length + 1 := rfl
      obtain ⟨n, rfl⟩ : ∃ n, mu = n + 1 := ⟨mu - 1, by omega⟩
      refine ⟨fun σ' H' => ∃ (told s : List Nat) (u4 : Option V), σ' = [some (.ref l), some (natV p), some (.ref a1), some (.ref a2), u4, none] ∧ H' a1 = some (.lst (told.map natV)) ∧ H' a2 = some (.lst (s.reverse.map natV)) ∧ depthF steps n told s = inDepthF steps p ∧ s.length + (openF steps told).length ≤ n ∧ told.length + n ≤ 130 ∧ Same H H',
        fun σ' H' z => ⟨n, by omega, z⟩, ?_⟩
      have er : ((a :: s0).reverse.map natV) = s0.reverse.map natV ++ [natV a] := by simp
      rw [er] at e2
      refine at_seq (at_asg ?_)
      refine ⟨_, rfl, .inl ⟨rfl, _, SqL.of e2⟩, a2, _, natV a, rfl, rfl, e2, by simp, ?_⟩
      rw [List.dropLast_concat]
      have e3 := upd_same (H := H1) (a := a2) (o := .lst (s0.reverse.map natV))
      have e4 : upd H1 a2 (.lst (s0.reverse.map natV)) a1 = some (.lst (told.map natV)) := by
        rw [upd_ne n12.symm]
        exact e1
      have sm2 : Same H (upd H1 a2 (.lst (s0.reverse.map natV))) := same_over f2 sm
      generalize upd H1 a2 (.lst (s0.reverse.map natV)) = H2 at *
      dsimp only [gName]
      refine nice (σ' := [some (.ref l), some (natV p), some (.ref a1), some (.ref a2), some (natV a), none]) rfl ?_
      refine at_ifP (fun b H' => b = !decide (a ∈ told) ∧ H' = H2) ?yes ?no fun M hM => ?tst
      case tst =>
        refine ⟨_, rfl, _, rfl, a1, _, rfl, .inl (SqL.of e4), rfl, flat_nat _, _, rfl, ?_⟩
        have i1 : inV (natV a) (told.map natV) = decide (a ∈ told) := inV_nat _ _
        rw [i1]
        exact hM _ _ ⟨rfl, rfl⟩
      case no =>
        rintro H3 ⟨hb, rfl⟩
        have hb : a ∈ told := of_decide_eq_true (by simpa using hb.symm)
        refine at_next ⟨told, s0, _, rfl, e4, e3, ?_, by omega, by omega, sm2⟩
        rw [← eqF]
        show _ = if a ∈ told then _ else _
        rw [if_pos hb]
      case yes =>
        rintro H3 ⟨hb, rfl⟩
        have hb : a ∉ told := of_decide_eq_false (by simpa using hb.symm)
        refine at_seq ?_
        refine ⟨_, rfl, .inl ⟨rfl, _, SqL.of e4⟩, _, rfl, a1, _, _, rfl, rfl, e4, by rw [List.length_map, sizeLine_eq]; omega, ?_⟩
        have ea : told.map natV ++ [natV a] = (told ++ [a]).map natV := by rw [List.map_append]; rfl
        rw [ea]
        have e5 := upd_same (H := H3) (a := a1) (o := .lst ((told ++ [a]).map natV))
        have e6 : upd H3 a1 (.lst ((told ++ [a]).map natV)) a2 = some (.lst (s0.reverse.map natV)) := by
          rw [upd_ne n12]
          exact e3
        have sm3 : Same H (upd H3 a1 (.lst ((told ++ [a]).map natV))) := same_over ha1 sm2
        generalize upd H3 a1 (.lst ((told ++ [a]).map natV)) = H4 at *
        have tl4 := tl_same tl sm3
        obtain ⟨v4, el4, tv4⟩ := id tl4
        have lv4 : v4.length = steps.length := by rw [tups_len tv4, List.length_map]
        have op := open_snoc told a hb steps
        refine ⟨_, rfl, .inl ⟨rfl, _, SqL.of e6⟩, _, rfl, l, rfl, ⟨v4, SqL.of el4⟩, fun D0 hD0 => ?_⟩
        refine lc_it (walk_list (K := K) (xs := v4)) (fun i H' => H' D0 = some (.lst ((nextF (steps.take i) a).map natV)) ∧ Same H4 H') ⟨upd_same, same_new hD0⟩ (fun _ _ _ ⟨_, z⟩ => SqL.of (z _ _ el4)) ?_ ?_
        · rintro i x H5 H6 hi ⟨d1, smi⟩ ⟨rfl, hx⟩
          obtain ⟨t, xs, rfl, hxs, ht⟩ := tups_get tv4 hx
          obtain ⟨r, hr0⟩ : ∃ r, steps[i]? = some r := ⟨_, List.getElem?_eq_getElem (by omega)⟩
          rw [List.getElem?_map, hr0] at hxs
          cases hxs
          have ht6 := smi _ _ ht
          refine ⟨rfl, _, rfl, t, _, _, _, rfl, rfl, SqT.of ht6, atI_nat (j := 1) rfl, _, rfl, rfl, _, rfl, ?_⟩
          have dq : decide (V.int (r.2.1 : Int) = natV a) = decide (r.2.1 = a) := decide_eq_decide.mpr ⟨fun z => Int.ofNat.inj (V.int.inj z), fun z => by rw [z]; rfl⟩
          rw [dq]
          have nx : nextF (steps.take (i + 1)) a = nextF (steps.take i) a ++ if r.2.1 = a then [r.2.2] else [] := by
            unfold nextF
            rw [take_snoc hr0, List.filter_append, List.map_append, List.filter_cons]
            by_cases e : r.2.1 = a
            · rw [if_pos (decide_eq_true e), if_pos e]
              rfl
            · rw [if_neg (by simpa using e), if_neg e]
              rfl
          rw [nx]
          by_cases e : r.2.1 = a
          · rw [decide_eq_true e, if_pos e]
            refine ⟨_, rfl, t, _, _, _, rfl, rfl, SqT.of ht6, atI_nat (j := 2) rfl, _, d1, ?_, ?_, same_over hD0 smi⟩
            · have := List.length_filter_le (fun st : TRow => decide (st.2.1 = a)) (steps.take i)
              rw [List.length_map]
              unfold nextF
              rw [List.length_map, sizeLine_eq]
              rw [List.length_take] at this
              omega
            · rw [upd_same, List.map_append]
              rfl
          · rw [decide_eq_false e, if_neg e, List.append_nil]
            exact ⟨d1, smi⟩
        rintro H5 ⟨d1, smi⟩
        rw [List.take_of_length_le (by omega)] at d1
        have e7 := smi _ _ e6
        refine ⟨a2, D0, _, _, rfl, rfl, e7, d1, by rw [List.length_map, List.length_map, List.length_reverse, sizeLine_eq]; omega, ?_⟩
        refine ⟨told ++ [a], (nextF steps a).reverse ++ s0, _, rfl, ?_, ?_, ?_, ?_, ?_, same_over f2 (sm3.trans smi)⟩
        · rw [upd_ne n12.symm]
          exact smi _ _ e5
        · rw [upd_same, List.reverse_append, List.reverse_reverse, List.map_append]
        · rw [← eqF]
          show _ = if a ∈ told then _ else _
          rw [if_neg hb]
        · rw [List.length_append, List.length_reverse]
          omega
        · rw [List.length_append]
          show told.length + 1 + n ≤ _
          omega
end
end K02

set_option Elab.async false
set_option linter.all false
set_option maxRecDepth 100000
set_option maxHeartbeats 4000000
namespace K02
open PySem PySem.Spec PyProof.Rows L2 Own
/-! ### ends -/
noncomputable def dueF (m : Nat) (rows : List TRow) : List (List Nat × Nat) := if (heads m (ends (solid rows))).length < 2 then [] else ((heads m (ends (solid rows))).filter fun h => decide ((leadO m rows h).length < 2)).map fun h => (cls m (ends (solid rows)) h, 2 - (leadO m rows h).length)
/-- rows (piece, how many), made anew -/
abbrev NewE (H H' : Hp) (r : Addr) : List V → List (List Nat × Nat) → Prop := Paired fun v x => ∃ q t, v = V.ref q ∧ H q = none ∧ H' q = some (.tup [.ref t, natV x.2]) ∧ t ≠ r ∧ H t = none ∧ H' t = some (.lst (x.1.map natV))
theorem newE_snoc {H H' : Hp} {r q t : Addr} {x : List Nat × Nat} (hq : H q = none) (eq : H' q = some (.tup [.ref t, natV x.2])) (n : t ≠ r) (ht : H t = none) (et : H' t = some (.lst (x.1.map natV))) : ∀ {vs : List V} {xs : List (List Nat × Nat)}, NewE H H' r vs xs → NewE H H' r (vs ++ [V.ref q]) (xs ++ [x])
  | _, _, .nil => .cons ⟨q, t, rfl, hq, eq, n, ht, et⟩ .nil
  | _, _, .cons a b => .cons a (newE_snoc hq eq n ht et b)
theorem newE_ext {H H1 H2 : Hp} {r : Addr} (k : ∀ t o, t ≠ r → H1 t = some o → H2 t = some o) (er : ∃ xs, H1 r = some (.lst xs)) : ∀ {vs : List V} {xs : List (List Nat × Nat)}, NewE H H1 r vs xs → NewE H H2 r vs xs
  | _, _, .nil => .nil
  | _, _, .cons ⟨q, t, e, hq, eq, n, ht, et⟩ b => .cons ⟨q, t, e, hq, k _ _ (fun z => by
      obtain ⟨xs, er⟩ := er
      rw [z, er] at eq
      cases eq) eq, n, ht, k _ _ n et⟩ (newE_ext k er b)
def spEndsT (C : Addr) : Sp := fun vs H Q _ => ∃ (p d : Addr) (m : Nat) (rows : List TRow) (n : Nat), vs = [.ref p] ∧ TownAt C H p d m rows n ∧
  ∀ (r : Addr) (zs : List V) (H' : Hp), H r = none → Same H H' → H' r = some (.lst zs) → NewE H H' r zs (dueF m rows) → Q (.ref r) H'
theorem newL_get {H H' : Hp} {r : Addr} : ∀ {vs : List V} {yss : List (List Nat)} {i : Nat} {v : V}, NewL H H' r vs (natL yss) → vs[i]? = some v → ∃ t ys, v = V.ref t ∧ yss[i]? = some ys ∧ H' t = some (.lst (ys.map natV)) ∧ t ≠ r ∧ H t = none
  | _, [], _, _, h, e => by
    cases h
    simp at e
  | _, ys :: yss, 0, v, h, e => by
    cases h with
    | cons a b =>
      obtain ⟨t, e1, n, z, h⟩ := a
      simp at e
      exact ⟨t, ys, by rw [← e, e1], rfl, h, n, z⟩
  | _, ys :: yss, i + 1, v, h, e => by
    cases h with
    | cons a b =>
      obtain ⟨t, ys', h1, h2, h3⟩ := newL_get (i := i) (v := v) b (by simpa using e)
      exact ⟨t, ys', h1, by simpa using h2, h3⟩
abbrev s_ends : Stmt := top 13
abbrev N_ends : List Str := ["town", "between", "left", "wanting", "piece", "leading"]
theorem sc_ends : FnScope N_ends ["town"] (defScope s_ends) := ⟨rfl, rfl, rfl, by decide +kernel, rfl, by decide +kernel, by decide +kernel⟩
section
variable {P : Program} {w : World} {K : PySem.W.Frag} {mg : Str → Option Value} {base : Heap} {f : Addr} {fd : FuncData}
theorem ok_endsT (T : TxtLN mg) (D : FnP K "ends" "ends" s_ends f fd) (c_parting_rows : CalX P w K mg base 4 "_parting_rows" (spPartingRows (gA K "Town"))) (c_pieces_without : CalX P w K mg base 4 "_pieces_without" (spWithout (gA K "Town"))) (c_leading_out : CalX P w K mg base 1 "_leading_out" spLeading) :
    FnOk P w K mg base (L2.CX P w) 5 f fd ["town"] (spEndsT (gA K "Town")) := by
  have nd := sc_ends.nd
  refine D.ok sc_ends (fun vs H Q E h => ?_) (fun cdv A outer s H vs Q E hr h => ?_)
  · obtain ⟨p, d, m, rows, n, rfl, _⟩ := h
    rfl
  · obtain ⟨p, d, m, rows, n, rfl, W, k⟩ := h
    obtain ⟨f_parting_rows, fd_parting_rows, ps_parting_rows, F_parting_rows, m_parting_rows, k_parting_rows, b_parting_rows⟩ := c_parting_rows.ex
    obtain ⟨f_pieces_without, fd_pieces_without, ps_pieces_without, F_pieces_without, m_pieces_without, k_pieces_without, b_pieces_without⟩ := c_pieces_without.ex
    obtain ⟨f_leading_out, fd_leading_out, ps_leading_out, F_leading_out, m_leading_out, k_leading_out, b_leading_out⟩ := c_leading_out.ex
    refine ⟨_, (pss_cons (ps_set (i := 1) nd rfl (Or.inl rfl) (pe_call F_parting_rows (hr.mono (by decide)) rfl m_parting_rows k_parting_rows b_parting_rows .nil passF (pa_cons (pv 0) pa_nil)))
      (pss_cons (ps_set (i := 2) nd rfl (Or.inl rfl) (pe_call F_pieces_without (hr.mono (by decide)) rfl m_pieces_without k_pieces_without b_pieces_without .nil passF (pa_cons (pv 0) (pa_cons (pv 1) pa_nil))))
      (pss_cons (ps_if (pt_cmpR op_lt (pe_callB call_len_seq rfl T.f_len PySem.boot_len (pa_cons (pv 2) pa_nil)) pe_int (nomark _)) (pss_one (ps_ret (pe_lst pa_nil))) pss_nil)
      (pss_cons (ps_set (i := 3) nd rfl (Or.inl rfl) (pe_lst pa_nil))
      (pss_cons (ps_for (passes_of rfl) rfl (pi_list (pv 2)) (pg_name (i := 4) nd rfl (Or.inl rfl)) (pss_cons (ps_set (i := 5) nd rfl (Or.inl rfl) (pe_call F_leading_out (hr.mono (by decide)) rfl m_leading_out k_leading_out b_leading_out .nil passF (pa_cons (pv 4) (pa_cons (pv 1) pa_nil))))
      (pss_one (ps_if (pt_cmpR op_lt (pv 5) pe_int (nomark _)) (pss_one (ps_expr (pe_bm PySem.F.plainAttrs_list PySem.F.slot_list_append PySem.F.type_list_append mt_append (pv 3) (pa_cons (pe_tup (pa_cons (pv 4) (pa_cons (pe_op op_sub pe_int (pv 5)) pa_nil))) pa_nil)))) pss_nil))))
      (pss_one (ps_ret (pv 3)))))))), ?_⟩
    have rise := W.ok.rise
    have u := rise_one rise
    have inm := town_inm W
    have m16 := W.pm.2
    have few60 : (rows.filter (bridge rows)).length ≤ 60 := Nat.le_trans (List.length_filter_le _ _) W.ok.few
    refine ⟨_, rfl, p, d, m, rows, n, rfl, W, fun l H1 hl sm1 tl => ?_⟩
    dsimp only [gName]
    refine nice (σ' := [some (.ref p), some (.ref l), none, none, none, none]) rfl ?_
    refine at_seq (at_asg ?_)
    refine ⟨_, rfl, _, rfl, p, d, l, m, rows, rows.filter (bridge rows), n, rfl, W.same sm1, tl, few60, fun lf lz H2 hlf sm2 el nl => ?_⟩
    have nl : NewL H1 H2 lf lz (natL (piecesOf m rows)) := nl
    rw [pieces_eq m u] at nl
    have lens : lz.length = (heads m (ends (solid rows))).length := by
      have := Paired.length nl
      unfold natL at this
      rw [List.length_map, List.length_map] at this
      exact this
    have h16 : (heads m (ends (solid rows))).length ≤ 16 := Nat.le_trans heads_len m16
    dsimp only [gName]
    refine nice (σ' := [some (.ref p), some (.ref l), some (.ref lf), none, none, none]) rfl ?_
    refine at_seqP (fun σ' H' => 2 ≤ (heads m (ends (solid rows))).length ∧ σ' = [some (.ref p), some (.ref l), some (.ref lf), none, none, none] ∧ H' = H2) ?rest fun N hN => ?test
    case test =>
      refine at_ifP (fun b H' => b = decide ((heads m (ends (solid rows))).length < 2) ∧ H' = H2) ?yes (fun H' z => at_next (hN _ _ ⟨?_, rfl, z.2⟩)) fun M hM => ?tst
      case tst =>
        refine ⟨_, rfl, lf, lz, rfl, .inl (SqL.of el), _, _, rfl, rfl, _, rfl, ?_⟩
        refine hM _ _ ⟨?_, rfl⟩
        rw [lens]
        exact decide_eq_decide.mpr ⟨fun z => by omega, fun z => by omega⟩
      case yes =>
        rintro H' ⟨hb, rfl⟩
        have hb := of_decide_eq_true hb.symm
        refine at_ret ?_
        refine ⟨(by show 0 ≤ sizeLine; decide), fun q hq => ?_⟩
        refine k q [] _ (sm1.free (sm2.free hq)) ((sm1.trans sm2).trans (same_new hq)) upd_same ?_
        unfold dueF
        rw [if_pos hb]
        exact .nil
      · have := of_decide_eq_false z.1.symm
        omega
    rintro σ' H' ⟨two, rfl, rfl⟩
    refine at_seq (at_asg ?_)
    refine ⟨(by show 0 ≤ sizeLine; decide), fun wa hwa => ?_⟩
    dsimp only [gName]
    refine nice (σ' := [some (.ref p), some (.ref l), some (.ref lf), some (.ref wa), none, none]) rfl ?_
    have cw := same_new (o := .lst []) hwa
    have hwaH : H wa = none := sm1.free (sm2.free hwa)
    have tl2 := tl_same tl sm2
    refine at_seq ?_
    refine ⟨_, rfl, lf, rfl, ⟨lz, SqL.of (cw _ _ el)⟩, for_it walk_list (fun i σ' H3 => ∃ (zs : List V) (u4 u5 : Option V), σ' = [some (.ref p), some (.ref l), some (.ref lf), some (.ref wa), u4, u5] ∧ H3 wa = some (.lst zs) ∧ NewE H H3 wa zs ((((heads m (ends (solid rows))).take i).filter fun h => decide ((leadO m rows h).length < 2)).map fun h => (cls m (ends (solid rows)) h, 2 - (leadO m rows h).length)) ∧ Same H' H3) ⟨[], none, none, rfl, upd_same, .nil, cw⟩ (fun i σ' H3 _ ⟨_, _, _, _, _, _, z⟩ => SqL.of (z _ _ el)) ?_ ?_⟩
    · rintro i x σ H3 H4 hi ⟨zs, u4, u5, rfl, e3, ne, sm3⟩ ⟨rfl, hx⟩
      obtain ⟨t, ys, rfl, hys, ht, n1, n2⟩ := newL_get nl hx
      obtain ⟨h, hh⟩ : ∃ h, (heads m (ends (solid rows)))[i]? = some h := ⟨_, List.getElem?_eq_getElem (by omega)⟩
      rw [List.getElem?_map, hh] at hys
      cases hys
      have ht4 := sm3 _ _ ht
      have lz3 : zs.length ≤ i := by
        rw [Paired.length ne, List.length_map]
        exact Nat.le_trans (List.length_filter_le _ _) (by rw [List.length_take]; omega)
      dsimp only [gName]
      refine nice (σ' := [some (.ref p), some (.ref l), some (.ref lf), some (.ref wa), some (.ref t), u5]) rfl ?_
      refine at_seq (at_asg ?_)
      refine ⟨_, rfl, _, rfl, t, l, cls m (ends (solid rows)) h, rows.filter (bridge rows), rfl, ht4, tl_same tl2 sm3, few60, fun H5 sm5 => ?_⟩
      have lo : ((rows.filter (bridge rows)).filter (outB (cls m (ends (solid rows)) h))) = leadO m rows h := by
        unfold leadO outB
        exact List.filter_congr fun r _ => by rw [Bool.decide_or]
      rw [lo]
      dsimp only [gName]
      refine nice (σ' := [some (.ref p), some (.ref l), some (.ref lf), some (.ref wa), some (.ref t), some (.int (((leadO m rows h).length : Nat) : Int))]) rfl ?_
      have e5 := sm5 _ _ e3
      have ne5 := newE_ext (fun t o _ e => sm5 t o e) ⟨_, e3⟩ ne
      have ht5 := sm5 _ _ ht4
      have nwa : t ≠ wa := fun z => by
        rw [z, hwa] at ht
        cases ht
      have htH : H t = none := sm1.free n2
      refine at_ifP (fun b H' => b = decide ((leadO m rows h).length < 2) ∧ H' = H5) ?yes ?no fun M hM => ?tst
      case tst =>
        refine ⟨_, rfl, _, _, rfl, rfl, _, rfl, ?_⟩
        refine hM _ _ ⟨?_, rfl⟩
        exact decide_eq_decide.mpr ⟨fun z => by omega, fun z => by omega⟩
      case no =>
        rintro H6 ⟨hb, rfl⟩
        refine at_next ⟨zs, _, _, rfl, e5, ?_, sm3.trans sm5⟩
        rw [take_snoc hh, List.filter_append, List.filter_cons, if_neg (by rw [← hb]; exact Bool.false_ne_true)]
        show NewE _ _ _ _ ((_ ++ []).map _)
        rw [List.append_nil]
        exact ne5
      case yes =>
        rintro H6 ⟨hb, rfl⟩
        have hb' := of_decide_eq_true hb.symm
        refine ⟨_, rfl, .inl ⟨rfl, _, SqL.of e5⟩, _, rfl, _, rfl, _, _, rfl, rfl, (by show 2 ≤ sizeLine; decide), fun q hq => ?_⟩
        have ew : (2 : Int) - (((leadO m rows h).length : Nat) : Int) = ((2 - (leadO m rows h).length : Nat) : Int) := by omega
        have cq := same_new (o := .tup [.ref t, .int ((2 : Int) - (((leadO m rows h).length : Nat) : Int))]) hq
        have eq := upd_same (H := H6) (a := q) (o := .tup [.ref t, .int ((2 : Int) - (((leadO m rows h).length : Nat) : Int))])
        have smq := (sm3.trans sm5).trans cq
        have hqH : H q = none := sm1.free (sm2.free (sm3.free (sm5.free hq)))
        have nqw : q ≠ wa := fun z => by
          rw [z, e5] at hq
          cases hq
        refine ⟨wa, zs, _, rfl, rfl, cq _ _ e5, by rw [sizeLine_eq]; omega, zs ++ [V.ref q], _, _, rfl, upd_same, ?_, same_over hwa smq⟩
        rw [take_snoc hh, List.filter_append, List.filter_cons, if_pos (by rw [← hb]), List.map_append]
        have over : ∀ x o, x ≠ wa → upd H6 q (.tup [.ref t, .int ((2 : Int) - (((leadO m rows h).length : Nat) : Int))]) x = some o → upd (upd H6 q (.tup [.ref t, .int ((2 : Int) - (((leadO m rows h).length : Nat) : Int))])) wa (.lst (zs ++ [V.ref q])) x = some o := fun x o n e => by
          rw [upd_ne n]
          exact e
        refine newE_snoc (x := (cls m (ends (solid rows)) h, 2 - (leadO m rows h).length)) hqH (over _ _ nqw (by rw [eq, ew]; rfl)) nwa htH (over _ _ nwa (cq _ _ ht5)) (newE_ext over ⟨_, cq _ _ e5⟩ (newE_ext (fun t o _ e => cq t o e) ⟨_, e5⟩ ne5))
    · rintro σ H3 ⟨zs, u4, u5, rfl, e3, ne, sm3⟩
      rw [lens, List.take_length] at ne
      refine ⟨_, rfl, k wa zs H3 hwaH ((sm1.trans sm2).trans sm3) e3 ?_⟩
      unfold dueF
      rw [if_neg (by omega)]
      exact ne
end
end K02

/-! A walk, turn by turn, whatever is done with what it tells. -/
set_option Elab.async false
set_option linter.all false
set_option maxRecDepth 100000
set_option maxHeartbeats 4000000
namespace Own
open PySem PySem.Spec PyProof.Rows L2
/-- a walk, turn by turn, whatever is done with what it tells: from the loop's rule, the thing in a slot of its own -/
theorem gen_it {J : It} {n : Nat} {G : Hp → Prop} {Y : Nat → Hp → V → Hp → Prop} (w : Walk J n G Y) {H0 : Hp} {Qd : Hp → Prop} {body : (Hp → Prop) → V → Hp → Prop} (Pv : Nat → Hp → Prop) (h0 : Pv 0 H0) (hG : ∀ i H, i ≤ n → Pv i H → G H)
    (hs : ∀ i x H H', i < n → Pv i H → Y i H x H' → body (Pv (i + 1)) x H') (hd : ∀ H, Pv n H → Qd H) :
    ∃ W : Nat → Nat → Hp → Prop, (∃ m, W 0 m H0) ∧ ∀ i m H, W i m H → (J.stop i H ∧ Qd H) ∨ (J.go i H ∧ ∃ Nx : Hp → Prop, (∀ H', Nx H' → ∃ m', m' < m ∧ W (i + 1) m' H') ∧ ∀ x H', J.yld i H x H' → body Nx x H') := by
  obtain ⟨W, start, step⟩ := for_it w (g := fun x _ H' k => k [some x] H') (tb := fun D σ H' => ∃ x, σ = [some x] ∧ body (D.nx []) x H') (D := { nx := fun _ => Qd, rt := fun _ _ => False }) (σ := []) (H := H0) (fun i _ H => Pv i H) h0 (fun i _ H => hG i H)
    (fun i x _ H H' lt p y => ⟨x, rfl, hs i x H H' lt p y⟩) fun _ H => hd H
  refine ⟨fun i m => W i m [], start, fun i m H at_ => (step i m [] H at_).imp id fun ⟨go, N, less, turn⟩ => ⟨go, N [], less [], fun x H' y => ?_⟩⟩
  obtain ⟨_, e, b⟩ := turn x H' y
  cases e
  exact b
end Own

/-! list(it) where each thing that `it` gives is new; list(zip(a, b)) of two lists. -/
set_option Elab.async false
set_option linter.all false
set_option maxRecDepth 100000
set_option maxHeartbeats 4000000
namespace Own
open PySem PySem.Spec PyProof.Rows L2
/-! ### the list that is filled -/
/-- at S the list of these -/
def Holds (h : Heap) (S : Addr) (vs : List Value) : Prop := ∃ c, h.get? S = some { cls := .type "list", dict := none, data := .seq vs.toArray c, slots := #[] }
/-- the list rewritten -/
theorem Holds.map {h : Heap} {S : Addr} {vs us : List Value} (l : Holds h S vs) (f : Array Value → Array Value) (e : f vs.toArray = us.toArray) : Holds (h.update S (Obj.mapSeq f)) S us := by
  obtain ⟨c, at_⟩ := l
  have z := Heap.get?_update_self (Obj.mapSeq f) at_ rfl
  simp only [Obj.mapSeq, e] at z
  exact ⟨_, z⟩
section
variable {prog : Program} {w : World} {A : Around} {S I : Addr} {res : Value} {n : Nat} {G : Nat → List Value → Heap → Prop} {Z : List Value → Heap → Prop} {vs : List Value}
theorem Holds.write {M : Model} {E : Value → Shared → Prop} {s : Shared} {us : List Value} {f : Array Value → Array Value} {Q : Unit → Shared → Prop} (l : Holds s.heap S vs) (e : f vs.toArray = us.toArray) (few : vs.length ≤ sizeLine) (few' : us.length ≤ sizeLine + 1)
    (q : Holds (s.heap.update S (Obj.mapSeq f)) S us → Q () { s with heap := s.heap.update S (Obj.mapSeq f) }) : wpAny M A (updateSeq S f) Q E s := by
  have after := l.map f e
  obtain ⟨c, at_⟩ := l
  exact wpAny_updateSeq at_ rfl (q after) (by simpa using few) (by rw [e]; simpa using few')
/-- what a built-in's code comes to -/
abbrev Runs (prog : Program) (w : World) (A : Around) (R : Result → Shared → Prop) : Fin → Shared → Prop := fun fin s' => match fin with
  | .done f => R (.ok f) s'
  | .again c' => c'.quiet = true ∧ codeAny (model prog w) A c' R s'
/-- the code that draws the rest of I into S -/
abbrev rest (S I : Addr) (res : Value) : Code := .builtin "list.extend.loop" ⟨[.ref S, .ref I, res], []⟩
/-- an iterator at I that gives n things: G i vs h, where the vs are given and h is the heap, whatever S holds; Z behind the last -/
structure Feed (prog : Program) (w : World) (A : Around) (I S : Addr) (n : Nat) (G : Nat → List Value → Heap → Prop) (Z : List Value → Heap → Prop) : Prop where
  blind : ∀ {i vs h} (f : Obj → Obj), G i vs h → G i vs (h.update S f)
  gives : ∀ {i vs} {s : Shared} {Q : Option Value → Shared → Prop} {E : Value → Shared → Prop}, i < n → G i vs s.heap → (∃ o, s.heap.get? S = some o) →
    (∀ v h', h'.get? S = s.heap.get? S → G (i + 1) (vs ++ [v]) h' → Q (some v) { s with heap := h' }) → wpAny (model prog w) A (pyNext (.ref I)) Q E s
  ends : ∀ {vs} {s : Shared} {Q : Option Value → Shared → Prop} {E : Value → Shared → Prop}, G n vs s.heap → (∃ o, s.heap.get? S = some o) → (∀ h', h'.get? S = s.heap.get? S → Z vs h' → Q none { s with heap := h' }) → wpAny (model prog w) A (pyNext (.ref I)) Q E s
/-- one turn of the code that draws -/
theorem rest_turn {R : Result → Shared → Prop} {s : Shared} (h : wpAny (model prog w) A.in1 (pyNext (.ref I)) (fun got s' => match got with
      | none => R (.ok (.ret res)) s'
      | some v => wpAny (model prog w) A.in1 (updateSeq S (·.push v)) (fun _ s2 => codeAny (model prog w) A (rest S I res) R s2) (fun e s2 => R (.error e) s2) s') (fun e s' => R (.error e) s') s) :
    codeAny (model prog w) A (rest S I res) R s := by
  refine codeAny_builtin PySem.F.entry_extend_loop ?_
  rw [Around.under_plainId PySem.F.plain_extend_loop _]
  refine (wpAny_bind (wpAny_mono h (fun got s' told => ?_) fun _ _ z => z) : wpAny (model prog w) A.in1 (pyNext (.ref I) >>= _) _ _ s)
  cases got with
  | none => exact wpAny_pure told
  | some v => exact wpAny_bind (wpAny_mono told (fun _ _ z => wpAny_pure ⟨plainId_quiet PySem.F.plain_extend_loop _, z⟩) fun _ _ z => z)
theorem Feed.drawn (F : Feed prog w A.in1 I S n G Z) (few : n ≤ sizeLine) {R : Result → Shared → Prop} : ∀ (k : Nat) {i : Nat} {vs : List Value} {s : Shared}, i + k = n → vs.length = i → G i vs s.heap → Holds s.heap S vs →
    (∀ us h', us.length = n → Z us h' → Holds h' S us → R (.ok (.ret res)) { s with heap := h' }) → codeAny (model prog w) A (rest S I res) R s
  | 0, i, vs, s, at_, len, g, l, fin => by
    subst at_
    exact rest_turn (F.ends g (let ⟨_, e⟩ := l; ⟨_, e⟩) fun h' same g' => fin vs h' len g' (l.imp fun _ e => same.trans e))
  | k + 1, i, vs, s, at_, len, g, l, fin => by
    refine rest_turn (F.gives (by omega) g (let ⟨_, e⟩ := l; ⟨_, e⟩) fun v h' same g' => ?_)
    have l' : Holds h' S vs := l.imp fun _ e => same.trans e
    refine l'.write (s := { s with heap := h' }) (us := vs ++ [v]) (by simp) (by omega) (by rw [List.length_append, len]; show i + 1 ≤ sizeLine + 1; omega) fun l2 => ?_
    exact Feed.drawn F few k (by omega) (by rw [List.length_append, len]; rfl) (F.blind _ g') l2 fun us h2 => fin us h2
/-- a kind of iterator that tells nothing of how many it gives -/
structure Lengthless (T : String) : Prop where
  noList : (Value.type T == Value.type "list") = false
  noTuple : (Value.type T == Value.type "tuple") = false
  noLen : typeLookup (.type T) "__len__" = pure none
  noHint : typeLookup (.type T) "__length_hint__" = pure none
theorem Lengthless.room {M : Model} {E : Value → Shared → Prop} {T : String} {s : Shared} {Q : Bool → Shared → Prop} (L : Lengthless T) (is : s.TypeIs (.ref I) T) (q : Q true s) : wpAny M A (Builtin.List.listLengthHint (.ref I)) Q E s := by
  unfold Builtin.List.listLengthHint
  refine wpAny_bind (wpAny_specialOf is L.noLen ?_)
  refine (wpAny_bind (wpAny_specialOf is L.noHint ?_) : wpAny M A (specialOf (Value.ref I) (Str.ofString "__length_hint__") >>= _) Q E s)
  exact wpAny_pure q
/-- such an iterator is what is walked -/
abbrev Itself (prog : Program) (w : World) (I : Addr) (h : Heap) : Prop := ∀ {A : Around} {s : Shared} {Q : Value → Shared → Prop} {E : Value → Shared → Prop}, s.heap.get? I = h.get? I → Q (.ref I) s → wpAny (model prog w) A (pyIter (.ref I)) Q E s
theorem Feed.extends {T : String} {s : Shared} {R : Result → Shared → Prop} (F : Feed prog w A.in1 I S n G Z) (L : Lengthless T) (is : ∃ o, s.heap.get? I = some o ∧ o.cls = .type T) (self : Itself prog w I s.heap) (ne : S ≠ I) (few : n ≤ sizeLine) (g : G 0 [] s.heap) (l : Holds s.heap S [])
    (fin : ∀ us h', us.length = n → Z us h' → Holds h' S us → R (.ok (.ret res)) { s with heap := h' }) : wpAny (model prog w) A.in1 (Builtin.List.listExtendWith (.ref S) (.ref I) res) (Runs prog w A R) (fun e s' => R (.error e) s') s := by
  have apart : Builtin.List.listSameRef (.ref S) (.ref I) = false := by simp [Builtin.List.listSameRef, ne]
  have draw : ∀ h', G 0 [] h' → Holds h' S [] → wpAny (model prog w) A.in1 (again (rest S I res)) (Runs prog w A R) (fun e s' => R (.error e) s') { s with heap := h' } := fun h' g' l' =>
    wpAny_pure ⟨plainId_quiet PySem.F.plain_extend_loop _, F.drawn few n (s := { s with heap := h' }) (Nat.zero_add n) rfl g' l' fin⟩
  unfold Builtin.List.listExtendWith
  refine wpAny_bind (wpAny_typeOf is ?_)
  rw [apart, L.noList, L.noTuple]
  refine wpAny_bind (self rfl (wpAny_bind (wpAny_holding (L.room is ?_))))
  -- room is made: a thing more, and off again
  refine (wpAny_bind (wpAny_rule (wpAny_bind (wpAny_bind (l.write (us := [.none]) rfl (Nat.zero_le _) (by decide) fun l1 => ?_)))) : wpAny _ A.in1 (rule "list.extend.makes-room" >>= fun _ => Builtin.List.listTouch (.ref S) >>= fun _ => again (rest S I res)) _ _ s)
  exact l1.write (s := { s with heap := s.heap.update S (Obj.mapSeq (·.push .none)) }) (us := []) rfl (by decide) (Nat.zero_le _) fun l2 => draw _ (F.blind _ (F.blind _ g)) l2
theorem Feed.inits {T : String} {s : Shared} {R : Result → Shared → Prop} (F : Feed prog w A.in1 I S n G Z) (L : Lengthless T) (is : ∃ o, s.heap.get? I = some o ∧ o.cls = .type T) (self : Itself prog w I s.heap) (ne : S ≠ I) (few : n ≤ sizeLine) (g : G 0 [] s.heap) (l : Holds s.heap S [])
    (fin : ∀ us h', us.length = n → Z us h' → Holds h' S us → R (.ok (.ret .none)) { s with heap := h' }) : wpAny (model prog w) A.in1 (Builtin.«list.__init__» ⟨[.ref S, .ref I], []⟩) (Runs prog w A R) (fun e s' => R (.error e) s') s := by
  have off : ∀ f, (s.heap.update S f).get? I = s.heap.get? I := fun f => Heap.get?_update_other _ _ ne
  obtain ⟨c, at_⟩ := id l
  refine (wpAny_bind (wpAny_bind (wpAny_seqItems at_ rfl (wpAny_pure ?_))) : wpAny _ A.in1 (Builtin.List.listItems (.ref S) >>= fun old => Builtin.List.listUpdate (.ref S) (fun _ => #[]) >>= fun _ => letGo old.toList.reverse >>= fun _ => Builtin.List.listExtendWith (.ref S) (.ref I) .none) _ _ s)
  refine wpAny_bind (l.write (f := fun _ => #[]) (us := []) rfl (Nat.zero_le _) (Nat.zero_le _) fun l1 => wpAny_bind (wpAny_letGo ?_))
  refine Feed.extends (s := { s with heap := s.heap.update S (Obj.mapSeq fun _ => #[]) }) F L (by simpa only [off] using is) (fun same q => self (same.trans (off _)) q) ne few (F.blind _ g) l1 fin
/-- list(I): a new list of all that I gives -/
theorem call_list_feed {T : String} {s : Shared} {Q : Value → Shared → Prop} {E : Value → Shared → Prop} (F : Feed prog w A.in1.in1 I s.heap.objs.size n G Z) (L : Lengthless T) (is : ∃ o, s.heap.get? I = some o ∧ o.cls = .type T) (self : Itself prog w I s.heap) (few : n ≤ sizeLine)
    (g : G 0 [] (s.heap.push { cls := .type "list", data := .seq #[] })) (fin : ∀ us h', us.length = n → Z us h' → Holds h' s.heap.objs.size us → Q (.ref s.heap.objs.size) { s with heap := h' }) : wpAny (model prog w) A (call (.type "list") [.ref I]) Q E s := by
  obtain ⟨o, at_, cls⟩ := is
  have there : (s.heap.push { cls := .type "list", data := .seq #[] }).get? I = s.heap.get? I := (Heap.get?_push_of_some _ at_).trans at_.symm
  have new := Heap.get?_push_size s.heap (o := { cls := .type "list", data := .seq #[] }) rfl
  refine callType_codes PySem.F.called_list (PySem.F.typeCall_list_1 _) PySem.F.entry_list_init (code_list_new (Q₁ := fun obj s1 => obj = .ref s.heap.objs.size ∧ s1 = { s with heap := s.heap.push { cls := .type "list", data := .seq #[] } }) _ ⟨rfl, rfl⟩) ?_
  rintro _ _ ⟨rfl, rfl⟩
  refine ⟨⟨_, new, rfl⟩, PySem.F.args_list_init_2 _ _, ?_⟩
  exact Feed.inits (s := { s with heap := s.heap.push { cls := .type "list", data := .seq #[] } }) F L ⟨o, there.trans at_, cls⟩ (fun same q => self (same.trans there) q) (Nat.ne_of_gt (Heap.lt_size at_)) few g ⟨0, new⟩ fun us h' len g' l => ⟨rfl, fin us h' len g' l⟩
end
/-! ### a zip of two lists, as a feed -/
/-- the places of a zip and of what it goes over, all of them ahead of the list that is filled -/
structure ZipOver (h0 : Heap) (z TI TO i1 i2 l1 l2 S : Addr) : Prop where
  apart : ZipApart z TI TO i1 i2 l1 l2
  ahead : z < S ∧ TI < S ∧ TO < S ∧ i1 < S ∧ i2 < S ∧ l1 < S ∧ l2 < S
  size : h0.objs.size ≤ S
/-- the pairs that were given: new ones behind S, of the things in their turn -/
structure Pairs (xs ys : Array Value) (S : Addr) (as : List Addr) (h : Heap) : Prop where
  rising : as.Pairwise (· < ·)
  behind : ∀ a ∈ as, S < a
  each : ∀ (j : Nat) (a : Addr), as[j]? = some a → ∃ x y, xs[j]? = some x ∧ ys[j]? = some y ∧ IsPair h a x y
section
variable {xs ys : Array Value} {S : Addr} {as : List Addr} {h h' : Heap}
theorem Pairs.at (p : Pairs xs ys S as h) (k : ∀ a ∈ as, ∀ o, h.get? a = some o → h'.get? a = some o) : Pairs xs ys S as h' :=
  ⟨p.rising, p.behind, fun j a e => (p.each j a e).imp fun _ q => q.imp fun _ q => ⟨q.1, q.2.1, k a (List.mem_of_getElem? e) _ q.2.2⟩⟩
theorem Pairs.lt (p : Pairs xs ys S as h) {a : Addr} (m : a ∈ as) : a < h.objs.size := by
  obtain ⟨j, e⟩ := List.mem_iff_getElem?.mp m
  obtain ⟨_, _, _, _, q⟩ := p.each j a e
  exact Heap.lt_size q
theorem Pairs.more (p : Pairs xs ys S as h) {i : Nat} {x y : Value} {a : Addr} (len : as.length = i) (hx : xs[i]? = some x) (hy : ys[i]? = some y) (new : ∀ b ∈ as, b < a) (far : S < a) (is : IsPair h a x y) : Pairs xs ys S (as ++ [a]) h := by
  refine ⟨List.pairwise_append.mpr ⟨p.rising, List.pairwise_singleton .., fun b hb c hc => List.mem_singleton.mp hc ▸ new b hb⟩, fun b hb => ?_, fun j b e => ?_⟩
  · exact (List.mem_append.mp hb).elim (p.behind b) fun z => List.mem_singleton.mp z ▸ far
  · by_cases lt : j < as.length
    · exact p.each j b (by rwa [List.getElem?_append_left lt] at e)
    · obtain ⟨rfl, rfl⟩ : j = i ∧ a = b := by
        rw [List.getElem?_append_right (by omega)] at e
        have z : j - as.length = 0 := by
          have := (List.getElem?_eq_some_iff.mp e).1
          simp at this
          omega
        rw [z] at e
        exact ⟨by omega, Option.some.inj e⟩
      exact ⟨x, y, hx, hy, is⟩
end
/-- ahead of turn i: the vs are references to the pairs given so far -/
structure ZipG (h0 : Heap) (z TI TO i1 i2 l1 l2 S : Addr) (xs ys : Array Value) (i : Nat) (vs : List Value) (h : Heap) : Prop where
  ins : IsPair h TI (.ref i1) (.ref i2)
  it1 : h.IsListIter i1 l1 i
  it2 : h.IsListIter i2 l2 i
  src1 : h.IsList l1 xs
  src2 : h.IsList l2 ys
  told : ∃ as, vs = as.map Value.ref ∧ as.length = i ∧ Pairs xs ys S as h ∧ ((i = 0 ∧ IsZip h z TI TO .none ∧ ∃ a b, IsPair h TO a b) ∨ ∃ T ∈ as, ∃ f, IsZipHeld h z TI TO T f)
  kept : ∀ b o, b ∉ [S, z, TO, i1, i2] → h0.get? b = some o → h.get? b = some o
/-- behind the last -/
def ZipZ (h0 : Heap) (z TO i1 i2 S : Addr) (xs ys : Array Value) (vs : List Value) (h : Heap) : Prop :=
  (∃ as, vs = as.map Value.ref ∧ as.length = min xs.size ys.size ∧ Pairs xs ys S as h) ∧ ∀ b o, b ∉ [S, z, TO, i1, i2] → h0.get? b = some o → h.get? b = some o
section
variable {prog : Program} {w : World} {A : Around} {h0 : Heap} {z TI TO i1 i2 l1 l2 S : Addr} {xs ys : Array Value} {i : Nat} {vs : List Value} {h h' : Heap}
/-- more than the zip's own cells is left as it was: that is all that its next asks -/
theorem ZipOver.far (D : ZipOver h0 z TI TO i1 i2 l1 l2 S) {a : Addr} (b : S ≤ a) : a ≠ z ∧ a ≠ TO ∧ a ≠ i1 ∧ a ≠ i2 := by
  obtain ⟨q1, _, q3, q4, q5, _⟩ := D.ahead
  exact ⟨Nat.ne_of_gt (Nat.lt_of_lt_of_le q1 b), Nat.ne_of_gt (Nat.lt_of_lt_of_le q3 b), Nat.ne_of_gt (Nat.lt_of_lt_of_le q4 b), Nat.ne_of_gt (Nat.lt_of_lt_of_le q5 b)⟩
theorem ZipG.at (D : ZipOver h0 z TI TO i1 i2 l1 l2 S) (g : ZipG h0 z TI TO i1 i2 l1 l2 S xs ys i vs h) (k : ∀ b o, b ≠ S → h.get? b = some o → h'.get? b = some o) : ZipG h0 z TI TO i1 i2 l1 l2 S xs ys i vs h' := by
  obtain ⟨q1, q2, q3, q4, q5, q6, q7⟩ := D.ahead
  obtain ⟨as, e, len, ps, way⟩ := g.told
  refine ⟨k _ _ (Nat.ne_of_lt q2) g.ins, g.it1.at fun o q => k _ o (Nat.ne_of_lt q4) q, g.it2.at fun o q => k _ o (Nat.ne_of_lt q5) q, g.src1.at fun o q => k _ o (Nat.ne_of_lt q6) q, g.src2.at fun o q => k _ o (Nat.ne_of_lt q7) q,
    ⟨as, e, len, ps.at fun a m o q => k a o (Nat.ne_of_gt (ps.behind a m)) q, ?_⟩, fun b o off q => k b o (fun z => off (z ▸ List.mem_cons_self ..)) (g.kept b o off q)⟩
  rcases way with ⟨e0, fresh, a, b, out⟩ | ⟨T, m, f, held⟩
  · exact .inl ⟨e0, k _ _ (Nat.ne_of_lt q1) fresh, a, b, k _ _ (Nat.ne_of_lt q3) out⟩
  · exact .inr ⟨T, m, f, k _ _ (Nat.ne_of_lt q1) held⟩
/-- the zip's next, all in one -/
theorem zip_feed (hh : A.handled = none) (D : ZipOver h0 z TI TO i1 i2 l1 l2 S) : Feed prog w A z S (min xs.size ys.size) (ZipG h0 z TI TO i1 i2 l1 l2 S xs ys) (ZipZ h0 z TO i1 i2 S xs ys) where
  blind f g := g.at D fun b o n q => (Heap.get?_update_other _ _ n.symm).trans q
  gives {i vs s Q E} lt g hasS fin := by
    obtain ⟨as, e, len, ps, way⟩ := g.told
    obtain ⟨oS, atS⟩ := hasS
    have farS := D.far (Nat.le_refl S)
    have hx : xs[i]? = some _ := Array.getElem?_eq_getElem (by omega)
    have hy : ys[i]? = some _ := Array.getElem?_eq_getElem (by omega)
    -- what stands behind the turn, whichever way it went
    have next : ∀ h', (h'.IsListIter i1 l1 (i + 1)) → h'.IsListIter i2 l2 (i + 1) → IsPair h' s.heap.objs.size xs[i] ys[i] → (∃ T ∈ as ++ [s.heap.objs.size], ∃ f, IsZipHeld h' z TI TO T f) → (∀ c o, c ≠ z → c ≠ TO → c ≠ i1 → c ≠ i2 → s.heap.get? c = some o → h'.get? c = some o) →
        Q (some (.ref s.heap.objs.size)) { s with heap := h' } := fun h' n1 n2 new held k => by
      refine fin _ h' ((k S _ farS.1 farS.2.1 farS.2.2.1 farS.2.2.2 atS).trans atS.symm) ⟨k _ _ D.apart.TIz D.apart.TITO D.apart.TIi1 D.apart.TIi2 g.ins, n1, n2, g.src1.at fun o q => k _ o D.apart.l1z D.apart.l1TO D.apart.l1i1 D.apart.l1i2 q,
        g.src2.at fun o q => k _ o D.apart.l2z D.apart.l2TO D.apart.l2i1 D.apart.l2i2 q, ⟨as ++ [s.heap.objs.size], by rw [e, List.map_append]; rfl, by rw [List.length_append, len]; rfl, ?_, .inr held⟩, fun b o off q => ?_⟩
      · refine (ps.at fun a m o q => ?_).more len hx hy (fun a m => ps.lt m) (Heap.lt_size atS) new
        obtain ⟨f1, f2, f3, f4⟩ := D.far (Nat.le_of_lt (ps.behind a m))
        exact k a o f1 f2 f3 f4 q
      · simp only [List.mem_cons, List.not_mem_nil, or_false, not_or] at off
        exact k b o off.2.1 off.2.2.1 off.2.2.2.1 off.2.2.2.2 (g.kept b o (by simpa only [List.mem_cons, List.not_mem_nil, or_false, not_or] using off) q)
    have last : s.heap.objs.size ∈ as ++ [s.heap.objs.size] := List.mem_append_right _ (List.mem_singleton.mpr rfl)
    rcases way with ⟨_, fresh, a, b, out⟩ | ⟨T, m, f, held⟩
    · exact wpAny_pyNext_zip_item D.apart fresh g.ins out g.it1 g.it2 g.src1 g.src2 hx hy fun h' c1 _ c3 c4 c5 _ k => next h' c3 c4 c5 ⟨_, last, false, c1⟩ k
    · obtain ⟨j, eT⟩ := List.mem_iff_getElem?.mp m
      obtain ⟨_, _, _, _, isT⟩ := ps.each j T eT
      exact wpAny_pyNext_zip_item_held D.apart held isT g.ins g.it1 g.it2 g.src1 g.src2 hx hy fun h' c1 c3 c4 c5 _ k => next h' c3 c4 c5 ⟨T, List.mem_append_left _ m, true, c1⟩ fun c o d1 _ d3 d4 q => k c o d1 d3 d4 q
  ends {vs s Q E} g hasS fin := by
    obtain ⟨as, e, len, ps, way⟩ := g.told
    obtain ⟨oS, atS⟩ := hasS
    have farS := D.far (Nat.le_refl S)
    have over : xs[min xs.size ys.size]? = none ∨ ys[min xs.size ys.size]? = none := by
      rcases Nat.le_total xs.size ys.size with q | q
      · exact .inl (Array.getElem?_eq_none (by omega))
      · exact .inr (Array.getElem?_eq_none (by omega))
    have stop : ∀ h', (∀ c o, c ≠ z → c ≠ TO → c ≠ i1 → c ≠ i2 → s.heap.get? c = some o → h'.get? c = some o) → Q none { s with heap := h' } := fun h' k => by
      refine fin h' ((k S _ farS.1 farS.2.1 farS.2.2.1 farS.2.2.2 atS).trans atS.symm) ⟨⟨as, e, len, ps.at fun a m o q => ?_⟩, fun b o off q => ?_⟩
      · obtain ⟨f1, f2, f3, f4⟩ := D.far (Nat.le_of_lt (ps.behind a m))
        exact k a o f1 f2 f3 f4 q
      · have q' := g.kept b o off q
        simp only [List.mem_cons, List.not_mem_nil, or_false, not_or] at off
        exact k b o off.2.1 off.2.2.1 off.2.2.2.1 off.2.2.2.2 q'
    rcases way with ⟨_, fresh, a, b, out⟩ | ⟨T, m, f, held⟩
    · exact wpAny_pyNext_zip_end hh D.apart fresh g.ins out g.it1 g.it2 g.src1 g.src2 over stop
    · obtain ⟨j, eT⟩ := List.mem_iff_getElem?.mp m
      obtain ⟨_, _, _, _, isT⟩ := ps.each j T eT
      exact wpAny_pyNext_zip_end_held hh D.apart held isT g.ins g.it1 g.it2 g.src1 g.src2 over fun h' k => stop h' fun c o d1 _ d3 d4 q => k c o d1 d3 d4 q
theorem zip_lengthless : Lengthless "zip" := ⟨by decide, by decide, am_miss_of_fast (by decide +kernel), am_miss_of_fast (by decide +kernel)⟩
/-- list(a zip that nothing was drawn from) -/
theorem call_list_zip {s : Shared} {Q : Value → Shared → Prop} {E : Value → Shared → Prop} (hh : A.handled = none) (D : ZipOver h0 z TI TO i1 i2 l1 l2 s.heap.objs.size) (few : min xs.size ys.size ≤ sizeLine)
    (g : ZipG h0 z TI TO i1 i2 l1 l2 s.heap.objs.size xs ys 0 [] s.heap) (new : IsZip s.heap z TI TO .none) (fin : ∀ us h', Holds h' s.heap.objs.size us → ZipZ h0 z TO i1 i2 s.heap.objs.size xs ys us h' → Q (.ref s.heap.objs.size) { s with heap := h' }) :
    wpAny (model prog w) A (call (.type "list") [.ref z]) Q E s :=
  call_list_feed (zip_feed hh D) zip_lengthless ⟨_, new, rfl⟩ (fun same q => wpAny_pyIter_zip (same.trans new) q) few (g.at D fun _ _ _ q => Heap.get?_push_of_some _ q) fun us h' _ told l => fin us h' l told
end
/-! ### laid -/
section
variable {X : Cx} {pins : List (Addr × Obj)} {σ : L2.St} {s : Shared}
/-- new pairs, tracked one by one -/
theorem track_pairs : ∀ {as : List Addr} {ps : List (V × V)} {H : Hp}, L2.Inv X pins σ H s → Paired (fun a p => ∃ x y, IsPair s.heap a x y ∧ RelV p.1 x ∧ RelV p.2 y) as ps → as.Nodup → (∀ a ∈ as, H a = none ∧ Fresh X pins a) →
    ∃ H' : Hp, L2.Inv X pins σ H' s ∧ (∀ b, b ∉ as → H' b = H b) ∧ Paired (fun a p => H' a = some (.tup [p.1, p.2])) as ps
  | _, _, H, I, .nil, _, _ => ⟨H, I, fun _ _ => rfl, .nil⟩
  | a :: as, p :: ps, H, I, .cons ⟨x, y, is, r1, r2⟩ more, nd, free => by
    obtain ⟨na, nd'⟩ := List.nodup_cons.mp nd
    obtain ⟨un, f⟩ := free a (List.mem_cons_self ..)
    have I1 := track I un f (u := .tup [p.1, p.2]) ⟨by show 2 ≤ sizeLine; decide, [x, y], .cons r1 (.cons r2 .nil), _, is, rfl, _, rfl⟩
    obtain ⟨H', J, off, each⟩ := track_pairs I1 more nd' fun b m => ⟨(upd_ne (fun z : b = a => na (z ▸ m))).trans (free b (List.mem_cons_of_mem _ m)).1, (free b (List.mem_cons_of_mem _ m)).2⟩
    exact ⟨H', J, fun b m => (off b fun z => m (List.mem_cons_of_mem _ z)).trans (upd_ne fun z => m (z ▸ List.mem_cons_self ..)), .cons ((off a na).trans upd_same) each⟩
theorem paired_of {α β : Type} {F : α → β → Prop} : ∀ {as : List α} {bs : List β}, as.length = bs.length → (∀ (j : Nat) (a : α) (b : β), as[j]? = some a → bs[j]? = some b → F a b) → Paired F as bs
  | [], [], _, _ => .nil
  | a :: as, b :: bs, len, f => .cons (f 0 a b rfl rfl) (paired_of (Nat.succ.inj len) fun j a b e1 e2 => f (j + 1) a b e1 e2)
end
/-- list(zip(a, b)): a new list of new pairs -/
def rListZip (K : PySem.W.Frag) : List V → Hp → VK → Prop := fun vs H Q => ∃ (a b : Addr) (xs ys : List V), vs = [.ref a, .ref b] ∧ SqL K H a xs ∧ SqL K H b ys ∧
  ∀ (H' : Hp) (p : Addr) (ts : List Addr), (∀ b o, H b = some o → H' b = some o) → H p = none → (∀ t ∈ ts, H t = none) → p ∉ ts → H' p = some (.lst (ts.map V.ref)) → Paired (fun (t : Addr) (q : V × V) => H' t = some (.tup [q.1, q.2])) ts (xs.zip ys) → Q (.ref p) H'
def tListZip (K : PySem.W.Frag) (ta : TA) : TE := fun σ H Q => ta σ H fun vs H1 => rListZip K vs H1 Q
section
variable {X : Cx} {e e2 : Expr} {ta : TA} {p p2 pos pos2 : Pos}
/-- the call of list on a new zip of two lists that are read -/
theorem list_zip_laid {pins : List (Addr × Obj)} {σ : L2.St} {H : Hp} {s : Shared} {Q : VK} {a b : Addr} {xs ys : List V} (hc : X.calm = true) (I : L2.Inv X pins σ H s) (hx : SqL X.K H a xs) (hy : SqL X.K H b ys)
    (q : ∀ (H' : Hp) (p : Addr) (ts : List Addr), (∀ b o, H b = some o → H' b = some o) → H p = none → (∀ t ∈ ts, H t = none) → p ∉ ts → H' p = some (.lst (ts.map V.ref)) → Paired (fun (t : Addr) (q : V × V) => H' t = some (.tup [q.1, q.2])) ts (xs.zip ys) → Q (.ref p) H') :
    wpAny (model X.prog X.w) X.A (call (.type "zip") [.ref a, .ref b]) (fun v s' => wpAny (model X.prog X.w) X.A (call (.type "list") [v]) (EP X pins σ Q) X.xe s') X.xe s := by
  obtain ⟨its, r1, pl1, few⟩ := I.list hx
  obtain ⟨jts, r2, pl2, _⟩ := I.list hy
  have a_lt := pl1.lt
  have b_lt := pl2.lt
  refine call_zip_2 pl1.isList pl2.isList fun h' isZ isTI isTO it1 it2 size k => ?_
  have D : ZipOver s.heap (s.heap.objs.size + 4) (s.heap.objs.size + 2) (s.heap.objs.size + 3) s.heap.objs.size (s.heap.objs.size + 1) a b h'.objs.size :=
    ⟨PySem.W.ktu_apart s.heap.objs.size a b a_lt b_lt, by rw [size]; refine ⟨?_, ?_, ?_, ?_, ?_, ?_, ?_⟩ <;> first | exact Nat.lt_add_of_pos_right (by decide) | exact Nat.add_lt_add_left (by decide) _ | exact Nat.lt_of_lt_of_le a_lt (Nat.le_add_right ..) | exact Nat.lt_of_lt_of_le b_lt (Nat.le_add_right ..), by rw [size]; exact Nat.le_add_right ..⟩
  have l1 := r1.length
  have l2 := r2.length
  refine call_list_zip (s := { s with heap := h' }) (xs := its.toArray) (ys := jts.toArray) (I.ok.hd hc) D (by simp only [List.size_toArray]; omega)
    ⟨isTI, it1, it2, pl1.isList.at fun o e => k _ o e, pl2.isList.at fun o e => k _ o e, ⟨[], rfl, rfl, ⟨.nil, fun _ m => (nomatch m), fun _ _ e => (nomatch e)⟩, .inl ⟨rfl, isZ, _, _, isTO⟩⟩, fun b o _ e => k b o e⟩ isZ ?_
  rintro us h'' ⟨c, atS⟩ ⟨⟨as, rfl, len, ps⟩, kept⟩
  have grown : ∀ c o, s.heap.get? c = some o → h''.get? c = some o := fun c o e => kept c o (fun m => by
    have lt := Heap.lt_size e
    have old : ∀ n, c ≠ s.heap.objs.size + n := fun n => Nat.ne_of_lt (Nat.lt_of_lt_of_le lt (Nat.le_add_right ..))
    rw [size] at m
    simp only [List.mem_cons, List.not_mem_nil, or_false, old, false_or] at m
    exact old 0 m) e
  have free : ∀ c, h'.objs.size ≤ c → H c = none ∧ Fresh X pins c := fun c le => by
    have out : s.heap.objs.size ≤ c := Nat.le_trans (by rw [size]; exact Nat.le_add_right ..) le
    refine ⟨I.hok.fresh out, Fresh.of I ?_⟩
    cases z : s.heap.get? c with
    | none => rfl
    | some o => exact absurd (Heap.lt_size z) (Nat.not_lt.mpr out)
  have I0 : L2.Inv X pins σ H { s with heap := h'' } := I.kept (t' := s.toks) grown
  have apart : h'.objs.size ∉ as := fun m => Nat.lt_irrefl _ (ps.behind _ m)
  have long : as.length = (xs.zip ys).length := by rw [len, List.length_zip, l1, l2]; rfl
  have each : Paired (fun a p => ∃ x y, IsPair h'' a x y ∧ RelV p.1 x ∧ RelV p.2 y) as (xs.zip ys) := paired_of long fun j t pr e1 e2 => by
    obtain ⟨x, y, f1, f2, is⟩ := ps.each j t e1
    obtain ⟨g1, g2⟩ := List.getElem?_zip_eq_some.mp e2
    obtain ⟨u1, w1, rel1⟩ := r1.get g1
    obtain ⟨u2, w2, rel2⟩ := r2.get g2
    rw [List.getElem?_toArray] at f1 f2
    cases f1.symm.trans w1
    cases f2.symm.trans w2
    exact ⟨x, y, is, rel1, rel2⟩
  obtain ⟨unS, freshS⟩ := free _ (Nat.le_refl _)
  have unT : ∀ t ∈ as, H t = none := fun t m => (free t (Nat.le_of_lt (ps.behind t m))).1
  have small : (as.map V.ref).length ≤ sizeLine := by rw [List.length_map, long, List.length_zip]; omega
  have I1 := track I0 unS freshS (u := .lst (as.map V.ref)) ⟨small, as.map Value.ref, c, LiI.vals_refs as, atS⟩
  obtain ⟨H2, J, off, told⟩ := track_pairs I1 each (ps.rising.imp fun z => Nat.ne_of_lt z) fun t m => ⟨(upd_ne fun z : t = h'.objs.size => apart (z ▸ m)).trans (unT t m), (free t (Nat.le_of_lt (ps.behind t m))).2⟩
  refine ⟨.ref _, H2, J, rfl, q H2 _ as (fun b o e => ?_) unS unT apart ((off _ apart).trans upd_same) told⟩
  have known : ∀ {b'}, H b' = none → b ≠ b' := fun un z => by
    rw [z, un] at e
    cases e
  exact (off b fun m => known (unT b m) rfl).trans ((upd_ne (known unS)).trans e)
/-- the two calls, one in the other -/
theorem pe_listZip (hc : X.calm = true) (ha : PA X [e, e2] ta) (hg : Gl X "list") (hm : X.mg "list" = none) (hv : bootBuiltins "list" = some (.type "list")) (hg2 : Gl X "zip") (hm2 : X.mg "zip" = none)
    (hs : starEach [.Call (.Name "zip" p2) [e, e2] [] pos2] X.env = (false, eval (.Call (.Name "zip" p2) [e, e2] [] pos2) X.env) :: starEach [] X.env := by rfl)
    (hs2 : starEach [e, e2] X.env = (false, eval e X.env) :: starEach [e2] X.env := by rfl) (hpl : (backTo pos2 (starEach [e2] X.env)).any (·.1) = false := by rfl) :
    PE X (.Call (.Name "list" p) [.Call (.Name "zip" p2) [e, e2] [] pos2] [] pos) (tListZip X.K ta) := by
  refine ⟨fun pins s σ H Q I wish => wpAny_Call_Name_kw (ld_blt I hg hm hv (PyProof.Rows.callWith_type1 ?_ hs rfl))⟩
  have zipped : wpAny (model X.prog X.w) X.A (eval (.Call (.Name "zip" p2) [e, e2] [] pos2) X.env) (fun v s' => wpAny (model X.prog X.w) X.A (call (.type "list") [v]) (EP X pins σ Q) X.xe s') X.xe s := by
    refine Call_ (ld_blt I hg2 hm2 PyProof.Rows.boot_zip (PyProof.Rows.callWith_type1 (thn (ha.run pos2 pins s σ H _ I wish) ?_) hs2 hpl))
    rintro _ s1 ⟨_, H1, I1, rel, a, b, xs, ys, rfl, hx, hy, q⟩
    obtain ⟨u, rfl, ru⟩ := ref_and rel
    obtain rfl : u = .ref b := ru
    exact list_zip_laid hc I1 hx hy q
  rw [hs]
  exact Calls.spliced_cons (wpAny_mono zipped (fun v s' told => Calls.spliced_nil told) fun _ _ z => z)
end
end Own

set_option Elab.async false
set_option linter.all false
set_option maxRecDepth 100000
set_option maxHeartbeats 4000000
namespace K02
open PySem PySem.Spec PyProof.Rows L2 Own
/-! ### fewest -/
structure TxtFE (mg : Str → Option Value) : Prop where
  f_len : mg "len" = none
  f_list : mg "list" = none
  f_range : mg "range" = none
  f_zip : mg "zip" = none
noncomputable def dueH (m : Nat) (rows : List TRow) : List Nat := if (heads m (ends (solid rows))).length < 2 then [] else (heads m (ends (solid rows))).filter fun h => decide ((leadO m rows h).length < 2)
theorem due_eq (m : Nat) (rows : List TRow) : dueF m rows = (dueH m rows).map fun h => (cls m (ends (solid rows)) h, 2 - (leadO m rows h).length) := by
  unfold dueF dueH
  split <;> rfl
theorem due_in {m : Nat} {rows : List TRow} {h : Nat} (hh : h ∈ dueH m rows) : h ∈ heads m (ends (solid rows)) := by
  unfold dueH at hh
  split at hh
  · exact absurd hh List.not_mem_nil
  · exact (List.mem_filter.mp hh).1
theorem want_due (m : Nat) (rows : List TRow) (p : Nat) : wantF m rows p = if p ∈ dueH m rows then 2 - (leadO m rows p).length else 0 := by
  unfold wantF dueH
  by_cases two : 2 ≤ (heads m (ends (solid rows))).length
  · rw [if_neg (show ¬ (heads m (ends (solid rows))).length < 2 by omega)]
    by_cases hp : p ∈ heads m (ends (solid rows))
    · rw [if_pos ⟨two, hp⟩]
      by_cases l : (leadO m rows p).length < 2
      · rw [if_pos (List.mem_filter.mpr ⟨hp, decide_eq_true l⟩)]
      · have ni : ¬ p ∈ (heads m (ends (solid rows))).filter fun h => decide ((leadO m rows h).length < 2) := fun z => l (of_decide_eq_true (List.mem_filter.mp z).2)
        rw [if_neg ni]
        omega
    · have ni : ¬ p ∈ (heads m (ends (solid rows))).filter fun h => decide ((leadO m rows h).length < 2) := fun z => hp (List.mem_filter.mp z).1
      rw [if_neg (fun z => hp z.2), if_neg ni]
  · rw [if_neg (fun z => two z.1), if_pos (show (heads m (ends (solid rows))).length < 2 by omega), if_neg List.not_mem_nil]
theorem want_le {m : Nat} {rows : List TRow} {p : Nat} : wantF m rows p ≤ 2 := by
  unfold wantF
  split <;> omega
theorem rep_len (f : Nat → Nat) (h : ∀ p, f p ≤ 2) : ∀ L : List Nat, (L.flatMap fun p => List.replicate (f p) p).length ≤ 2 * L.length
  | [] => Nat.zero_le _
  | p :: L => by
    have ih := rep_len f h L
    rw [List.flatMap_cons, List.length_append, List.length_replicate]
    have := h p
    show _ ≤ 2 * (L.length + 1)
    omega
theorem depth_len {m : Nat} {rows : List TRow} {g : Nat} (inm : ∀ q ∈ ends rows, q.1 < m ∧ q.2 < m) (m16 : m ≤ 16) (hg : g < m) : (inDepthF (bothWays rows) g).length ≤ 16 := by
  obtain ⟨nd, mem⟩ := in_depth (steps := bothWays rows) g
  have := nodup_le (m := m) nd fun q hq => (led_both.mp ((mem q).mp hq)).lt inm hg
  omega
theorem word_len {m : Nat} {rows : List TRow} {g : Nat} (inm : ∀ q ∈ ends rows, q.1 < m ∧ q.2 < m) (m16 : m ≤ 16) (hg : g < m) : (wordF m rows g).length ≤ 32 := by
  have a := depth_len inm m16 hg
  have b := rep_len (wantF m rows) (fun _ => want_le) (inDepthF (bothWays rows) g)
  unfold wordF
  omega
theorem chain_step {ws : List (List Nat)} {S : Join × List Nat} {i : Nat} {wt : List Nat} (h : ws[i]? = some wt) : (ws.take (i + 1)).foldl stepC S = stepC ((ws.take i).foldl stepC S) wt := by
  rw [take_snoc h, List.foldl_append]
  rfl
theorem chain_len : ∀ (ws : List (List Nat)) (S : Join × List Nat), (∀ wt ∈ ws, wt.length ≤ 32) → (ws.foldl stepC S).1.length ≤ S.1.length + ws.length ∧ (ws.foldl stepC S).2.length ≤ S.2.length + 32 * ws.length
  | [], S, _ => ⟨Nat.le_refl _, Nat.le_refl _⟩
  | wt :: ws, S, h => by
    obtain ⟨a, b⟩ := chain_len ws (stepC S wt) fun q hq => h q (List.mem_cons_of_mem _ hq)
    have l := h wt (List.mem_cons_self ..)
    have c : (stepC S wt).1.length ≤ S.1.length + 1 ∧ (stepC S wt).2.length ≤ S.2.length + 32 := by
      unfold stepC
      split
      · refine ⟨Nat.le_succ _, ?_⟩
        show wt.length ≤ _
        omega
      · refine ⟨by rw [List.length_append]; exact Nat.le_refl _, ?_⟩
        show (S.2.dropLast ++ wt.tail).length ≤ _
        rw [List.length_append, List.length_dropLast, List.length_tail]
        omega
    rw [List.foldl_cons]
    show _ ≤ _ + (ws.length + 1) ∧ _ ≤ _ + 32 * (ws.length + 1)
    omega
theorem chain_none {m : Nat} {rows : List TRow} (h : ¬ 2 ≤ (heads m (ends (solid rows))).length) (i : Nat) : ((wordsF m rows).take i).foldl stepC ([], []) = ([], []) := by
  have e : ∀ wt ∈ (wordsF m rows).take i, wt = [] := fun wt hwt => by
    obtain ⟨g, _, e⟩ := List.mem_map.mp (List.mem_of_mem_take hwt)
    rw [← e]
    refine List.eq_nil_iff_forall_not_mem.mpr fun x hx => ?_
    have := (mem_word.mp hx).2
    unfold wantF at this
    rw [if_neg fun z => h z.1] at this
    exact absurd this (by decide)
  have key : ∀ ws : List (List Nat), (∀ wt ∈ ws, wt = []) → ws.foldl stepC ([], []) = ([], []) := fun ws => by
    induction ws with
    | nil => exact fun _ => rfl
    | cons wt ws ih =>
      intro h
      rw [List.foldl_cons, h wt (List.mem_cons_self ..)]
      exact ih fun q hq => h q (List.mem_cons_of_mem _ hq)
  exact key _ e
theorem newE_get {H H' : Hp} {r : Addr} : ∀ {vs : List V} {xs : List (List Nat × Nat)} {i : Nat} {v : V}, NewE H H' r vs xs → vs[i]? = some v → ∃ q t x, v = V.ref q ∧ xs[i]? = some x ∧ H q = none ∧ H' q = some (.tup [.ref t, natV x.2]) ∧ t ≠ r ∧ H t = none ∧ H' t = some (.lst (x.1.map natV))
  | _, _, _, _, .nil, e => by simp at e
  | _, _, 0, _, .cons ⟨q, t, e, h1, h2, h3, h4, h5⟩ _, z => by
    simp at z
    exact ⟨q, t, _, by rw [← z, e], rfl, h1, h2, h3, h4, h5⟩
  | _, _, i + 1, v, .cons _ b, z => by
    obtain ⟨q, t, x, h1, h2, h3⟩ := newE_get (i := i) (v := v) b (by simpa using z)
    exact ⟨q, t, x, h1, by simpa using h2, h3⟩
theorem natV_snoc (L : List Nat) (q : Nat) : (L ++ [q]).map natV = L.map natV ++ [natV q] := by
  rw [List.map_append]
  rfl
theorem pairs_zip : ∀ (as bs : List Nat), (List.zip (as.map natV) (bs.map natV)).map (fun q => [q.1, q.2]) = (List.zip as bs).map pairV
  | [], _ => rfl
  | _ :: _, [] => rfl
  | _ :: as, _ :: bs => congrArg (_ :: ·) (pairs_zip as bs)
theorem tups_paired {H : Hp} : ∀ {ts : List Addr} {ps : List (V × V)}, Paired (fun (t : Addr) (q : V × V) => H t = some (.tup [q.1, q.2])) ts ps → Tups H (ts.map V.ref) (ps.map fun q => [q.1, q.2])
  | _, _, .nil => .nil
  | _, _, .cons a b => .cons ⟨_, rfl, a⟩ (tups_paired b)
theorem tups_cat {H : Hp} : ∀ {vs us : List V} {xss yss : List (List V)}, Tups H vs xss → Tups H us yss → Tups H (vs ++ us) (xss ++ yss)
  | _, _, _, _, .nil, b => b
  | _, _, _, _, .cons a r, b => .cons a (tups_cat r b)
theorem putK_len (kvs : List (Key × V)) (k : Key) (v : V) : (putK kvs k v).length ≤ kvs.length + 1 := by
  unfold putK
  split <;> simp
def spFewest (C : Addr) : Sp := fun vs H Q _ => ∃ (p d : Addr) (m : Nat) (rows : List TRow) (n : Nat), vs = [.ref p] ∧ TownAt C H p d m rows n ∧
  ∀ (r : Addr) (zs : List V) (H' : Hp), H r = none → Same H H' → H' r = some (.lst zs) → Tups H' zs ((fewestF m rows).map pairV) → Q (.ref r) H'
abbrev s_fewest : Stmt := top 25
abbrev N_fewest : List Str := ["town", "steps", "wants", "told", "free", "part", "walk", "wanting", "half", "piece", "many", "place", "_"]
theorem sc_fewest : FnScope N_fewest ["town"] (defScope s_fewest) := ⟨rfl, rfl, rfl, by decide +kernel, rfl, by decide +kernel, by decide +kernel⟩
section
variable {P : Program} {w : World} {K : PySem.W.Frag} {mg : Str → Option Value} {base : Heap} {f : Addr} {fd : FuncData}
theorem ok_fewest (T : TxtFE mg) (D : FnP K "fewest" "fewest" s_fewest f fd) (c_both_ways : CalX P w K mg base 1 "both_ways" spBoth) (c_ends : CalX P w K mg base 5 "ends" (spEndsT (gA K "Town"))) (c_parts : CalX P w K mg base 4 "parts" (spPartsT (gA K "Town")))
    (c_in_depth : CalX P w K mg base 1 "_in_depth" spDepth) (c_Town_streets : MetX P w K mg base 1 (gA K "Town") "streets" (spStreets (gA K "Town"))) :
    FnOk P w K mg base (L2.CX P w) 6 f fd ["town"] (spFewest (gA K "Town")) := by
  have nd := sc_fewest.nd
  refine D.ok sc_fewest (fun vs H Q E h => ?_) (fun cdv A outer s H vs Q E hr h => ?_)
  · obtain ⟨p, d, m, rows, n, rfl, _⟩ := h
    rfl
  · obtain ⟨p, d, m, rows, n, rfl, W, k⟩ := h
    have hu := hu_of hr
    obtain ⟨f_both_ways, fd_both_ways, ps_both_ways, F_both_ways, m_both_ways, k_both_ways, b_both_ways⟩ := c_both_ways.ex
    obtain ⟨f_ends, fd_ends, ps_ends, F_ends, m_ends, k_ends, b_ends⟩ := c_ends.ex
    obtain ⟨f_parts, fd_parts, ps_parts, F_parts, m_parts, k_parts, b_parts⟩ := c_parts.ex
    obtain ⟨f_in_depth, fd_in_depth, ps_in_depth, F_in_depth, m_in_depth, k_in_depth, b_in_depth⟩ := c_in_depth.ex
    obtain ⟨f_Town_streets, fd_Town_streets, ps_Town_streets, c_Town_streets, M_Town_streets, F_Town_streets, b_Town_streets⟩ := c_Town_streets.ex
    refine ⟨_, (pss_cons (ps_set (i := 1) nd rfl (Or.inl rfl) (pe_call F_both_ways (hr.mono (by decide)) rfl m_both_ways k_both_ways b_both_ways .nil passF (pa_cons (pe_meth0 (pv 0) c_Town_streets M_Town_streets F_Town_streets (hr.mono (by decide)) b_Town_streets .nil passF) pa_nil)))
      (pss_cons (ps_set (i := 2) nd rfl (Or.inr rfl) (pe_dc (own := [("piece", 9), ("many", 10)]) (g := (gTup K 2 (gCons (gName 9) (gCons (gName 10) gNil)))) (tk := tOp (rIxL K) (tVar 9) (tC (.int 0))) rfl nd (pi_list (pe_call F_ends (hr.mono (by decide)) rfl m_ends k_ends b_ends .nil passF (pa_cons (pv 0) pa_nil))) (blkOk_by (own := [("piece", 9), ("many", 10)]) (N := N_fewest) (sc := defScope s_fewest) (by decide +kernel)) (fun _ _ _ _ _ => (pg_tup rfl (pgs_cons (pg_name (i := 9) nd rfl (Or.inl rfl)) (pgs_cons (pg_name (i := 10) nd rfl (Or.inl rfl)) pgs_nil)))) (fun _ _ _ _ _ => pts_nil) (fun _ _ _ _ _ => (pe_ix ix_list (pv 9) pe_int (fun _ _ => rfl))) (fun _ _ _ _ _ => (pv 10))))
      (pss_cons (ps_set (i := 3) nd rfl (Or.inl rfl) (pe_lst pa_nil))
      (pss_cons (ps_set (i := 4) nd rfl (Or.inl rfl) (pe_lst pa_nil))
      (pss_cons (ps_for (passes_of rfl) rfl (pi_list (pe_call F_parts (hr.mono (by decide)) rfl m_parts k_parts b_parts .nil passF (pa_cons (pv 0) pa_nil))) (pg_name (i := 5) nd rfl (Or.inl rfl)) (pss_cons (ps_set (i := 6) nd rfl (Or.inl rfl) (pe_call F_in_depth (hr.mono (by decide)) rfl m_in_depth k_in_depth b_in_depth .nil passF (pa_cons (pv 1) (pa_cons (pe_ix ix_list (pv 5) pe_int (fun _ _ => rfl)) pa_nil))))
      (pss_cons (ps_setLc2 (own := [("place", 11), ("_", 12)]) (vs1 := [12]) (i := 7) (g := (gName 11)) (g1 := (gName 12)) rfl nd rfl rfl (sw_true rfl rfl rfl (by decide +kernel)) (pi_list (pv 6)) (blkOk_by (own := [("place", 11), ("_", 12)]) (N := N_fewest) (sc := defScope s_fewest) (by decide +kernel)) (by decide) (fun _ _ _ _ _ => (pg_name (i := 11) nd rfl (Or.inl rfl))) (fun _ _ _ _ _ => pts_nil) (fun _ _ _ _ _ => (pi_range1 rfl T.f_range (pa_cons (pe_dget2 hu (pv 2) (pv 11) pe_int ⟨rfl, rfl, rfl, rfl⟩) pa_nil))) (fun _ _ _ _ _ => (pg_name (i := 12) nd rfl (Or.inl rfl))) (fun _ _ _ _ _ => pts_nil) (fun _ _ _ _ _ => (pv 11)))
      (pss_cons (ps_if (pt_truth (pv 4) (by intro _; rfl)) (pss_one (ps_expr (pe_bm PySem.F.plainAttrs_list PySem.F.slot_list_append PySem.F.type_list_append mt_append (pv 3) (pa_cons (pe_tup (pa_cons (pe_bm0 PySem.F.plainAttrs_list PySem.F.slot_list_pop PySem.F.type_list_pop mt_pop (pv 4)) (pa_cons (pe_bm PySem.F.plainAttrs_list PySem.F.slot_list_pop PySem.F.type_list_pop mt_popAt (pv 7) (pa_cons pe_int pa_nil)) pa_nil))) pa_nil)))) pss_nil)
      (pss_one (ps_expr (pe_bm PySem.F.plainAttrs_list PySem.F.slot_list_extend PySem.F.type_list_extend mt_extend (pv 4) (pa_cons (pv 7) pa_nil))))))))
      (pss_cons (ps_set (i := 8) nd rfl (Or.inl rfl) (pe_op op_fdiv (pe_callB call_len_seq rfl T.f_len PySem.boot_len (pa_cons (pv 4) pa_nil)) pe_int))
      (pss_one (ps_ret (pe_op op_cat (pv 3) (pe_listZip rfl (pa_cons (pv 4) (pa_cons (pe_slice sl_list (pv 4) (po_some (pv 8)) po_none) pa_nil)) rfl T.f_list (by decide +kernel) rfl T.f_zip)))))))))), ?_⟩
    obtain ⟨dx, hp⟩ := W.ob
    have rise := W.ok.rise
    have u := rise_one rise
    have inm := town_inm W
    have m16 := W.pm.2
    refine at_seq (at_asg ?_)
    refine ⟨_, rfl, p, dx, _, rfl, hp, tF_no _ _ _ (by decide +kernel) (by decide +kernel) (by decide +kernel), p, d, m, rows, n, rfl, W, fun l H1 hl sm1 tl => ?_⟩
    refine ⟨l, rows, rfl, tl, W.ok.few, fun sl H2 hsl sm2 tls => ?_⟩
    dsimp only [gName]
    refine nice (σ' := [some (.ref p), some (.ref sl), none, none, none, none, none, none, none, none, none, none, none]) rfl ?_
    have sm12 := sm1.trans sm2
    have W2 := W.same sm12
    refine at_seq (at_asg ?_)
    refine ⟨_, rfl, p, d, m, rows, n, rfl, W2, fun er ez H3 her sm3 ee ne => ⟨er, rfl, ⟨ez, SqL.of ee⟩, fun D0 hD0 => ?_⟩⟩
    rw [due_eq] at ne
    have lez : ez.length = (dueH m rows).length := by rw [Paired.length ne, List.length_map]
    have l16 : (dueH m rows).length ≤ 60 := by
      have := heads_len (m := m) (ps := ends (solid rows))
      unfold dueH
      split
      · exact Nat.zero_le _
      · have z := List.length_filter_le (fun h => decide ((leadO m rows h).length < 2)) (heads m (ends (solid rows)))
        omega
    refine gen_it (walk_list (K := K) (xs := ez)) (fun i H' => ∃ kvs : List (Key × V), H' D0 = some (.dK kvs) ∧ kvs.length ≤ i ∧ (∀ q : Nat, valV kvs (Sum.inl (q : Int) : Key) = if q ∈ (dueH m rows).take i then some (natV (2 - (leadO m rows q).length)) else none) ∧ Same H3 H') ⟨[], upd_same, Nat.le_refl _, fun q => by rw [List.take_zero, if_neg List.not_mem_nil]; rfl, same_new hD0⟩ (fun _ _ _ ⟨_, _, _, _, z⟩ => SqL.of (z _ _ ee)) ?_ ?_
    · rintro i x H6 H7 hi ⟨kvs, e1, lk, vk, sm⟩ ⟨rfl, hx⟩
      obtain ⟨q, t, y, rfl, hy, _, hq, _, _, ht⟩ := newE_get ne hx
      obtain ⟨h, hh⟩ : ∃ h, (dueH m rows)[i]? = some h := ⟨_, List.getElem?_eq_getElem (by omega)⟩
      rw [List.getElem?_map, hh] at hy
      cases hy
      have hq6 := sm _ _ hq
      have ht6 := sm _ _ ht
      have hin := due_in (List.mem_of_getElem? hh)
      have c0 : (cls m (ends (solid rows)) h)[0]? = some h := by
        have z := cls_take (mem_heads.mp hin).1 (mem_heads.mp hin).2
        cases e : cls m (ends (solid rows)) h with
        | nil =>
          rw [e] at z
          cases z
        | cons a as =>
          rw [e] at z
          cases z
          rfl
      have c0' : ((cls m (ends (solid rows)) h).map natV)[0]? = some (natV h) := by rw [List.getElem?_map, c0]; rfl
      refine ⟨q, _, rfl, SqT.of hq6, rfl, _, _, rfl, _, _, rfl, rfl, rfl, ?_⟩
      refine ⟨_, rfl, t, _, _, _, rfl, rfl, SqL.of ht6, atI_nat (j := 0) c0', ?_⟩
      refine ⟨_, rfl, kvs, Sum.inl (h : Int), rfl, e1, by rw [sizeLine_eq]; omega, _, upd_same, ?_, fun p0 => ?_, same_over hD0 sm⟩
      · exact Nat.le_trans (putK_len _ _ _) (by omega)
      · rw [valV_put, take_snoc hh]
        by_cases ep : p0 = h
        · subst ep
          rw [if_pos rfl, if_pos (List.mem_append_right _ (List.mem_singleton.mpr rfl))]
        · have ne : ¬ (Sum.inl (p0 : Int) : Key) = Sum.inl (h : Int) := fun z => ep (Int.ofNat.inj (Sum.inl.inj z))
          rw [if_neg ne, vk]
          have iff : p0 ∈ (dueH m rows).take i ++ [h] ↔ p0 ∈ (dueH m rows).take i := by
            rw [List.mem_append, List.mem_singleton]
            exact ⟨fun z => z.resolve_right ep, .inl⟩
          by_cases z : p0 ∈ (dueH m rows).take i
          · rw [if_pos z, if_pos (iff.mpr z)]
          · rw [if_neg z, if_neg (fun y => z (iff.mp y))]
    rintro H4 ⟨kvs, ekv, lkv, vk, sm4⟩
    rw [lez, List.take_length] at vk
    dsimp only [gName]
    refine nice (σ' := [some (.ref p), some (.ref sl), some (.ref D0), none, none, none, none, none, none, none, none, none, none]) rfl ?_
    have W4 := (W2.same sm3).same sm4
    have tls4 := tl_same (tl_same tls sm3) sm4
    have smH4 := (sm12.trans sm3).trans sm4
    clear ne ee lez W2 tls sm1 sm2 tl hl hsl her hD0
    refine at_seq (at_asg ?_)
    refine ⟨(by show 0 ≤ sizeLine; decide), fun ta hta => ?_⟩
    have c1 := same_new (o := .lst []) hta
    dsimp only [gName]
    refine nice (σ' := [some (.ref p), some (.ref sl), some (.ref D0), some (.ref ta), none, none, none, none, none, none, none, none, none]) rfl ?_
    refine at_seq (at_asg ?_)
    refine ⟨(by show 0 ≤ sizeLine; decide), fun fa hfa => ?_⟩
    have c2 := same_new (o := .lst []) hfa
    dsimp only [gName]
    refine nice (σ' := [some (.ref p), some (.ref sl), some (.ref D0), some (.ref ta), some (.ref fa), none, none, none, none, none, none, none, none]) rfl ?_
    have htaH := smH4.free hta
    have hfaH := smH4.free (c1.free hfa)
    have nft : fa ≠ ta := fun z => by
      rw [z, upd_same] at hfa
      cases hfa
    have eta := c2 _ _ (upd_same (H := H4) (a := ta) (o := .lst []))
    have efa := upd_same (H := upd H4 ta (.lst [])) (a := fa) (o := .lst [])
    have sm5 := c1.trans c2
    generalize upd (upd H4 ta (.lst [])) fa (.lst []) = H5 at *
    have ekv5 := sm5 _ _ ekv
    have W5 := W4.same sm5
    have tls5 := tl_same tls4 sm5
    have smH5 := smH4.trans sm5
    have nof : ∀ {x o}, H4 x = some o → x ≠ ta ∧ x ≠ fa := fun {x o} e => ⟨ne_of_none e hta, ne_of_none e (c1.free hfa)⟩
    have nkv := nof ekv
    have nsl : sl ≠ ta ∧ sl ≠ fa := by
      obtain ⟨_, e, _⟩ := tls4
      exact nof e
    clear c1 c2 ekv W4 tls4 smH4 hfa
    refine at_seq ?_
    refine ⟨_, rfl, p, d, m, rows, n, rfl, W5, fun pl pz H6 hpl sm6 ep np => ⟨pl, rfl, ⟨pz, SqL.of ep⟩, ?_⟩⟩
    have lpz : pz.length = (heads m (ends rows)).length := by
      have := Paired.length np
      unfold natL partsOf at this
      rw [List.length_map, List.length_map] at this
      exact this
    have h16 : (heads m (ends rows)).length ≤ 16 := Nat.le_trans heads_len m16
    have eta6 := sm6 _ _ eta
    have efa6 := sm6 _ _ efa
    have npl : pl ≠ ta ∧ pl ≠ fa := ⟨fun z => (by rw [z, eta] at hpl; cases hpl), fun z => (by rw [z, efa] at hpl; cases hpl)⟩
    refine for_it walk_list (fun i σ' H' => ∃ (tz : List V) (u5 u6 u7 : Option V), σ' = [some (.ref p), some (.ref sl), some (.ref D0), some (.ref ta), some (.ref fa), u5, u6, u7, none, none, none, none, none] ∧ H' ta = some (.lst tz) ∧ Tups H' tz ((((wordsF m rows).take i).foldl stepC ([], [])).1.map pairV) ∧ H' fa = some (.lst ((((wordsF m rows).take i).foldl stepC ([], [])).2.map natV)) ∧ ∀ x o, x ≠ ta → x ≠ fa → H6 x = some o → H' x = some o)
      ⟨[], none, none, none, rfl, eta6, .nil, efa6, fun x o _ _ e => e⟩ (fun i σ' H' _ ⟨_, _, _, _, _, _, _, _, z⟩ => SqL.of (z _ _ npl.1 npl.2 ep)) ?_ ?_
    · rintro i x σ H7 H8 hi ⟨tz, u5, u6, u7, rfl, e1, tt, e2, kx⟩ ⟨rfl, hx⟩
      obtain ⟨t, ys, rfl, hys, ht, n1, n2⟩ := newL_get np hx
      obtain ⟨g, hg⟩ : ∃ g, (heads m (ends rows))[i]? = some g := ⟨_, List.getElem?_eq_getElem (by omega)⟩
      rw [show (partsOf m (ends rows))[i]? = some (cls m (ends rows) g) by unfold partsOf; rw [List.getElem?_map, hg]; rfl] at hys
      cases hys
      have hgi := mem_heads.mp (List.mem_of_getElem? hg)
      have lw : (wordF m rows g).length ≤ 32 := word_len inm m16 hgi.1
      have ew : (wordsF m rows)[i]? = some (wordF m rows g) := by
        unfold wordsF
        rw [List.getElem?_map, hg]
        rfl
      have ntf : t ≠ ta ∧ t ≠ fa := ⟨fun z => (by rw [z, eta] at n2; cases n2), fun z => (by rw [z, efa] at n2; cases n2)⟩
      have ht8 := kx _ _ ntf.1 ntf.2 ht
      have ktup : ∀ q xs, H6 q = some (.tup xs) → H8 q = some (.tup xs) := fun q xs e => kx _ _ (ne_of e eta6 (by intro z; cases z)) (ne_of e efa6 (by intro z; cases z)) e
      have tls8 : TL H8 sl ((bothWays rows).map rowV) := by
        obtain ⟨v, e, tv⟩ := tl_same tls5 sm6
        exact ⟨v, kx _ _ nsl.1 nsl.2 e, tups_ext ktup tv⟩
      have ekv8 := kx _ _ nkv.1 nkv.2 (sm6 _ _ ekv5)
      have c0 : ((cls m (ends rows) g).map natV)[0]? = some (natV g) := by
        have z := cls_take hgi.1 hgi.2
        cases e : cls m (ends rows) g with
        | nil =>
          rw [e] at z
          cases z
        | cons a as =>
          rw [e] at z
          cases z
          rfl
      have lens := chain_len ((wordsF m rows).take i) ([], []) fun wt hwt => by
        obtain ⟨g', hg', e⟩ := List.mem_map.mp (List.mem_of_mem_take hwt)
        rw [← e]
        exact word_len inm m16 (mem_heads.mp hg').1
      have lt16 : ((wordsF m rows).take i).length ≤ 16 := by
        rw [List.length_take]
        unfold wordsF
        rw [List.length_map]
        omega
      have some2 : (((wordsF m rows).take i).foldl stepC ([], [])).2 ≠ [] → wordF m rows g ≠ [] := fun ne z => by
        by_cases two : 2 ≤ (heads m (ends (solid rows))).length
        · have := word_two rise inm two (List.mem_of_getElem? hg)
          rw [z] at this
          exact absurd this (by decide)
        · exact ne (by rw [chain_none two])
      have lb : (bothWays rows).length ≤ 120 := by
        rw [both_len]
        have := W.ok.few
        omega
      rw [chain_step ew]
      generalize ((wordsF m rows).take i).foldl stepC ([], []) = S at *
      have l1 : S.1.length ≤ 16 := by
        have z : S.1.length ≤ 0 + ((wordsF m rows).take i).length := lens.1
        omega
      have l2 : S.2.length ≤ 512 := by
        have z : S.2.length ≤ 0 + 32 * ((wordsF m rows).take i).length := lens.2
        omega
      dsimp only [gName]
      refine nice (σ' := [some (.ref p), some (.ref sl), some (.ref D0), some (.ref ta), some (.ref fa), some (.ref t), u6, u7, none, none, none, none, none]) rfl ?_
      refine at_seq (at_asg ?_)
      refine ⟨_, rfl, _, rfl, t, _, _, _, rfl, rfl, SqL.of ht8, atI_nat (j := 0) c0, ?_⟩
      refine ⟨sl, g, bothWays rows, rfl, tls8, lb, fun wl H9 hwl sm9 ewl => ?_⟩
      dsimp only [gName]
      refine nice (σ' := [some (.ref p), some (.ref sl), some (.ref D0), some (.ref ta), some (.ref fa), some (.ref t), some (.ref wl), u7, none, none, none, none, none]) rfl ?_
      have dl : (inDepthF (bothWays rows) g).length ≤ 16 := depth_len inm m16 hgi.1
      have ekv9 := sm9 _ _ ekv8
      have wd : ∀ q : Nat, (valV kvs (Sum.inl (q : Int) : Key)).getD (.int 0) = natV (wantF m rows q) := fun q => by
        rw [vk, want_due]
        by_cases z : q ∈ dueH m rows
        · rw [if_pos z, if_pos z]
          rfl
        · rw [if_neg z, if_neg z]
          rfl
      refine at_seq (at_asg ?_)
      refine ⟨_, rfl, wl, rfl, ⟨_, SqL.of ewl⟩, fun D1 hD1 => ?_⟩
      refine gen_it (walk_list (K := K) (xs := (inDepthF (bothWays rows) g).map natV)) (fun j H' => H' D1 = some (.lst ((((inDepthF (bothWays rows) g).take j).flatMap fun q => List.replicate (wantF m rows q) q).map natV)) ∧ Same H9 H') ⟨upd_same, same_new hD1⟩ (fun _ _ _ ⟨_, z⟩ => SqL.of (z _ _ ewl)) ?_ ?_
      · rintro j x H10 H11 hj ⟨d1, smj⟩ ⟨rfl, hx⟩
        rw [List.length_map] at hj
        obtain ⟨q, hq⟩ : ∃ q, (inDepthF (bothWays rows) g)[j]? = some q := ⟨_, List.getElem?_eq_getElem hj⟩
        rw [List.getElem?_map, hq] at hx
        cases hx
        have lj := rep_len (wantF m rows) (fun _ => want_le) ((inDepthF (bothWays rows) g).take j)
        rw [List.length_take] at lj
        have wq := wd q
        have w2 : wantF m rows q ≤ 2 := want_le
        have ekv11 := smj _ _ ekv9
        refine ⟨rfl, ⟨_, rfl, D0, rfl, .inl ⟨kvs, .inl ekv11⟩, _, rfl, _, DGet.k (k := Sum.inl (q : Int)) ekv11, ((wantF m rows q : Nat) : Int), (by rw [wq]; rfl), by omega, by omega, ?_⟩⟩
        rw [Int.toNat_natCast, take_snoc hq, List.flatMap_append]
        refine gen_it walk_range (fun jj H' => H' D1 = some (.lst (((((inDepthF (bothWays rows) g).take j).flatMap fun q => List.replicate (wantF m rows q) q) ++ List.replicate jj q).map natV)) ∧ Same H9 H') ⟨by rw [List.replicate_zero, List.append_nil]; exact d1, smj⟩ (fun _ _ _ _ => trivial) ?_ ?_
        · rintro jj x H12 H13 hjj ⟨d2, smk⟩ ⟨rfl, ex⟩
          refine ⟨rfl, ⟨_, rfl, _, d2, ?_, ?_, same_over hD1 smk⟩⟩
          · rw [List.length_map, List.length_append, List.length_replicate, sizeLine_eq]
            omega
          · rw [upd_same, List.replicate_succ', ← List.append_assoc]
            exact congrArg (fun z => some (HO.lst z)) (natV_snoc _ _).symm
        · rintro H12 ⟨d2, smk⟩
          refine ⟨?_, smk⟩
          rw [d2]
          simp
      rintro H10 ⟨d1, sm10⟩
      rw [List.length_map, List.take_length] at d1
      have d1 : H10 D1 = some (.lst ((wordF m rows g).map natV)) := d1
      have hD8 : H8 D1 = none := sm9.free hD1
      have nD : D1 ≠ ta ∧ D1 ≠ fa := ⟨fun z => (by rw [z, e1] at hD8; cases hD8), fun z => (by rw [z, e2] at hD8; cases hD8)⟩
      have sm810 := sm9.trans sm10
      have e1a := sm810 _ _ e1
      have e2a := sm810 _ _ e2
      have tta := tups_ext (fun t xs e => sm810 _ _ e) tt
      have kxa : ∀ x o, x ≠ ta → x ≠ fa → H6 x = some o → H10 x = some o ∧ x ≠ D1 := fun x o a b e => ⟨sm810 _ _ (kx x o a b e), fun z => (by rw [z] at e a b; rw [kx _ _ a b e] at hD8; cases hD8)⟩
      dsimp only [gName]
      refine nice (σ' := [some (.ref p), some (.ref sl), some (.ref D0), some (.ref ta), some (.ref fa), some (.ref t), some (.ref wl), some (.ref D1), none, none, none, none, none]) rfl ?_
      clear sm810 sm9 sm10 ekv9 ekv8 tls8 ht8 hD1 ewl hwl ktup e1 e2 tt kx
      obtain ⟨S1, S2⟩ := S
      dsimp only at *
      refine at_seqP (fun σ' H' => ∃ (tz : List V) (T1 : Join) (F W' : List Nat), σ' = [some (.ref p), some (.ref sl), some (.ref D0), some (.ref ta), some (.ref fa), some (.ref t), some (.ref wl), some (.ref D1), none, none, none, none, none] ∧ H' ta = some (.lst tz) ∧ Tups H' tz (T1.map pairV) ∧ H' fa = some (.lst (F.map natV)) ∧ H' D1 = some (.lst (W'.map natV)) ∧ stepC (S1, S2) (wordF m rows g) = (T1, F ++ W') ∧ F.length ≤ 512 ∧ W'.length ≤ 32 ∧ ∀ x o, x ≠ ta → x ≠ fa → H6 x = some o → H' x = some o) ?rest fun N hN => ?test
      case rest =>
        rintro σ' H11 ⟨tz, T1, F, W', rfl, f1, f2, f3, f4, eq, lF, lW', kx⟩
        refine ⟨_, rfl, .inl ⟨rfl, _, SqL.of f3⟩, _, rfl, fa, D1, _, _, rfl, rfl, f3, f4, by rw [List.length_map, List.length_map, sizeLine_eq]; omega, ?_⟩
        refine ⟨tz, _, _, _, rfl, ?_, ?_, ?_, fun x o a b e => ?_⟩
        · rw [upd_ne nft.symm]
          exact f1
        · rw [eq]
          exact tups_over f3 f2
        · rw [eq, upd_same, List.map_append]
        · rw [upd_ne b]
          exact kx x o a b e
      case test =>
        refine ⟨_, rfl, !(S2.map natV).isEmpty, .inl ⟨_, SqL.of e2a, rfl⟩, if_both (fun c => ?_) (fun c => ?_)⟩
        · have neS : S2 ≠ [] := fun z => by
            rw [z] at c
            cases c
          obtain ⟨F, x, rfl⟩ : ∃ F x, S2 = F ++ [x] := ⟨S2.dropLast, S2.getLast neS, (List.dropLast_concat_getLast neS).symm⟩
          obtain ⟨y, T0, eW⟩ : ∃ y T0, wordF m rows g = y :: T0 := by
            cases e : wordF m rows g with
            | nil => exact absurd e (some2 neS)
            | cons y T0 => exact ⟨y, T0, rfl⟩
          rw [eW] at d1 lw
          have eF : (F ++ [x]).map natV = F.map natV ++ [natV x] := by rw [List.map_append]; rfl
          rw [eF] at e2a
          refine ⟨_, rfl, .inl ⟨rfl, _, SqL.of e1a⟩, _, rfl, .inl ⟨rfl, _, SqL.of e2a⟩, fa, _, natV x, rfl, rfl, e2a, by simp, ?_⟩
          rw [List.dropLast_concat]
          have h1 : upd H10 fa (.lst (F.map natV)) D1 = some (.lst (natV y :: T0.map natV)) := by
            rw [upd_ne nD.2]
            exact d1
          refine ⟨_, rfl, .inl ⟨rfl, _, SqL.of h1⟩, D1, _, 0, 0, natV y, rfl, rfl, h1, by decide, by decide, ?_, rfl, ?_⟩
          · simp [seqIndex?]
          rw [show (natV y :: T0.map natV).eraseIdx 0 = T0.map natV from rfl]
          refine ⟨(by show 2 ≤ sizeLine; decide), fun q hq => ?_⟩
          have g1 : upd (upd H10 fa (.lst (F.map natV))) D1 (.lst (T0.map natV)) ta = some (.lst tz) := by
            rw [upd_ne nD.1.symm, upd_ne nft.symm]
            exact e1a
          have g2 : upd (upd H10 fa (.lst (F.map natV))) D1 (.lst (T0.map natV)) fa = some (.lst (F.map natV)) := by rw [upd_ne nD.2.symm, upd_same]
          have g3 : upd (upd H10 fa (.lst (F.map natV))) D1 (.lst (T0.map natV)) D1 = some (.lst (T0.map natV)) := upd_same
          have g4 : Tups (upd (upd H10 fa (.lst (F.map natV))) D1 (.lst (T0.map natV))) tz (S1.map pairV) := tups_over h1 (tups_over e2a tta)
          have g5 : ∀ x o, x ≠ ta → x ≠ fa → H6 x = some o → upd (upd H10 fa (.lst (F.map natV))) D1 (.lst (T0.map natV)) x = some o := fun x o a b e => by
            rw [upd_ne (kxa x o a b e).2, upd_ne b]
            exact (kxa x o a b e).1
          generalize upd (upd H10 fa (.lst (F.map natV))) D1 (.lst (T0.map natV)) = H11 at *
          have cq := same_new (o := .tup [natV x, natV y]) hq
          have eq := upd_same (H := H11) (a := q) (o := .tup [natV x, natV y])
          have ltz : tz.length = S1.length := by rw [tups_len tta, List.length_map]
          refine ⟨ta, tz, _, rfl, rfl, cq _ _ g1, by rw [ltz, sizeLine_eq]; omega, ?_⟩
          have off : ∀ b o, b ≠ ta → H11 b = some o → upd (upd H11 q (.tup [natV x, natV y])) ta (.lst (tz ++ [V.ref q])) b = some o := fun b o a e => by
            rw [upd_ne a]
            exact cq _ _ e
          refine hN _ _ ⟨_, S1 ++ [(x, y)], F, T0, rfl, upd_same, ?_, off _ _ nft g2, off _ _ nD.1 g3, ?_, ?_, ?_, fun z o a b e => off _ _ a (g5 z o a b e)⟩
          · rw [List.map_append]
            exact tups_over (cq _ _ g1) (tups_snoc eq (tups_ext (fun t xs e => cq _ _ e) g4))
          · rw [eW]
            unfold stepC
            dsimp only
            rw [if_neg neS]
            simp
          · rw [List.length_append] at l2
            omega
          · have : (y :: T0).length = T0.length + 1 := rfl
            omega
        · have eS : S2 = [] := by
            cases z : S2 with
            | nil => rfl
            | cons a as =>
              rw [z] at c
              cases c
          subst eS
          refine hN _ _ ⟨tz, S1, [], wordF m rows g, rfl, e1a, tta, e2a, d1, rfl, Nat.zero_le _, lw, fun x o a b e => (kxa x o a b e).1⟩
    rintro σ H7 ⟨tz, u5, u6, u7, rfl, e1, tt, e2, kx⟩
    have lww : pz.length = (wordsF m rows).length := by
      unfold wordsF
      rw [List.length_map, lpz]
    rw [lww, List.take_length] at tt e2
    have lens := chain_len (wordsF m rows) ([], []) fun wt hwt => by
      obtain ⟨g', hg', e⟩ := List.mem_map.mp hwt
      rw [← e]
      exact word_len inm m16 (mem_heads.mp hg').1
    have hfw : fewestF m rows = ((wordsF m rows).foldl stepC ([], [])).1 ++ halfF ((wordsF m rows).foldl stepC ([], [])).2 := rfl
    have l16w : (wordsF m rows).length ≤ 16 := by omega
    generalize (wordsF m rows).foldl stepC ([], []) = S at *
    obtain ⟨S1, S2⟩ := S
    have l1 : S1.length ≤ 16 := by
      have z : S1.length ≤ 0 + (wordsF m rows).length := lens.1
      omega
    have l2 : S2.length ≤ 512 := by
      have z : S2.length ≤ 0 + 32 * (wordsF m rows).length := lens.2
      omega
    have tt : Tups H7 tz (S1.map pairV) := tt
    have e2 : H7 fa = some (.lst (S2.map natV)) := e2
    have smH7 : Same H H7 := fun x o e => kx x o (ne_of_none e htaH) (ne_of_none e hfaH) (sm6 _ _ (smH5 _ _ e))
    dsimp only
    refine at_seq (at_asg ?_)
    refine ⟨_, rfl, fa, _, rfl, .inl (SqL.of e2), _, _, rfl, rfl, ⟨by decide, by decide⟩, ?_⟩
    dsimp only [gName]
    rw [List.length_map, show ((S2.length : Nat) : Int) / 2 = ((S2.length / 2 : Nat) : Int) by omega]
    refine nice (σ' := [some (.ref p), some (.ref sl), some (.ref D0), some (.ref ta), some (.ref fa), u5, u6, u7, some (.int ((S2.length / 2 : Nat) : Int)), none, none, none, none]) rfl ?_
    refine at_ret ?_
    refine ⟨_, rfl, _, rfl, _, rfl, _, rfl, _, rfl, fa, _, rfl, SqL.of e2, fun sv hsv => ?_⟩
    rw [cut_drop, ← List.map_drop]
    have c3 := same_new (o := .lst ((S2.drop (S2.length / 2)).map natV)) hsv
    have e1' := c3 _ _ e1
    have e2' := c3 _ _ e2
    have tt' := tups_ext (fun t xs e => c3 _ _ e) tt
    have esv := upd_same (H := H7) (a := sv) (o := .lst ((S2.drop (S2.length / 2)).map natV))
    have sm' := smH7.trans c3
    generalize upd H7 sv (.lst ((S2.drop (S2.length / 2)).map natV)) = H8 at *
    refine ⟨fa, sv, _, _, rfl, SqL.of e2', SqL.of esv, fun H9 q ts keep hq hts nq eq pr => ?_⟩
    have lts : ts.length ≤ S2.length := by
      rw [Paired.length pr, List.length_zip, List.length_map]
      exact Nat.min_le_left _ _
    have ltz : tz.length = S1.length := by rw [tups_len tt', List.length_map]
    refine ⟨ta, q, _, _, rfl, rfl, keep _ _ e1', eq, by rw [ltz, List.length_map, sizeLine_eq]; omega, fun r hr9 => ?_⟩
    have c4 := same_new (o := .lst (tz ++ ts.map V.ref)) hr9
    have sm9 : Same H H9 := fun x o e => keep _ _ (sm' _ _ e)
    refine k r _ _ (sm9.free hr9) (sm9.trans c4) upd_same ?_
    rw [hfw, List.map_append]
    refine tups_ext (fun t xs e => c4 _ _ e) (tups_cat (tups_ext (fun t xs e => keep _ _ e) tt') ?_)
    have z := tups_paired pr
    rw [pairs_zip] at z
    exact z
end
end K02

set_option Elab.async false
set_option linter.all false
set_option maxRecDepth 100000
set_option maxHeartbeats 4000000
namespace K02
open PySem PySem.Spec PyProof.Rows L2 Own
/-! ### labels: the law's own joining -/
theorem way_nil {a b : Nat} (h : Way [] a b) : a = b := by
  induction h with
  | stay => rfl
  | fwd _ e _ => cases e
  | bwd _ e _ => cases e
def IsLab (m : Nat) (ps : Join) (L : List Nat) : Prop := L.length = m ∧ ∀ p, p < m → ∃ h, L[p]? = some h ∧ Way ps h p ∧ Least ps h
theorem lab_nil (m : Nat) : IsLab m [] (List.range m) :=
  ⟨List.length_range, fun p hp => ⟨p, by rw [List.getElem?_range hp], .stay _, fun q hq w => by have := way_nil w; omega⟩⟩
theorem lab_snoc {m : Nat} {ps : Join} {L : List Nat} {a b x y : Nat} (h : IsLab m ps L) (ha : a < m) (hb : b < m) (hx : L[a]? = some x) (hy : L[b]? = some y) :
    IsLab m (ps ++ [(a, b)]) (L.map fun z => if z = max x y then min x y else z) := by
  obtain ⟨x', hx', wx, lx⟩ := h.2 a ha
  rw [hx] at hx'
  cases hx'
  obtain ⟨y', hy', wy, ly⟩ := h.2 b hb
  rw [hy] at hy'
  cases hy'
  have up : ∀ {u v}, Way ps u v → Way (ps ++ [(a, b)]) u v := fun w => w.mono fun q hq => List.mem_append_left _ hq
  have ab : Way (ps ++ [(a, b)]) a b := .fwd (.stay _) (List.mem_append_right _ (List.mem_singleton.mpr rfl))
  have xy : Way (ps ++ [(a, b)]) x y := ((up wx).trans ab).trans (up wy.symm)
  have keep : ∀ z, Least ps z → z ≠ max x y → Least (ps ++ [(a, b)]) z := fun z lz nz q hq w => by
    rcases way_snoc.mp w with w | ⟨w1, w2⟩ | ⟨w1, w2⟩
    · exact lz q hq w
    · have e : y = z := least_uniq ly lz (wy.trans w2)
      have : z < x := by
        subst e
        omega
      exact lx q (by omega) (w1.trans wx.symm)
    · have e : x = z := least_uniq lx lz (wx.trans w2)
      have : z < y := by
        subst e
        omega
      exact ly q (by omega) (w1.trans wy.symm)
  have mine : Least (ps ++ [(a, b)]) (min x y) := by
    by_cases e : x = y
    · subst e
      rw [Nat.min_self]
      intro q hq w
      rcases way_snoc.mp w with w | ⟨w1, w2⟩ | ⟨w1, w2⟩
      · exact lx q hq w
      · exact lx q hq (w1.trans wx.symm)
      · exact lx q hq (w1.trans wy.symm)
    · rcases Nat.lt_or_gt_of_ne e with l | l
      · have e2 : min x y = x := by omega
        rw [e2]
        exact keep x lx (by omega)
      · have e2 : min x y = y := by omega
        rw [e2]
        exact keep y ly (by omega)
  have gm : Way (ps ++ [(a, b)]) (min x y) (max x y) := by
    rcases Nat.le_total x y with l | l
    · have e1 : min x y = x := by omega
      have e2 : max x y = y := by omega
      rw [e1, e2]
      exact xy
    · have e1 : min x y = y := by omega
      have e2 : max x y = x := by omega
      rw [e1, e2]
      exact xy.symm
  refine ⟨by rw [List.length_map]; exact h.1, fun p hp => ?_⟩
  obtain ⟨z, hz, wz, lz⟩ := h.2 p hp
  refine ⟨if z = max x y then min x y else z, by rw [List.getElem?_map, hz]; rfl, ?_, ?_⟩
  · by_cases e : z = max x y
    · rw [if_pos e]
      exact gm.trans (e ▸ up wz)
    · rw [if_neg e]
      exact up wz
  · by_cases e : z = max x y
    · rw [if_pos e]
      exact mine
    · rw [if_neg e]
      exact keep z lz e
theorem lab_mem {m : Nat} {ps : Join} {L : List Nat} {k : Nat} (h : IsLab m ps L) (hk : k < m) : k ∈ L ↔ Least ps k := by
  constructor
  · intro hm
    obtain ⟨p, hp, e⟩ := List.mem_iff_getElem.mp hm
    obtain ⟨z, hz, _, lz⟩ := h.2 p (by rw [← h.1]; exact hp)
    rw [List.getElem?_eq_getElem hp, e] at hz
    cases hz
    exact lz
  · intro l
    obtain ⟨z, hz, wz, lz⟩ := h.2 k hk
    have e := least_uniq lz l wz
    rw [e] at hz
    exact List.mem_of_getElem? hz
theorem lab_at {m : Nat} {ps : Join} {L : List Nat} {k p z : Nat} (h : IsLab m ps L) (hp : p < m) (hz : L[p]? = some z) (l : Least ps k) : z = k ↔ Way ps k p := by
  obtain ⟨z', hz', wz, lz⟩ := h.2 p hp
  rw [hz] at hz'
  cases hz'
  exact ⟨fun e => e ▸ wz, fun w => least_uniq lz l (wz.trans w.symm)⟩
theorem lab_lt {m : Nat} {ps : Join} {L : List Nat} (h : IsLab m ps L) (s : ∀ q ∈ ps, q.1 < m ∧ q.2 < m) : ∀ z ∈ L, z < m := fun z hz => by
  obtain ⟨p, hp, e⟩ := List.mem_iff_getElem.mp hz
  have pm : p < m := by rw [← h.1]; exact hp
  obtain ⟨z', hz', wz, _⟩ := h.2 p pm
  rw [List.getElem?_eq_getElem hp, e] at hz'
  cases hz'
  exact wz.symm.lt s pm
theorem cls_succ (ps : Join) (i j : Nat) (w : Way ps i j) : cls (j + 1) ps i = cls j ps i ++ [j] := by
  unfold cls
  rw [List.range_succ, List.filter_append, List.filter_cons, if_pos ((@decide_eq_true_iff _ (Classical.propDecidable _)).mpr w)]
  rfl
theorem cls_skip (ps : Join) (i j : Nat) (w : ¬ Way ps i j) : cls (j + 1) ps i = cls j ps i := by
  unfold cls
  rw [List.range_succ, List.filter_append, List.filter_cons, if_neg (fun z => w ((@decide_eq_true_iff _ (Classical.propDecidable _)).mp z))]
  exact List.append_nil _
theorem rg_nat (m : Nat) : rgV 0 (m : Int) = (List.range m).map natV := by
  unfold rgV
  rw [Int.sub_zero, Int.toNat_natCast]
  refine List.map_congr_left fun i _ => ?_
  rw [Int.zero_add]
  rfl
/-- the outer comprehension's names, where the parts are told -/
abbrev scMark : Scope := ⟨.function, [(".0", .local), ("_law_mark", .cell), ("range", .globalImplicit), ("_law_label", .cell), ("_law_many_here", .cell)], false, false, []⟩
def spLawParts : Sp := fun vs H Q _ => ∃ (m : Nat) (l : Addr) (ps : Join), vs = [.int (m : Int), .ref l] ∧ TL H l (ps.map pairV) ∧ (∀ q ∈ ps, q.1 < m ∧ q.2 < m) ∧ m ≤ 16 ∧ ps.length ≤ 60 ∧
  ∀ (r : Addr) (zs : List V) (H' : Hp), H r = none → Same H H' → H' r = some (.lst zs) → NewL H H' r zs (natL (partsOf m ps)) → Q (.ref r) H'
abbrev s_law_parts : Stmt := top 43
abbrev N_law_parts : List Str := ["_law_many_here", "_law_pairs_here", "_law_label", "_law_one", "_law_other", "_law_mine", "_law_gone_here", "_law_mark", "_law_p"]
theorem sc_law_parts : FnScope N_law_parts ["_law_many_here", "_law_pairs_here"] (defScope s_law_parts) := ⟨rfl, rfl, rfl, by decide +kernel, rfl, by decide +kernel, by decide +kernel⟩
section
variable {P : Program} {w : World} {K : PySem.W.Frag} {mg : Str → Option Value} {base : Heap} {f : Addr} {fd : FuncData}
theorem ok_law_parts (T : TxtM mg) (D : FnP K "_law_parts" "_law_parts" s_law_parts f fd) : FnOk P w K mg base (L2.CX P w) 1 f fd ["_law_many_here", "_law_pairs_here"] spLawParts := by
  have nd := sc_law_parts.nd
  refine D.ok sc_law_parts (fun vs H Q E h => ?_) (fun cdv A outer s H vs Q E hr h => ?_)
  · obtain ⟨m, l, ps, rfl, _⟩ := h
    rfl
  · obtain ⟨m, l, ps, rfl, tl, inm, m16, few, k⟩ := h
    refine ⟨_, (pss_cons (ps_set (i := 2) nd rfl (Or.inr rfl) (pe_listRg rfl rfl T.f_list (prg_1 rfl T.f_range (pv 0)))) (pss_cons (ps_for (passes_of rfl) rfl (pi_list (pv 1)) (pg_tup rfl (pgs_cons (pg_name (i := 3) nd rfl (Or.inl rfl)) (pgs_cons (pg_name (i := 4) nd rfl (Or.inl rfl)) pgs_nil))) (pss_cons (ps_asg (pe_tup (pa_cons (pe_callB (call_min2 rfl) rfl T.f_min (by decide +kernel) (pa_cons (pe_ix ix_list (pv 2) (pv 3) (fun _ _ => rfl)) (pa_cons (pe_ix ix_list (pv 2) (pv 4) (fun _ _ => rfl)) pa_nil))) (pa_cons (pe_callB (call_max2 rfl) rfl T.f_max (by decide +kernel) (pa_cons (pe_ix ix_list (pv 2) (pv 3) (fun _ _ => rfl)) (pa_cons (pe_ix ix_list (pv 2) (pv 4) (fun _ _ => rfl)) pa_nil))) pa_nil))) (pg_tup rfl (pgs_cons (pg_name (i := 5) nd rfl (Or.inr rfl)) (pgs_cons (pg_name (i := 6) nd rfl (Or.inr rfl)) pgs_nil))))
      (pss_one (ps_set (i := 2) nd rfl (Or.inr rfl) (pe_lc (own := [("_law_mark", 7)]) (g := (gName 7)) rfl nd (pi_list (pv 2)) (blkOk_by (own := [("_law_mark", 7)]) (N := N_law_parts) (sc := defScope s_law_parts) (by decide +kernel)) (fun _ _ _ _ _ => (pg_name (i := 7) nd rfl (Or.inl rfl))) (fun _ _ _ _ _ => pts_nil) (fun _ _ _ _ _ => (pe_ifExp (pt_cmpR op_eq (pv 7) (pv 6) (nomark _)) (pv 5) (pv 7)))))))) (pss_one (ps_ret (pe_lc (own := [("_law_mark", 7)]) (g := (gName 7)) (tt := tTest (tOp (rIn K false) (tVar 7) (tVar 2))) (te := tLc (iRng1 (tCons (tVar 0) tNil)) (gName 8) (tTest (tOp rEq (tOp (rIxL K) (tVar 2) (tVar 8)) (tVar 7))) (tVar 8) [8]) rfl nd (pi_range1 rfl T.f_range (pa_cons (pv 0) pa_nil)) (blkOk_by (own := [("_law_mark", 7)]) (N := N_law_parts) (sc := defScope s_law_parts) (by decide +kernel))
      (fun _ _ _ _ _ => (pg_name (i := 7) nd rfl (Or.inr rfl))) (fun _ _ _ _ _ => (pts_one (pt_cmpR op_in_seq (pv 7) (pv 2) (by with_unfolding_all rfl))))
      (fun _ _ _ _ _ => (pe_lc (own := [("_law_p", 8)]) (g := (gName 8)) rfl nd (pi_range1 rfl T.f_range (pa_cons (pv 0) pa_nil)) (blkOk_by (own := [("_law_p", 8)]) (N := N_law_parts) (sc := scMark) (by decide +kernel)) (fun _ _ _ _ _ => (pg_name (i := 8) nd rfl (Or.inl rfl))) (fun _ _ _ _ _ => (pts_one (pt_cmpR op_eq (pe_ix ix_list (pv 2) (pv 8) (fun _ _ => rfl)) (pv 7) (nomark _)))) (fun _ _ _ _ _ => (pv 8))))))))), ?_⟩
    obtain ⟨vs, el, tv⟩ := tl
    have lvs : vs.length = ps.length := by rw [tups_len tv, List.length_map]
    refine ⟨_, rfl, (m : Int), rfl, RgOk.of_le (by omega) (by omega) (by omega) (by omega), fun L0 hL0 => ?_⟩
    rw [rg_nat]
    have sm0 := same_new (o := .lst ((List.range m).map natV)) hL0
    refine ⟨_, rfl, l, rfl, ⟨vs, SqL.of (sm0 _ _ el)⟩, for_it walk_list (fun i σ H' => ∃ (Lp : Addr) (L : List Nat) (u3 u4 u5 u6 : Option V), σ = [some (.int (m : Int)), some (.ref l), some (.ref Lp), u3, u4, u5, u6, none, none] ∧ H' Lp = some (.lst (L.map natV)) ∧ IsLab m (ps.take i) L ∧ Same H H') ⟨L0, List.range m, none, none, none, none, rfl, upd_same, lab_nil m, sm0⟩ (fun _ _ _ _ ⟨_, _, _, _, _, _, _, _, _, z⟩ => SqL.of (z _ _ el)) ?_ ?_⟩
    · rintro i x σ H1 H2 hi ⟨Lp, L, u3, u4, u5, u6, rfl, eL, lab, sm⟩ ⟨rfl, hx⟩
      obtain ⟨t, xs, rfl, hxs, ht⟩ := tups_get tv hx
      obtain ⟨q, hq⟩ : ∃ q, ps[i]? = some q := ⟨_, List.getElem?_eq_getElem (by omega)⟩
      rw [List.getElem?_map, hq] at hxs
      cases hxs
      have bnd := inm q (List.mem_of_getElem? hq)
      obtain ⟨x, hxa, _⟩ := lab.2 q.1 bnd.1
      obtain ⟨y, hyb, _⟩ := lab.2 q.2 bnd.2
      have xa : (L.map natV)[q.1]? = some (natV x) := by rw [List.getElem?_map, hxa]; rfl
      have yb : (L.map natV)[q.2]? = some (natV y) := by rw [List.getElem?_map, hyb]; rfl
      refine ⟨t, _, rfl, SqT.of (sm _ _ ht), rfl, _, _, rfl, _, _, rfl, rfl, ?_⟩
      refine ⟨_, rfl, _, rfl, Lp, _, _, _, rfl, rfl, SqL.of eL, atI_nat xa, _, rfl, _, rfl, Lp, _, _, _, rfl, rfl, SqL.of eL, atI_nat yb, (x : Int), (y : Int), rfl, ?_⟩
      refine ⟨_, rfl, _, rfl, Lp, _, _, _, rfl, rfl, SqL.of eL, atI_nat xa, _, rfl, _, rfl, Lp, _, _, _, rfl, rfl, SqL.of eL, atI_nat yb, (x : Int), (y : Int), rfl, ?_⟩
      rw [min_nat, max_nat]
      refine ⟨(by show 2 ≤ sizeLine; decide), fun T2 hT2 => ?_⟩
      have c2 := same_new (o := .tup [V.int ((min x y : Nat) : Int), V.int ((max x y : Nat) : Int)]) hT2
      refine ⟨T2, _, rfl, SqT.of upd_same, rfl, _, _, rfl, _, _, rfl, rfl, ?_⟩
      have eL2 := c2 _ _ eL
      generalize upd H2 T2 (.tup [V.int ((min x y : Nat) : Int), V.int ((max x y : Nat) : Int)]) = H3 at *
      refine ⟨_, rfl, Lp, rfl, ⟨_, SqL.of eL2⟩, fun D0 hD0 => ?_⟩
      have c3 := same_new (o := .lst []) hD0
      refine lc_it (walk_list (K := K) (xs := L.map natV)) (fun j H' => H' D0 = some (.lst (((L.take j).map fun z => if z = max x y then min x y else z).map natV)) ∧ Same H3 H') ⟨upd_same, c3⟩ (fun _ _ _ z => SqL.of (z.2 _ _ eL2)) ?_ ?_
      · rintro j v H4 H5 hj ⟨e4, sm4⟩ ⟨rfl, hv⟩
        rw [List.length_map] at hj
        obtain ⟨z, hz⟩ : ∃ z, L[j]? = some z := ⟨_, List.getElem?_eq_getElem hj⟩
        rw [List.getElem?_map, hz] at hv
        cases hv
        have small : (((L.take j).map fun z => if z = max x y then min x y else z).map natV).length < sizeLine := by
          rw [List.length_map, List.length_map, List.length_take, sizeLine_eq]
          have := lab.1
          omega
        have dz : decide (natV z = V.int ((max x y : Nat) : Int)) = decide (z = max x y) := decide_eq_decide.mpr ⟨fun e => Int.ofNat.inj (V.int.inj e), fun e => by rw [e]; rfl⟩
        refine ⟨rfl, _, rfl, _, rfl, rfl, ?_⟩
        rw [dz]
        rw [take_snoc hz, List.map_append, List.map_append]
        by_cases e : z = max x y
        · rw [decide_eq_true e]
          refine ⟨_, rfl, _, rfl, _, e4, small, ?_, same_over hD0 sm4⟩
          rw [upd_same]
          show _ = some (HO.lst (_ ++ [natV (if z = max x y then min x y else z)]))
          rw [if_pos e]
          rfl
        · rw [decide_eq_false e]
          refine ⟨_, rfl, _, rfl, _, e4, small, ?_, same_over hD0 sm4⟩
          rw [upd_same]
          show _ = some (HO.lst (_ ++ [natV (if z = max x y then min x y else z)]))
          rw [if_neg e]
      · rintro H4 ⟨e4, sm4⟩
        rw [List.length_map, List.take_length] at e4
        refine ⟨D0, _, _, _, _, _, rfl, e4, ?_, (sm.trans c2).trans sm4⟩
        rw [take_snoc hq]
        exact lab_snoc lab bnd.1 bnd.2 hxa hyb
    · rintro σ H1 ⟨Lp, L, u3, u4, u5, u6, rfl, eL, lab, sm⟩
      rw [List.take_of_length_le (by omega)] at lab
      refine ⟨_, rfl, (m : Int), rfl, by omega, by omega, fun R hR => ?_⟩
      have cR := same_new (o := .lst []) hR
      refine lc_it walk_range (fun i H' => ∃ zs, H' R = some (.lst zs) ∧ NewL H1 H' R zs (natL ((heads i ps).map (cls m ps))) ∧ Same H1 H') ⟨[], upd_same, .nil, cR⟩ (fun _ _ _ _ => trivial) ?_ ?_
      · rintro i x H2 H3 hi ⟨zs, ez, nz, sm2⟩ ⟨rfl, ex⟩
        dsimp only at ex
        rw [Int.zero_add] at ex
        subst ex
        have im : i < m := by omega
        have lz : zs.length ≤ i := by
          rw [Paired.length nz]
          unfold natL
          rw [List.length_map, List.length_map]
          exact heads_len
        refine ⟨rfl, _, rfl, _, rfl, Lp, _, rfl, .inl (SqL.of (sm2 _ _ eL)), rfl, flat_nat _, ?_⟩
        rw [inV_nat]
        refine ⟨_, rfl, ?_⟩
        by_cases hL : Least ps i
        · rw [decide_eq_true ((lab_mem lab im).mpr hL)]
          refine ⟨_, rfl, (m : Int), rfl, by omega, by omega, fun R2 hR2 => ?_⟩
          have c2 := same_new (o := .lst []) hR2
          have nR : R2 ≠ R := fun z => by
            rw [z, ez] at hR2
            cases hR2
          refine lc_it walk_range (fun j H' => H' R2 = some (.lst ((cls j ps i).map natV)) ∧ Same H3 H') ⟨upd_same, c2⟩ (fun _ _ _ _ => trivial) ?_ ?_
          · rintro j x H4 H5 hj ⟨e4, sm4⟩ ⟨rfl, ex⟩
            dsimp only at ex
            rw [Int.zero_add] at ex
            subst ex
            have jm : j < m := by omega
            obtain ⟨z, hz, _⟩ := lab.2 j jm
            have za : (L.map natV)[j]? = some (natV z) := by rw [List.getElem?_map, hz]; rfl
            have dz : decide (natV z = V.int (i : Int)) = decide (z = i) := decide_eq_decide.mpr ⟨fun e => Int.ofNat.inj (V.int.inj e), fun e => by rw [e]; rfl⟩
            refine ⟨rfl, _, rfl, _, rfl, Lp, _, _, _, rfl, rfl, SqL.of (sm4 _ _ (sm2 _ _ eL)), atI_nat za, _, rfl, rfl, ?_⟩
            rw [dz]
            have key := lab_at lab jm hz hL
            by_cases e : z = i
            · rw [decide_eq_true e]
              refine ⟨_, rfl, _, rfl, _, e4, by rw [List.length_map, sizeLine_eq]; have := cls_len (m := j) (ps := ps) (p := i); omega, ?_, same_over hR2 sm4⟩
              rw [upd_same, cls_succ _ _ _ (key.mp e), List.map_append]
              rfl
            · rw [decide_eq_false e]
              refine ⟨_, rfl, ?_, sm4⟩
              rw [cls_skip _ _ _ (fun w => e (key.mpr w))]
              exact e4
          · rintro H4 ⟨e4, sm4⟩
            have e4' : H4 R2 = some (.lst ((cls m ps i).map natV)) := e4
            refine ⟨zs, sm4 _ _ ez, by rw [sizeLine_eq]; omega, zs ++ [V.ref R2], upd_same, ?_, same_over hR (sm2.trans sm4)⟩
            rw [heads_succ _ _ hL, List.map_append]
            unfold natL
            rw [List.map_append]
            exact newL_snoc nR (sm2.free hR2) (by rw [upd_ne nR]; exact e4') (newL_ext (fun t ys n _ e => by rw [upd_ne n]; exact sm4 _ _ e) nz)
        · rw [decide_eq_false (fun z => hL ((lab_mem lab im).mp z))]
          refine ⟨zs, ez, ?_, sm2⟩
          rw [heads_skip _ _ hL]
          exact nz
      · rintro H2 ⟨zs, ez, nz, sm2⟩
        exact k R zs H2 (sm.free hR) (sm.trans sm2) ez (newL_free sm nz)
end
end K02

set_option Elab.async false
set_option linter.all false
set_option maxRecDepth 100000
set_option maxHeartbeats 4000000
namespace K02
open PySem PySem.Spec PyProof.Rows L2 Own
/-! ### which pairs part, the law's own count -/
theorem erase_map {α β : Type} (f : α → β) : ∀ (xs : List α) (k : Nat), (xs.map f).eraseIdx k = (xs.eraseIdx k).map f
  | [], _ => rfl
  | _ :: _, 0 => rfl
  | x :: xs, k + 1 => congrArg (f x :: ·) (erase_map f xs k)
theorem tups_erase {H : Hp} : ∀ {vs : List V} {xss : List (List V)} (k : Nat), Tups H vs xss → Tups H (vs.eraseIdx k) (xss.eraseIdx k)
  | _, _, _, .nil => .nil
  | _, _, 0, .cons _ r => r
  | _, _, k + 1, .cons q r => .cons q (tups_erase k r)
noncomputable def goneOf (m : Nat) (ps : Join) (n : Nat) : List Nat := (List.range n).filter fun k => decide ((partsOf m ps).length < (partsOf m (ps.eraseIdx k)).length)
def spGone : Sp := fun vs H Q _ => ∃ (m : Nat) (l : Addr) (ps : Join), vs = [.int (m : Int), .ref l] ∧ TL H l (ps.map pairV) ∧ (∀ q ∈ ps, q.1 < m ∧ q.2 < m) ∧ m ≤ 16 ∧ ps.length ≤ 60 ∧
  ∀ (r : Addr) (H' : Hp), H r = none → Same H H' → H' r = some (.lst ((goneOf m ps ps.length).map natV)) → Q (.ref r) H'
abbrev s_law_gone : Stmt := top 44
abbrev N_law_gone : List Str := ["_law_many_here", "_law_pairs_here", "_law_whole", "_law_k"]
theorem sc_law_gone : FnScope N_law_gone ["_law_many_here", "_law_pairs_here"] (defScope s_law_gone) := ⟨rfl, rfl, rfl, by decide +kernel, rfl, by decide +kernel, by decide +kernel⟩
section
variable {P : Program} {w : World} {K : PySem.W.Frag} {mg : Str → Option Value} {base : Heap} {f : Addr} {fd : FuncData}
theorem ok_gone (T : TxtM mg) (D : FnP K "_law_gone" "_law_gone" s_law_gone f fd) (c_law_parts : CalX P w K mg base 1 "_law_parts" spLawParts) : FnOk P w K mg base (L2.CX P w) 2 f fd ["_law_many_here", "_law_pairs_here"] spGone := by
  have nd := sc_law_gone.nd
  refine D.ok sc_law_gone (fun vs H Q E h => ?_) (fun cdv A outer s H vs Q E hr h => ?_)
  · obtain ⟨m, l, ps, rfl, _⟩ := h
    rfl
  · obtain ⟨m, l, ps, rfl, tl, inm, m16, few, k⟩ := h
    obtain ⟨f_law_parts, fd_law_parts, ps_law_parts, F_law_parts, m_law_parts, k_law_parts, b_law_parts⟩ := c_law_parts.ex
    refine ⟨_, (pss_cons (ps_set (i := 2) nd rfl (Or.inr rfl) (pe_callB call_len_seq rfl T.f_len PySem.boot_len (pa_cons (pe_call F_law_parts (hr.mono (by decide)) rfl m_law_parts k_law_parts b_law_parts .nil passF (pa_cons (pv 0) (pa_cons (pv 1) pa_nil))) pa_nil)))
      (pss_one (ps_ret (pe_lc (own := [("_law_k", 3)]) (g := (gName 3)) (tt := tTest (tOp (rI0 fun i j => .bl (decide (j < i))) (tCB (fun xs H Q => ∃ (p : Addr) (ys : List V), xs = [.ref p] ∧ (SqL K H p ys ∨ SqT K H p ys) ∧ Q (.int ys.length) H) (tCons (tCall spLawParts [] EF (tCons (tVar 0) (tCons (tOp rCat (tSl (rSlL K) (tVar 1) tNoPart (tPart (tVar 3))) (tSl (rSlL K) (tVar 1) (tPart (tOp (rI0 fun i j => .int (i + j)) (tVar 3) (tC (.int 1)))) tNoPart)) tNil))) tNil)) (tVar 2))) rfl nd (pi_range1 rfl T.f_range (pa_cons (pe_callB call_len_seq rfl T.f_len PySem.boot_len (pa_cons (pv 1) pa_nil)) pa_nil)) (blkOk_by (own := [("_law_k", 3)]) (N := N_law_gone) (sc := defScope s_law_gone) (by decide +kernel)) (fun _ _ _ _ _ => (pg_name (i := 3) nd rfl (Or.inl rfl))) (fun _ _ _ _ _ => (pts_one (pt_cmpR op_gt (pe_callB call_len_seq rfl T.f_len PySem.boot_len (pa_cons (pe_call F_law_parts (hr.mono (by decide)) rfl m_law_parts k_law_parts b_law_parts .nil passF (pa_cons (pv 0) (pa_cons (pe_op op_cat (pe_slice sl_list (pv 1) po_none (po_some (pv 3))) (pe_slice sl_list (pv 1) (po_some (pe_op op_add (pv 3) pe_int)) po_none)) pa_nil))) pa_nil)) (pv 2) (nomark _)))) (fun _ _ _ _ _ => (pv 3)))))), ?_⟩
    obtain ⟨vs, el, tv⟩ := tl
    have lvs : vs.length = ps.length := by rw [tups_len tv, List.length_map]
    refine ⟨_, rfl, _, rfl, m, l, ps, rfl, ⟨vs, el, tv⟩, inm, m16, few, fun r zs H1 hr1 sm1 er nz => ?_⟩
    have lz : zs.length = (partsOf m ps).length := by
      rw [Paired.length nz]
      unfold natL
      rw [List.length_map]
    refine ⟨r, zs, rfl, .inl (SqL.of er), ?_⟩
    rw [lz]
    refine ⟨_, rfl, l, vs, rfl, .inl (SqL.of (sm1 _ _ el)), (vs.length : Int), rfl, by omega, by omega, fun R hR => ?_⟩
    have cR := same_new (o := .lst []) hR
    refine lc_it walk_range (fun i H' => H' R = some (.lst ((goneOf m ps i).map natV)) ∧ Same H1 H') ⟨upd_same, cR⟩ (fun _ _ _ _ => trivial) ?_ ?_
    · rintro i x H2 H3 hi ⟨e2, sm2⟩ ⟨rfl, ex⟩
      dsimp only at ex
      rw [Int.zero_add] at ex
      subst ex
      have im : i < vs.length := by omega
      have el2 := sm2 _ _ (sm1 _ _ el)
      refine ⟨rfl, _, rfl, _, rfl, _, rfl, _, rfl, l, vs, rfl, SqL.of el2, fun S1 hS1 => ?_⟩
      rw [cut_take]
      have c1 := same_new (o := .lst (vs.take i)) hS1
      have f1 := upd_same (H := H3) (a := S1) (o := .lst (vs.take i))
      generalize upd H3 S1 (.lst (vs.take i)) = H4 at *
      refine ⟨_, rfl, _, rfl, _, _, rfl, rfl, _, rfl, l, vs, rfl, SqL.of (c1 _ _ el2), fun S2 hS2 => ?_⟩
      have ei : ((i : Int) + 1) = ((i + 1 : Nat) : Int) := by omega
      rw [ei, cut_drop]
      have c2 := same_new (o := .lst (vs.drop (i + 1))) hS2
      have f2 := upd_same (H := H4) (a := S2) (o := .lst (vs.drop (i + 1)))
      generalize upd H4 S2 (.lst (vs.drop (i + 1))) = H5 at *
      refine ⟨S1, S2, _, _, rfl, rfl, c2 _ _ f1, f2, by rw [List.length_take, List.length_drop, sizeLine_eq]; omega, fun S3 hS3 => ?_⟩
      have c3 := same_new (o := .lst (vs.take i ++ vs.drop (i + 1))) hS3
      have f3 := upd_same (H := H5) (a := S3) (o := .lst (vs.take i ++ vs.drop (i + 1)))
      generalize upd H5 S3 (.lst (vs.take i ++ vs.drop (i + 1))) = H6 at *
      rw [← List.eraseIdx_eq_take_drop_succ] at f3
      have smx := ((sm2.trans c1).trans c2).trans c3
      have few2 := List.length_eraseIdx_le ps i
      refine ⟨m, S3, ps.eraseIdx i, rfl, ⟨_, f3, ?_⟩, fun q hq => inm q (List.mem_of_mem_eraseIdx hq), m16, by omega, fun r2 zs2 H7 hr7 sm7 er7 nz7 => ?_⟩
      · rw [← erase_map]
        exact tups_erase i (tups_ext (fun t xs e => smx _ _ (sm1 _ _ e)) tv)
      · have lz7 : zs2.length = (partsOf m (ps.eraseIdx i)).length := by
          rw [Paired.length nz7]
          unfold natL
          rw [List.length_map]
        refine ⟨r2, zs2, rfl, .inl (SqL.of er7), ?_⟩
        rw [lz7]
        refine ⟨_, rfl, _, _, rfl, rfl, _, rfl, ?_⟩
        have dd : decide (((partsOf m ps).length : Int) < ((partsOf m (ps.eraseIdx i)).length : Int)) = decide ((partsOf m ps).length < (partsOf m (ps.eraseIdx i)).length) := decide_eq_decide.mpr ⟨fun z => by omega, fun z => by omega⟩
        rw [dd]
        have step : goneOf m ps (i + 1) = goneOf m ps i ++ (if decide ((partsOf m ps).length < (partsOf m (ps.eraseIdx i)).length) = true then [i] else []) := by
          unfold goneOf
          rw [List.range_succ, List.filter_append, List.filter_cons]
          rfl
        have lg : ((goneOf m ps i).map natV).length ≤ i := by
          rw [List.length_map]
          unfold goneOf
          have z := List.length_filter_le (fun k => decide ((partsOf m ps).length < (partsOf m (ps.eraseIdx k)).length)) (List.range i)
          rw [List.length_range] at z
          exact z
        have e7 := sm7 _ _ (c3 _ _ (c2 _ _ (c1 _ _ e2)))
        have sm8 : Same H1 H7 := smx.trans sm7
        cases hb : decide ((partsOf m ps).length < (partsOf m (ps.eraseIdx i)).length) with
        | true =>
          refine ⟨_, rfl, _, e7, by rw [sizeLine_eq]; omega, ?_, same_over hR sm8⟩
          rw [upd_same, step, hb, if_pos rfl, List.map_append]
          rfl
        | false =>
          refine ⟨?_, sm8⟩
          rw [step, hb, if_neg Bool.false_ne_true, List.append_nil]
          exact e7
    · rintro H2 ⟨e2, sm2⟩
      rw [Int.toNat_natCast, lvs] at e2
      exact k R H2 (sm1.free hR) (sm1.trans sm2) e2
end
end K02

set_option Elab.async false
set_option linter.all false
set_option maxRecDepth 100000
set_option maxHeartbeats 4000000
namespace K02
open PySem PySem.Spec PyProof.Rows L2 Own
/-! ### led by steps -/
def natD0 (ys : List Nat) : PyData := .list (ys.map fun (q : Nat) => PyData.int (q : Int))
theorem dp_nats0 {K : PySem.W.Frag} {H : Hp} : ∀ ys : List Nat, DpAll K H (ys.map natV) (ys.map fun (q : Nat) => PyData.int (q : Int))
  | [] => .nil
  | _ :: ys => .cons (.int _) (dp_nats0 ys)
theorem dp_nat0 {K : PySem.W.Frag} {H : Hp} {r : Addr} {ys : List Nat} (h : H r = some (.lst (ys.map natV))) : Dp K H (.ref r) (natD0 ys) := .lst (SqL.of h) (dp_nats0 ys)
theorem lay_nat0 (ys : List Nat) : Lay 1 (natD0 ys) := lay_list fun d hd => by
  obtain ⟨q, _, rfl⟩ := List.mem_map.mp hd
  exact lay_int _
theorem eqv_nat0 (ys : List Nat) : PyData.eqv (natD0 ys) (.list []) = ys.isEmpty := by
  cases ys <;> rfl
def spLed : Sp := fun vs H Q _ => ∃ (l : Addr) (p m : Nat) (rows : List TRow), vs = [.ref l, .int (p : Int)] ∧ TL H l (rows.map rowV) ∧ (∀ q ∈ ends rows, q.1 < m ∧ q.2 < m) ∧ p < m ∧ m ≤ 16 ∧
  ∀ (r : Addr) (H' : Hp), H r = none → Same H H' → H' r = some (.lst ((ledOf m (ends rows) p).map natV)) → Q (.ref r) H'
abbrev s_law_led : Stmt := top 45
abbrev N_law_led : List Str := ["_law_ways", "_law_place", "_law_found", "_law_waiting", "_law_here", "_law_street", "_law_one", "_law_other"]
theorem sc_law_led : FnScope N_law_led ["_law_ways", "_law_place"] (defScope s_law_led) := ⟨rfl, rfl, rfl, by decide +kernel, rfl, by decide +kernel, by decide +kernel⟩
/-- the places found, those that wait, in the midst -/
structure Mid (m p : Nat) (ws : Join) (F W : List Nat) : Prop where
  nd : F.Nodup
  inS : ∀ q ∈ F, q < m ∧ Led ws p q
  at_ : p ∈ F
  sub : ∀ q ∈ W, q ∈ F
section
variable {P : Program} {w : World} {K : PySem.W.Frag} {mg : Str → Option Value} {base : Heap} {f : Addr} {fd : FuncData}
theorem ok_led (T : TxtG mg) (D : FnP K "_law_led" "_law_led" s_law_led f fd) : FnOk P w K mg base (L2.CX P w) 1 f fd ["_law_ways", "_law_place"] spLed := by
  have nd := sc_law_led.nd
  refine D.ok sc_law_led (fun vs H Q E h => ?_) (fun cdv A outer s H vs Q E hr h => ?_)
  · obtain ⟨l, p, m, rows, rfl, _⟩ := h
    rfl
  · obtain ⟨l, p, m, rows, rfl, ⟨vs, el, tv⟩, inm, hp, m16, k⟩ := h
    refine ⟨_, (pss_cons (ps_set (i := 2) nd rfl (Or.inl rfl) (pe_lst (pa_cons (pv 1) pa_nil)))
      (pss_cons (ps_set (i := 3) nd rfl (Or.inl rfl) (pe_lst (pa_cons (pv 1) pa_nil)))
      (pss_cons (ps_while (passes_of rfl) (pt_cmpR (op_neD hr.units) (pv 3) (pe_lst pa_nil) (nomark _)) (pss_cons (ps_set (i := 4) nd rfl (Or.inl rfl) (pe_bm0 PySem.F.plainAttrs_list PySem.F.slot_list_pop PySem.F.type_list_pop mt_pop (pv 3)))
      (pss_one (ps_for (passes_of rfl) rfl (pi_list (pv 0)) (pg_tup rfl (pgs_cons (pg_name (i := 5) nd rfl (Or.inl rfl)) (pgs_cons (pg_name (i := 6) nd rfl (Or.inl rfl)) (pgs_cons (pg_name (i := 7) nd rfl (Or.inl rfl)) pgs_nil)))) (pss_one (ps_if (PW.pt (pw_and (pt_cmpR op_eq (pv 6) (pv 4) (nomark _)) (pw_and1 (pt_cmpR op_notIn_seq (pv 7) (pv 2) (by with_unfolding_all rfl))))) (pss_cons (ps_expr (pe_bm PySem.F.plainAttrs_list PySem.F.slot_list_append PySem.F.type_list_append mt_append (pv 2) (pa_cons (pv 7) pa_nil)))
      (pss_one (ps_expr (pe_bm PySem.F.plainAttrs_list PySem.F.slot_list_append PySem.F.type_list_append mt_append (pv 3) (pa_cons (pv 7) pa_nil))))) pss_nil))))))
      (pss_one (ps_ret (pe_callB cr_sorted rfl T.f_sorted (by decide +kernel) (pa_cons (pv 2) pa_nil))))))), ?_⟩
    have lvs : vs.length = rows.length := by rw [tups_len tv, List.length_map]
    refine ⟨_, rfl, (by show 1 ≤ sizeLine; decide), fun fa hfa => ?_⟩
    have c1 := same_new (o := .lst [V.int (p : Int)]) hfa
    refine ⟨_, rfl, (by show 1 ≤ sizeLine; decide), fun wa hwa => ?_⟩
    have c2 := same_new (o := .lst [V.int (p : Int)]) hwa
    have nfw : fa ≠ wa := fun z => by
      rw [← z, upd_same] at hwa
      cases hwa
    have ef0 := c2 _ _ (upd_same (H := H) (a := fa) (o := .lst [V.int (p : Int)]))
    have ew0 := upd_same (H := upd H fa (.lst [V.int (p : Int)])) (a := wa) (o := .lst [V.int (p : Int)])
    have sm0 := c1.trans c2
    have hwa0 : H wa = none := c1.free hwa
    generalize upd (upd H fa (.lst [V.int (p : Int)])) wa (.lst [V.int (p : Int)]) = H0 at *
    refine ⟨fun mu σ H' => ∃ (F W : List Nat) (u4 u5 u6 u7 : Option V), σ = [some (.ref l), some (.int (p : Int)), some (.ref fa), some (.ref wa), u4, u5, u6, u7] ∧ H' fa = some (.lst (F.map natV)) ∧ H' wa = some (.lst (W.map natV)) ∧ Mid m p (ends rows) F W ∧ (∀ x ∈ F, x ∉ W → ∀ q ∈ ends rows, q.1 = x → q.2 ∈ F) ∧ Same H H' ∧ W.length ≤ F.length ∧ mu = W.length + 2 * (m - F.length),
      ⟨_, [p], [p], none, none, none, none, rfl, ef0, ew0, ⟨by simp, fun q hq => ?_, List.mem_singleton.mpr rfl, fun q hq => hq⟩, fun x hx hn => (hn hx).elim, sm0, Nat.le_refl _, rfl⟩, ?_⟩
    · rw [List.mem_singleton.mp hq]
      exact ⟨hp, .stay _⟩
    rintro mu σ H1 ⟨F, W, u4, u5, u6, u7, rfl, ef, ew, M, cl, sm, lwf, rfl⟩
    have lF : F.length ≤ m := nodup_le M.nd fun q hq => (M.inS q hq).1
    refine ⟨_, rfl, (by show 0 ≤ sizeLine; decide), fun e1 he1 => ?_⟩
    have c3 := same_new (o := .lst []) he1
    have ee := upd_same (H := H1) (a := e1) (o := .lst [])
    generalize upd H1 e1 (.lst []) = H2 at *
    refine ⟨_, _, dp_nat0 (c3 _ _ ew), .lst (SqL.of ee) .nil, (lay_nat0 W).shaped (by decide), by decide, ?_⟩
    rw [eqv_nat0]
    refine ⟨_, rfl, ?_⟩
    have smN := sm.trans c3
    rcases List.eq_nil_or_concat W with hW | ⟨W0, here, hW⟩
    · subst hW
      -- all is found
      refine ⟨_, rfl, fa, F.map (fun (q : Nat) => (q : Int)), rfl, SqL.of (by rw [List.map_map]; exact c3 _ _ ef), by rw [List.length_map]; omega, fun ys r perm up hr2 => ?_⟩
      refine k r _ (smN.free hr2) (smN.trans (same_new hr2)) ?_
      have e := sorted_cls perm up M.nd (led_up (m := m) (ws := ends rows) (p := p)) fun x => ?_
      · rw [upd_same, e, List.map_map]
        rfl
      · rw [mem_led]
        exact ⟨fun hx => M.inS x hx, fun hx => hx.2.closed (S := fun q => q ∈ F) M.at_ fun q hq h1 => cl _ h1 (by simp) q hq rfl⟩
    · rw [List.concat_eq_append] at hW
      subst hW
      have ie : (W0 ++ [here]).isEmpty = false := by simp
      rw [ie]
      have hereF : here ∈ F := M.sub _ (List.mem_append_right _ (List.mem_singleton.mpr rfl))
      have lW : (W0 ++ [here]).length = W0.length + 1 := by rw [List.length_append]; rfl
      refine ⟨fun σ' H' => ∃ (F' W' : List Nat) (u4 u5 u6 u7 : Option V), σ' = [some (.ref l), some (.int (p : Int)), some (.ref fa), some (.ref wa), u4, u5, u6, u7] ∧ H' fa = some (.lst (F'.map natV)) ∧ H' wa = some (.lst (W'.map natV)) ∧ Mid m p (ends rows) F' W' ∧ (∀ x ∈ F', x ∉ W' → ∀ q ∈ ends rows, q.1 = x → q.2 ∈ F') ∧ Same H H' ∧ W'.length ≤ F'.length ∧ W'.length + 2 * (m - F'.length) ≤ W0.length + 2 * (m - F.length),
        fun σ' H' ⟨F', W', u4, u5, u6, u7, e, e1, e2, e3, e4, e5, e6, e7⟩ => ⟨W'.length + 2 * (m - F'.length), by rw [lW]; omega, F', W', u4, u5, u6, u7, e, e1, e2, e3, e4, e5, e6, rfl⟩, ?_⟩
      have xmap : (W0 ++ [here]).map natV = W0.map natV ++ [natV here] := by rw [List.map_append]; rfl
      have ew2 := c3 _ _ ew
      have ef2 := c3 _ _ ef
      rw [xmap] at ew2
      refine ⟨_, rfl, .inl ⟨rfl, _, SqL.of ew2⟩, wa, _, natV here, rfl, rfl, ew2, by simp, ?_⟩
      rw [List.dropLast_concat]
      have ef3 : upd H2 wa (.lst (W0.map natV)) fa = some (.lst (F.map natV)) := by rw [upd_ne nfw]; exact ef2
      have ew3 := upd_same (H := H2) (a := wa) (o := .lst (W0.map natV))
      have sm3 : Same H (upd H2 wa (.lst (W0.map natV))) := same_over hwa0 smN
      generalize upd H2 wa (.lst (W0.map natV)) = H3 at *
      refine ⟨_, rfl, l, rfl, ⟨vs, SqL.of (sm3 _ _ el)⟩, for_it walk_list (fun i σ' H' => ∃ (F' W' : List Nat) (u5 u6 u7 : Option V), σ' = [some (.ref l), some (.int (p : Int)), some (.ref fa), some (.ref wa), some (natV here), u5, u6, u7] ∧ H' fa = some (.lst (F'.map natV)) ∧ H' wa = some (.lst (W'.map natV)) ∧ Mid m p (ends rows) F' W' ∧ (∀ x ∈ F', x ∉ W' → x ≠ here → ∀ q ∈ ends rows, q.1 = x → q.2 ∈ F') ∧ (∀ q ∈ (ends rows).take i, q.1 = here → q.2 ∈ F') ∧ here ∈ F' ∧ Same H H' ∧ W'.length ≤ F'.length ∧ W'.length + 2 * (m - F'.length) ≤ W0.length + 2 * (m - F.length))
        ⟨F, W0, u5, u6, u7, rfl, ef3, ew3, ⟨M.nd, M.inS, M.at_, fun q hq => M.sub q (List.mem_append_left _ hq)⟩, fun x hx hn ne => cl x hx (fun z => by
          rcases List.mem_append.mp z with z | z
          · exact hn z
          · exact ne (List.mem_singleton.mp z)), fun q hq => by simp at hq, hereF, sm3, by omega, Nat.le_refl _⟩ (fun i σ' H' _ ⟨_, _, _, _, _, _, _, _, _, _, _, _, z, _⟩ => SqL.of (z _ _ el)) ?_ ?_⟩
      · rintro i x σ H4 H5 hi ⟨F', W', u5, u6, u7, rfl, f1, w1, M', c1', c2', hF', sm4, lw, me⟩ ⟨rfl, hx⟩
        obtain ⟨t, xs, rfl, hxs, ht⟩ := tups_get tv hx
        obtain ⟨r, hr0⟩ : ∃ r, rows[i]? = some r := ⟨_, List.getElem?_eq_getElem (by omega)⟩
        rw [List.getElem?_map, hr0] at hxs
        cases hxs
        have rin : (r.2.1, r.2.2) ∈ ends rows := List.mem_map.mpr ⟨r, List.mem_of_getElem? hr0, rfl⟩
        have etake : (ends rows).take (i + 1) = (ends rows).take i ++ [(r.2.1, r.2.2)] := take_snoc (by unfold ends; rw [List.getElem?_map, hr0]; rfl)
        have bnd := inm _ rin
        have lF' : F'.length ≤ m := nodup_le M'.nd fun q hq => (M'.inS q hq).1
        refine ⟨t, _, rfl, SqT.of (sm4 _ _ ht), rfl, _, _, rfl, _, _, rfl, _, _, rfl, rfl, ?_⟩
        have dq : decide (V.int (r.2.1 : Int) = natV here) = decide (r.2.1 = here) := decide_eq_decide.mpr ⟨fun z => Int.ofNat.inj (V.int.inj z), fun z => by rw [z]; rfl⟩
        refine ⟨_, rfl, _, rfl, rfl, ?_⟩
        rw [dq]
        refine ⟨_, rfl, ?_⟩
        by_cases eh : r.2.1 = here
        · rw [decide_eq_true eh]
          refine ⟨_, rfl, _, rfl, fa, _, rfl, .inl (SqL.of f1), rfl, flat_nat _, ?_⟩
          rw [inV_nat, if_pos rfl]
          refine ⟨_, rfl, ?_⟩
          by_cases hb : r.2.2 ∈ F'
          · rw [decide_eq_true hb]
            refine ⟨F', W', _, _, _, rfl, f1, w1, M', c1', fun q hq e => ?_, hF', sm4, lw, me⟩
            rw [etake] at hq
            rcases List.mem_append.mp hq with z | z
            · exact c2' q z e
            · rw [List.mem_singleton.mp z]
              exact hb
          · rw [decide_eq_false hb]
            have w1' : upd H5 fa (.lst (F'.map natV ++ [V.int (r.2.2 : Int)])) wa = some (.lst (W'.map natV)) := by rw [upd_ne nfw.symm]; exact w1
            have small : (F'.map natV).length < sizeLine := by rw [List.length_map, sizeLine_eq]; omega
            have small2 : (W'.map natV).length < sizeLine := by rw [List.length_map, sizeLine_eq]; omega
            refine ⟨_, rfl, .inl ⟨rfl, _, SqL.of f1⟩, _, rfl, fa, _, _, rfl, rfl, f1, small, ?_⟩
            refine ⟨_, rfl, .inl ⟨rfl, _, SqL.of w1'⟩, _, rfl, wa, _, _, rfl, rfl, w1', small2, ?_⟩
            have nd2 : (F' ++ [r.2.2]).Nodup := by
              rw [List.nodup_append]
              exact ⟨M'.nd, by simp, fun x hx y hy e => by
                rw [List.mem_singleton] at hy
                rw [hy] at e
                rw [e] at hx
                exact hb hx⟩
            have ledNew : Led (ends rows) p r.2.2 := .go (eh ▸ (M'.inS here hF').2) rin
            refine ⟨F' ++ [r.2.2], W' ++ [r.2.2], _, _, _, rfl, ?_, ?_, ⟨nd2, fun q hq => ?_, List.mem_append_left _ M'.at_, fun q hq => ?_⟩, fun x hx hn ne q hq e => ?_, fun q hq e => ?_, List.mem_append_left _ hF', same_over hwa0 (same_over (H := H) hfa sm4), ?_, ?_⟩
            · rw [upd_ne nfw, upd_same, List.map_append]
              rfl
            · rw [upd_same, List.map_append]
              rfl
            · rcases List.mem_append.mp hq with z | z
              · exact M'.inS q z
              · rw [List.mem_singleton.mp z]
                exact ⟨bnd.2, ledNew⟩
            · rcases List.mem_append.mp hq with z | z
              · exact List.mem_append_left _ (M'.sub q z)
              · exact List.mem_append_right _ z
            · rcases List.mem_append.mp hx with z | z
              · exact List.mem_append_left _ (c1' x z (fun y => hn (List.mem_append_left _ y)) ne q hq e)
              · exact (hn (List.mem_append_right _ z)).elim
            · rw [etake] at hq
              rcases List.mem_append.mp hq with z | z
              · exact List.mem_append_left _ (c2' q z e)
              · rw [List.mem_singleton.mp z]
                exact List.mem_append_right _ (List.mem_singleton.mpr rfl)
            · rw [List.length_append, List.length_append]
              show W'.length + 1 ≤ F'.length + 1
              omega
            · have lF2 := nodup_le nd2 fun q hq => by
                rcases List.mem_append.mp hq with z | z
                · exact (M'.inS q z).1
                · rw [List.mem_singleton.mp z]
                  exact bnd.2
              rw [List.length_append] at lF2 ⊢
              rw [List.length_append]
              have e1 : [r.2.2].length = 1 := rfl
              rw [e1] at lF2 ⊢
              omega
        · rw [decide_eq_false eh]
          refine ⟨F', W', _, _, _, rfl, f1, w1, M', c1', fun q hq e => ?_, hF', sm4, lw, me⟩
          rw [etake] at hq
          rcases List.mem_append.mp hq with z | z
          · exact c2' q z e
          · rw [List.mem_singleton.mp z] at e
            exact (eh e).elim
      · rintro σ' H4 ⟨F', W', u5, u6, u7, rfl, f1, w1, M', c1', c2', hF', sm4, lw, me⟩
        refine ⟨F', W', _, _, _, _, rfl, f1, w1, M', fun x hx hn q hq e => ?_, sm4, lw, me⟩
        by_cases eh : x = here
        · rw [List.take_of_length_le (by unfold ends; rw [List.length_map]; omega)] at c2'
          exact c2' q hq (e.trans eh)
        · exact c1' x hx hn eh q hq e
end
end K02

set_option Elab.async false
set_option linter.all false
set_option maxRecDepth 100000
set_option maxHeartbeats 4000000
namespace K02
open PySem PySem.Spec PyProof.Rows L2 Own
/-! ### good ways by the law -/
theorem eqv_rows : ∀ xs ys : List TRow, PyData.eqv (.list (xs.map rowD)) (.list (ys.map rowD)) = decide (xs = ys)
  | [], [] => rfl
  | [], _ :: _ => rfl
  | _ :: _, [] => rfl
  | x :: xs, y :: ys => by
    have ih := eqv_rows xs ys
    have e : PyData.eqv (.list ((x :: xs).map rowD)) (.list ((y :: ys).map rowD)) = (PyData.eqv (rowD x) (rowD y) && PyData.eqv (.list (xs.map rowD)) (.list (ys.map rowD))) := by
      simp [PyData.eqv, PyData.eqvAll]
    rw [e, ih, eqv_row]
    simp
def spGood : Sp := fun vs H Q _ => ∃ (m : Nat) (lr lw : Addr) (rows ways : List TRow), vs = [.int (m : Int), .ref lr, .ref lw] ∧ TL H lr (rows.map rowV) ∧ TL H lw (ways.map rowV) ∧ (∀ q ∈ ends ways, q.1 < m ∧ q.2 < m) ∧ 1 ≤ m ∧ m ≤ 16 ∧ rows.length ≤ 60 ∧ ways.length ≤ 60 ∧
  ∀ H', Same H H' → Q (.bl (goodB m rows ways)) H'
abbrev s_law_good : Stmt := top 46
abbrev N_law_good : List Str := ["_law_many_here", "_law_rows", "_law_ways", "_law_mine", "_law_back", "_law_street", "_law_one", "_law_other"]
theorem sc_law_good : FnScope N_law_good ["_law_many_here", "_law_rows", "_law_ways"] (defScope s_law_good) := ⟨rfl, rfl, rfl, by decide +kernel, rfl, by decide +kernel, by decide +kernel⟩
section
variable {P : Program} {w : World} {K : PySem.W.Frag} {mg : Str → Option Value} {base : Heap} {f : Addr} {fd : FuncData}
theorem ok_good (T : TxtM mg) (D : FnP K "_law_good" "_law_good" s_law_good f fd) (c_law_led : CalX P w K mg base 1 "_law_led" spLed) : FnOk P w K mg base (L2.CX P w) 2 f fd ["_law_many_here", "_law_rows", "_law_ways"] spGood := by
  have nd := sc_law_good.nd
  refine D.ok sc_law_good (fun vs H Q E h => ?_) (fun cdv A outer s H vs Q E hr h => ?_)
  · obtain ⟨m, lr, lw, rows, ways, rfl, _⟩ := h
    rfl
  · obtain ⟨m, lr, lw, rows, ways, rfl, ⟨vr, er, tr⟩, ⟨vw, ew, tw⟩, inm, m1, m16, fr, fw, k⟩ := h
    obtain ⟨f_law_led, fd_law_led, ps_law_led, F_law_led, m_law_led, k_law_led, b_law_led⟩ := c_law_led.ex
    refine ⟨_, (pss_cons (ps_setLc (own := [("_law_street", 5), ("_law_one", 6), ("_law_other", 7)]) (g := (gTup K 3 (gCons (gName 5) (gCons (gName 6) (gCons (gName 7) gNil))))) (i := 3) rfl nd rfl rfl (sw_true rfl rfl rfl (by decide +kernel)) (pi_list (pv 2)) (blkOk_by (own := [("_law_street", 5), ("_law_one", 6), ("_law_other", 7)]) (N := N_law_good) (sc := defScope s_law_good) (by decide +kernel)) (fun _ _ _ _ _ => (pg_tup rfl (pgs_cons (pg_name (i := 5) nd rfl (Or.inl rfl)) (pgs_cons (pg_name (i := 6) nd rfl (Or.inl rfl)) (pgs_cons (pg_name (i := 7) nd rfl (Or.inl rfl)) pgs_nil))))) (fun _ _ _ _ _ => pts_nil) (fun _ _ _ _ _ => (pe_tup (pa_cons (pv 5) (pa_cons (pe_callB (call_min2 rfl) rfl T.f_min (by decide +kernel) (pa_cons (pv 6) (pa_cons (pv 7) pa_nil))) (pa_cons (pe_callB (call_max2 rfl) rfl T.f_max (by decide +kernel) (pa_cons (pv 6) (pa_cons (pv 7) pa_nil))) pa_nil))))))
      (pss_cons (ps_if (pt_cmpR (op_neD hr.units) (pv 3) (pe_lc (own := [("_law_street", 5), ("_law_one", 6), ("_law_other", 7)]) (g := (gTup K 3 (gCons (gName 5) (gCons (gName 6) (gCons (gName 7) gNil))))) rfl nd (pi_list (pv 1)) (blkOk_by (own := [("_law_street", 5), ("_law_one", 6), ("_law_other", 7)]) (N := N_law_good) (sc := defScope s_law_good) (by decide +kernel)) (fun _ _ _ _ _ => (pg_tup rfl (pgs_cons (pg_name (i := 5) nd rfl (Or.inl rfl)) (pgs_cons (pg_name (i := 6) nd rfl (Or.inl rfl)) (pgs_cons (pg_name (i := 7) nd rfl (Or.inl rfl)) pgs_nil))))) (fun _ _ _ _ _ => pts_nil) (fun _ _ _ _ _ => (pe_tup (pa_cons (pv 5) (pa_cons (pe_callB (call_min2 rfl) rfl T.f_min (by decide +kernel) (pa_cons (pv 6) (pa_cons (pv 7) pa_nil))) (pa_cons (pe_callB (call_max2 rfl) rfl T.f_max (by decide +kernel) (pa_cons (pv 6) (pa_cons (pv 7) pa_nil))) pa_nil)))))) (nomark _)) (pss_one (ps_ret pe_bl)) pss_nil)
      (pss_cons (ps_setLc (own := [("_law_street", 5), ("_law_one", 6), ("_law_other", 7)]) (g := (gTup K 3 (gCons (gName 5) (gCons (gName 6) (gCons (gName 7) gNil))))) (i := 4) rfl nd rfl rfl (sw_true rfl rfl rfl (by decide +kernel)) (pi_list (pv 2)) (blkOk_by (own := [("_law_street", 5), ("_law_one", 6), ("_law_other", 7)]) (N := N_law_good) (sc := defScope s_law_good) (by decide +kernel)) (fun _ _ _ _ _ => (pg_tup rfl (pgs_cons (pg_name (i := 5) nd rfl (Or.inl rfl)) (pgs_cons (pg_name (i := 6) nd rfl (Or.inl rfl)) (pgs_cons (pg_name (i := 7) nd rfl (Or.inl rfl)) pgs_nil))))) (fun _ _ _ _ _ => pts_nil) (fun _ _ _ _ _ => (pe_tup (pa_cons (pv 5) (pa_cons (pv 7) (pa_cons (pv 6) pa_nil))))))
      (pss_one (ps_ret (pe_and (pe_cmpR op_eq (pe_callB call_len_seq rfl T.f_len PySem.boot_len (pa_cons (pe_call F_law_led (hr.mono (by decide)) rfl m_law_led k_law_led b_law_led .nil passF (pa_cons (pv 2) (pa_cons pe_int pa_nil))) pa_nil)) (pv 0) (nomark _)) (pe_one (pe_cmpR op_eq (pe_callB call_len_seq rfl T.f_len PySem.boot_len (pa_cons (pe_call F_law_led (hr.mono (by decide)) rfl m_law_led k_law_led b_law_led .nil passF (pa_cons (pv 4) (pa_cons pe_int pa_nil))) pa_nil)) (pv 0) (nomark _))))))))), ?_⟩
    refine ⟨_, rfl, lw, rfl, ⟨vw, SqL.of ew⟩, fun D1 hD1 => ?_⟩
    refine lc_it (walk_list (K := K) (xs := vw)) (fun i H' => ∃ zs, H' D1 = some (.lst zs) ∧ Tups H' zs (((ways.take i).map normR).map rowV) ∧ Same H H') ⟨[], upd_same, .nil, same_new hD1⟩ (fun _ _ _ ⟨_, _, _, z⟩ => SqL.of (z _ _ ew)) ?_ ?_
    · rintro i x H8 H9 hi ⟨zs, e1, e2, sm⟩ ⟨rfl, hx⟩
      obtain ⟨t, xs, rfl, hxs, ht⟩ := tups_get tw hx
      have lvs : vw.length = ways.length := by rw [tups_len tw, List.length_map]
      obtain ⟨r, hr0⟩ : ∃ r, ways[i]? = some r := ⟨_, List.getElem?_eq_getElem (by omega)⟩
      rw [List.getElem?_map, hr0] at hxs
      cases hxs
      have ht2 := sm _ _ ht
      have lz : zs.length ≤ i := by
        rw [tups_len e2, List.length_map, List.length_map, List.length_take]
        omega
      refine ⟨t, _, rfl, SqT.of ht2, rfl, _, _, rfl, _, _, rfl, _, _, rfl, rfl, rfl, ?_⟩
      refine ⟨_, rfl, _, rfl, _, rfl, (r.2.1 : Int), (r.2.2 : Int), rfl, _, rfl, _, rfl, (r.2.1 : Int), (r.2.2 : Int), rfl, ?_⟩
      rw [min_nat, max_nat]
      refine ⟨(by show 3 ≤ sizeLine; decide), fun q hq => ?_⟩
      have ct := same_new (o := .tup (rowV (normR r))) hq
      refine ⟨zs, ct _ _ e1, by rw [sizeLine_eq]; omega, zs ++ [V.ref q], upd_same, ?_, same_over hD1 (sm.trans ct)⟩
      rw [take_snoc hr0, List.map_append, List.map_append]
      refine tups_snoc ?_ (tups_over (ct _ _ e1) (tups_ext (fun t xs e => ct _ _ e) e2))
      rw [upd_ne (ne_of (upd_same (H := H9) (a := q) (o := .tup (rowV (normR r)))) (ct _ _ e1) (by intro z; cases z))]
      exact upd_same
    rintro H1 ⟨z1, e1, t1, sm1⟩
    have lvw : vw.length = ways.length := by rw [tups_len tw, List.length_map]
    rw [List.take_of_length_le (by omega)] at t1
    refine ⟨_, rfl, _, rfl, lr, rfl, ⟨vr, SqL.of (sm1 _ _ er)⟩, fun D2 hD2 => ?_⟩
    have er1 := sm1 _ _ er
    have tr1 : Tups H1 vr (rows.map rowV) := tups_ext (fun t xs e => sm1 _ _ e) tr
    refine lc_it (walk_list (K := K) (xs := vr)) (fun i H' => ∃ zs, H' D2 = some (.lst zs) ∧ Tups H' zs (((rows.take i).map normR).map rowV) ∧ Same H1 H') ⟨[], upd_same, .nil, same_new hD2⟩ (fun _ _ _ ⟨_, _, _, z⟩ => SqL.of (z _ _ er1)) ?_ ?_
    · rintro i x H8 H9 hi ⟨zs, e1, e2, sm⟩ ⟨rfl, hx⟩
      obtain ⟨t, xs, rfl, hxs, ht⟩ := tups_get tr1 hx
      have lvs : vr.length = rows.length := by rw [tups_len tr1, List.length_map]
      obtain ⟨r, hr0⟩ : ∃ r, rows[i]? = some r := ⟨_, List.getElem?_eq_getElem (by omega)⟩
      rw [List.getElem?_map, hr0] at hxs
      cases hxs
      have ht2 := sm _ _ ht
      have lz : zs.length ≤ i := by
        rw [tups_len e2, List.length_map, List.length_map, List.length_take]
        omega
      refine ⟨t, _, rfl, SqT.of ht2, rfl, _, _, rfl, _, _, rfl, _, _, rfl, rfl, rfl, ?_⟩
      refine ⟨_, rfl, _, rfl, _, rfl, (r.2.1 : Int), (r.2.2 : Int), rfl, _, rfl, _, rfl, (r.2.1 : Int), (r.2.2 : Int), rfl, ?_⟩
      rw [min_nat, max_nat]
      refine ⟨(by show 3 ≤ sizeLine; decide), fun q hq => ?_⟩
      have ct := same_new (o := .tup (rowV (normR r))) hq
      refine ⟨zs, ct _ _ e1, by rw [sizeLine_eq]; omega, zs ++ [V.ref q], upd_same, ?_, same_over hD2 (sm.trans ct)⟩
      rw [take_snoc hr0, List.map_append, List.map_append]
      refine tups_snoc ?_ (tups_over (ct _ _ e1) (tups_ext (fun t xs e => ct _ _ e) e2))
      rw [upd_ne (ne_of (upd_same (H := H9) (a := q) (o := .tup (rowV (normR r)))) (ct _ _ e1) (by intro z; cases z))]
      exact upd_same
    rintro H2 ⟨z2, e2, t2, sm2⟩
    have lvr : vr.length = rows.length := by rw [tups_len tr, List.length_map]
    rw [List.take_of_length_le (by omega)] at t2
    refine ⟨_, _, dp_town ⟨z1, sm2 _ _ e1, tups_ext (fun t xs e => sm2 _ _ e) t1⟩, dp_town ⟨z2, e2, t2⟩, (lay_rows _).shaped (by decide), (lay_rows _).shaped (by decide), ?_⟩
    rw [eqv_rows]
    have sm12 := sm1.trans sm2
    refine ⟨_, rfl, ?_⟩
    by_cases eq : ways.map normR = rows.map normR
    · rw [decide_eq_true eq]
      have ew2 := sm12 _ _ ew
      have tw2 : Tups H2 vw (ways.map rowV) := tups_ext (fun t xs e => sm12 _ _ e) tw
      refine ⟨_, rfl, lw, rfl, ⟨vw, SqL.of ew2⟩, fun D3 hD3 => ?_⟩
      refine lc_it (walk_list (K := K) (xs := vw)) (fun i H' => ∃ zs, H' D3 = some (.lst zs) ∧ Tups H' zs (((ways.take i).map flipR).map rowV) ∧ Same H2 H') ⟨[], upd_same, .nil, same_new hD3⟩ (fun _ _ _ ⟨_, _, _, z⟩ => SqL.of (z _ _ ew2)) ?_ ?_
      · rintro i x H8 H9 hi ⟨zs, e1, e2, sm⟩ ⟨rfl, hx⟩
        obtain ⟨t, xs, rfl, hxs, ht⟩ := tups_get tw2 hx
        have lvs : vw.length = ways.length := by rw [tups_len tw2, List.length_map]
        obtain ⟨r, hr0⟩ : ∃ r, ways[i]? = some r := ⟨_, List.getElem?_eq_getElem (by omega)⟩
        rw [List.getElem?_map, hr0] at hxs
        cases hxs
        have ht2 := sm _ _ ht
        have lz : zs.length ≤ i := by
          rw [tups_len e2, List.length_map, List.length_map, List.length_take]
          omega
        refine ⟨t, _, rfl, SqT.of ht2, rfl, _, _, rfl, _, _, rfl, _, _, rfl, rfl, rfl, ?_⟩
        refine ⟨_, rfl, _, rfl, _, rfl, (by show 3 ≤ sizeLine; decide), fun q hq => ?_⟩
        have ct := same_new (o := .tup (rowV (flipR r))) hq
        refine ⟨zs, ct _ _ e1, by rw [sizeLine_eq]; omega, zs ++ [V.ref q], upd_same, ?_, same_over hD3 (sm.trans ct)⟩
        rw [take_snoc hr0, List.map_append, List.map_append]
        refine tups_snoc ?_ (tups_over (ct _ _ e1) (tups_ext (fun t xs e => ct _ _ e) e2))
        rw [upd_ne (ne_of (upd_same (H := H9) (a := q) (o := .tup (rowV (flipR r)))) (ct _ _ e1) (by intro z; cases z))]
        exact upd_same
      rintro H3 ⟨z3, e3, t3, sm3⟩
      rw [List.take_of_length_le (by omega)] at t3
      have smA := sm12.trans sm3
      refine ⟨_, rfl, lw, 0, m, ways, rfl, ⟨vw, smA _ _ ew, tups_ext (fun t xs e => smA _ _ e) tw⟩, inm, by omega, m16, fun r1 H4 hr4 sm4 er4 => ?_⟩
      refine ⟨r1, _, rfl, .inl (SqL.of er4), _, rfl, rfl, ?_⟩
      rw [List.length_map]
      have d1 : decide (V.int ((ledOf m (ends ways) 0).length : Int) = V.int (m : Int)) = decide ((ledOf m (ends ways) 0).length = m) := decide_eq_decide.mpr ⟨fun z => Int.ofNat.inj (V.int.inj z), fun z => by rw [z]⟩
      rw [d1]
      refine ⟨_, rfl, ?_⟩
      by_cases l1 : (ledOf m (ends ways) 0).length = m
      · rw [decide_eq_true l1]
        refine ⟨_, rfl, D3, 0, m, ways.map flipR, rfl, ⟨z3, sm4 _ _ e3, tups_ext (fun t xs e => sm4 _ _ e) t3⟩, fun q hq => ?_, by omega, m16, fun r2 H5 hr5 sm5 er5 => ?_⟩
        · unfold ends at hq
          rw [List.map_map] at hq
          obtain ⟨y, hy, rfl⟩ := List.mem_map.mp hq
          have z := inm _ (List.mem_map.mpr ⟨y, hy, rfl⟩)
          exact ⟨z.2, z.1⟩
        · refine ⟨r2, _, rfl, .inl (SqL.of er5), _, rfl, rfl, ?_⟩
          rw [List.length_map]
          have d2 : decide (V.int ((ledOf m (ends (ways.map flipR)) 0).length : Int) = V.int (m : Int)) = decide ((ledOf m (ends (ways.map flipR)) 0).length = m) := decide_eq_decide.mpr ⟨fun z => Int.ofNat.inj (V.int.inj z), fun z => by rw [z]⟩
          rw [d2]
          have kk := k H5 ((smA.trans sm4).trans sm5)
          unfold goodB at kk
          rw [decide_eq_true eq, decide_eq_true l1] at kk
          exact kk
      · rw [decide_eq_false l1]
        have kk := k H4 (smA.trans sm4)
        unfold goodB at kk
        rw [decide_eq_true eq, decide_eq_false l1] at kk
        exact kk
    · rw [decide_eq_false eq]
      have kk := k H2 sm12
      unfold goodB at kk
      rw [decide_eq_false eq] at kk
      exact kk
end
end K02

set_option Elab.async false
set_option linter.all false
set_option maxRecDepth 100000
set_option maxHeartbeats 4000000
namespace K02
open PySem PySem.Spec PyProof.Rows L2 Own
/-! ### what is told, as data -/
def natD (ys : List Nat) : PyData := .list (ys.map fun (q : Nat) => PyData.int (q : Int))
def partsD (yss : List (List Nat)) : PyData := .list (yss.map natD)
def allD (a b : List (List Nat)) (c : List Nat) : PyData := .list [partsD a, partsD b, natD c]
theorem dp_nats {K : PySem.W.Frag} {H : Hp} : ∀ ys : List Nat, DpAll K H (ys.map natV) (ys.map fun (q : Nat) => PyData.int (q : Int))
  | [] => .nil
  | _ :: ys => .cons (.int _) (dp_nats ys)
theorem dp_nat {K : PySem.W.Frag} {H : Hp} {r : Addr} {ys : List Nat} (h : H r = some (.lst (ys.map natV))) : Dp K H (.ref r) (natD ys) := .lst (SqL.of h) (dp_nats ys)
theorem dp_newL {K : PySem.W.Frag} {H H' : Hp} {r : Addr} : ∀ {vs : List V} {yss : List (List Nat)}, NewL H H' r vs (natL yss) → DpAll K H' vs (yss.map natD)
  | [], [], _ => .nil
  | _ :: _, [], h => by cases h
  | [], _ :: _, h => by cases h
  | v :: vs, ys :: yss, h => by
    have h' : NewL H H' r (v :: vs) (ys.map natV :: natL yss) := h
    cases h' with
    | cons q1 q2 =>
      obtain ⟨t, e, _, _, ht⟩ := q1
      subst e
      exact .cons (dp_nat ht) (dp_newL q2)
theorem dp_parts {K : PySem.W.Frag} {H H' : Hp} {r q : Addr} {zs : List V} {yss : List (List Nat)} (e : H' q = some (.lst zs)) (h : NewL H H' r zs (natL yss)) : Dp K H' (.ref q) (partsD yss) := .lst (SqL.of e) (dp_newL h)
theorem lay_nat (ys : List Nat) : Lay 1 (natD ys) := lay_list fun d hd => by
  obtain ⟨q, _, rfl⟩ := List.mem_map.mp hd
  exact lay_int _
theorem lay_parts (yss : List (List Nat)) : Lay 2 (partsD yss) := lay_list fun d hd => by
  obtain ⟨ys, _, rfl⟩ := List.mem_map.mp hd
  exact lay_nat ys
theorem lay_up {n k : Nat} {d : PyData} (h : Lay n d) (l : n ≤ k) : Lay k d := ⟨h.1, Nat.le_trans h.2 l⟩
theorem lay_told (a b : List (List Nat)) (c : List Nat) : Lay 3 (allD a b c) := lay_list fun d hd => by
  simp only [List.mem_cons, List.not_mem_nil, or_false] at hd
  rcases hd with h | h | h <;> rw [h]
  · exact lay_parts a
  · exact lay_parts b
  · exact lay_up (lay_nat c) (by decide)
theorem heads_zero {m : Nat} {ps : Join} (h : 1 ≤ m) : (partsOf m ps)[0]? = some (cls m ps 0) := by
  have z : Least ps 0 := fun q hq => absurd hq (Nat.not_lt_zero q)
  obtain ⟨k, rfl⟩ : ∃ k, m = k + 1 := ⟨m - 1, by omega⟩
  have e : (heads (k + 1) ps)[0]? = some 0 := by
    have e1 : heads (k + 1) ps = [0] ++ ((List.range k).map (· + 1)).filter fun p => @decide (Least ps p) (Classical.propDecidable _) := by
      unfold heads
      rw [List.range_succ_eq_map, List.filter_cons, if_pos ((@decide_eq_true_iff _ (Classical.propDecidable _)).mpr z)]
      rfl
    rw [e1]
    rfl
  unfold partsOf
  rw [List.getElem?_map, e]
  rfl
/-! ### by index and by row -/
theorem drop_row : ∀ {rows : List TRow} {k : Nat} {r : TRow}, rows.Pairwise (fun a b => a.1 < b.1) → rows[k]? = some r → (rows.filter fun q => decide (q.1 ≠ r.1)) = rows.eraseIdx k
  | [], k, r, _, h => by simp at h
  | a :: rows, 0, r, hp, h => by
    simp at h
    subst h
    rw [List.pairwise_cons] at hp
    simp only [List.filter_cons, ne_eq, not_true_eq_false, decide_false, List.eraseIdx_zero, List.tail_cons]
    rw [if_neg Bool.false_ne_true]
    refine List.filter_eq_self.mpr fun q hq => ?_
    have := hp.1 q hq
    exact decide_eq_true (by omega)
  | a :: rows, k + 1, r, hp, h => by
    rw [List.pairwise_cons] at hp
    have hr : r ∈ rows := List.mem_of_getElem? (by simpa using h)
    have lt := hp.1 r hr
    have ih := drop_row (k := k) hp.2 (by simpa using h)
    rw [List.filter_cons, if_pos (decide_eq_true (by omega)), ih, List.eraseIdx_cons_succ]
theorem mem_erase {α : Type} {q r : α} : ∀ {xs : List α} {k : Nat}, xs[k]? = some r → (q ∈ xs ↔ q = r ∨ q ∈ xs.eraseIdx k)
  | [], k, h => by simp at h
  | x :: xs, 0, h => by
    simp at h
    subst h
    simp
  | x :: xs, k + 1, h => by
    have ih := mem_erase (q := q) (xs := xs) (k := k) (by simpa using h)
    rw [List.eraseIdx_cons_succ, List.mem_cons, List.mem_cons, ih]
    constructor
    · rintro (h | h | h)
      · exact .inr (.inl h)
      · exact .inl h
      · exact .inr (.inr h)
    · rintro (h | h | h)
      · exact .inr (.inl h)
      · exact .inl h
      · exact .inr (.inr h)
/-- the law's counting of parts, and the ends apart without the street -/
theorem gone_key {m : Nat} {rows : List TRow} {i : Nat} {r : TRow} (rise : rows.Pairwise fun a b => a.1 < b.1) (inm : ∀ q ∈ ends rows, q.1 < m ∧ q.2 < m) (hr : rows[i]? = some r) :
    decide ((partsOf m (ends rows)).length < (partsOf m ((ends rows).eraseIdx i)).length) = bridge rows r := by
  unfold bridge
  rw [drop_row rise hr]
  have e : ends (rows.eraseIdx i) = (ends rows).eraseIdx i := (erase_map _ rows i).symm
  rw [e]
  have hi : (ends rows)[i]? = some (r.2.1, r.2.2) := by
    unfold ends
    rw [List.getElem?_map, hr]
    rfl
  have bnd := inm _ (List.mem_of_getElem? hi)
  exact decide_eq_decide.mpr (parts_grow (fun q => mem_erase hi) bnd.1 bnd.2)
theorem gone_mem {m : Nat} {ps : Join} {n i : Nat} (hi : i < n) : i ∈ goneOf m ps n ↔ decide ((partsOf m ps).length < (partsOf m (ps.eraseIdx i)).length) = true := by
  unfold goneOf
  rw [List.mem_filter, List.mem_range]
  exact ⟨fun h => h.2, fun h => ⟨hi, h⟩⟩
def numAt (rows : List TRow) (k : Nat) : Nat := match rows[k]? with
  | some r => r.1
  | none => 0
theorem gone_nums {m : Nat} {rows : List TRow} (rise : rows.Pairwise fun a b => a.1 < b.1) (inm : ∀ q ∈ ends rows, q.1 < m ∧ q.2 < m) : ∀ n, n ≤ rows.length → (goneOf m (ends rows) n).map (numAt rows) = ((rows.take n).filter (bridge rows)).map (·.1)
  | 0, _ => by
    unfold goneOf
    simp
  | n + 1, h => by
    have ih := gone_nums rise inm n (by omega)
    obtain ⟨r, hr⟩ : ∃ r, rows[n]? = some r := ⟨_, List.getElem?_eq_getElem (by omega)⟩
    have step : goneOf m (ends rows) (n + 1) = goneOf m (ends rows) n ++ (if decide ((partsOf m (ends rows)).length < (partsOf m ((ends rows).eraseIdx n)).length) = true then [n] else []) := by
      unfold goneOf
      rw [List.range_succ, List.filter_append, List.filter_cons]
      rfl
    rw [step, gone_key rise inm hr, take_snoc hr, List.map_append, List.filter_append, List.map_append, ih, List.filter_cons]
    have en : numAt rows n = r.1 := by
      unfold numAt
      rw [hr]
    cases hb : bridge rows r with
    | true =>
      rw [if_pos rfl, if_pos rfl]
      simp [en]
    | false =>
      rw [if_neg Bool.false_ne_true, if_neg Bool.false_ne_true]
      simp
theorem left_rows {rows : List TRow} : (rows.filter fun q => decide (q ∉ rows.filter (bridge rows))) = rows.filter fun q => !bridge rows q := by
  refine List.filter_congr fun q hq => ?_
  cases hb : bridge rows q with
  | true => exact decide_eq_false fun z => z (List.mem_filter.mpr ⟨hq, hb⟩)
  | false =>
    refine decide_eq_true fun z => ?_
    have y := (List.mem_filter.mp z).2
    rw [hb] at y
    cases y
end K02

set_option Elab.async false
set_option linter.all false
set_option maxRecDepth 100000
set_option maxHeartbeats 4000000
namespace K02
open PySem PySem.Spec PyProof.Rows L2 Own
/-! ### promises of one_way -/
def spOneWay (fW : Nat → List TRow → List TRow) (K : PySem.W.Frag) (C : Addr) : Sp := fun vs H Q E => ∃ (p d : Addr) (m : Nat) (rows : List TRow) (n : Nat), vs = [.ref p] ∧ TownAt C H p d m rows n ∧
  (canB m rows = true → ∀ (r : Addr) (H' : Hp), H r = none → Same H H' → TL H' r ((fW m rows).map rowV) → Q (.ref r) H') ∧
  (canB m rows = false → ∀ (dd b c : Addr) (zs : List V) (H' : Hp), H dd = none → H b = none → H c = none → b ≠ dd → c ≠ dd → b ≠ c → Same H H' → H' dd = some (.xd [("apart", .ref c), ("between", .ref b)]) → H' b = some (.lst (((rows.filter (bridge rows)).map (·.1)).map natV)) → H' c = some (.lst zs) → NewL H H' c zs (natL (partsOf m (ends rows))) →
    E (.ref (gA K "Parted")) (some dd) H')
end K02

set_option Elab.async false
set_option linter.all false
set_option maxRecDepth 100000
set_option maxHeartbeats 4000000
namespace K02
open PySem PySem.Spec PyProof.Rows L2 Own
/-! ### Parted -/
abbrev s_Parted_init : Stmt := inClass (top 20) 0
theorem sup_Parted : SupS (defScope s_Parted_init) := ⟨rfl, rfl, rfl, ⟨rfl, rfl, rfl⟩, rfl, rfl, by decide +kernel, by decide +kernel, fun z => by rcases z with z | z | z <;> exact absurd z (by decide)⟩
/-- Parted(between, apart), made: its lists are told anew -/
def spParted (C : Addr) : Sp := fun vs H Q _ => ∃ (a p q : Addr) (xs rs : List V) (yss : List (List V)), vs = [.ref a, .ref p, .ref q] ∧ H a = some (exo a C none) ∧ H p = some (.lst xs) ∧ H q = some (.lst rs) ∧ Lsts H rs yss ∧ rs.length ≤ sizeLine ∧
  ∀ (b c d : Addr) (zs : List V) (H' : Hp), H b = none → H c = none → H d = none → H' a = some (exo a C (some d)) → H' d = some (exd d [("apart", .ref c), ("between", .ref b)]) → H' b = some (.lst xs) → H' c = some (.lst zs) → NewL H H' c zs yss → b ≠ c →
    (∀ x o, x ≠ a → H x = some o → H' x = some o) → Q .non H'
theorem exo_lst {e C : Addr} {d : Option Addr} {xs : List V} : exo e C d ≠ .lst xs := fun z => by
  have z' : HO.ext _ = HO.lst xs := z
  cases z'
section
variable {P : Program} {w : World} {K : PySem.W.Frag} {mg : Str → Option Value} {base : Heap} {C fI cda cc : Addr} {fd : FuncData}
theorem ok_Parted (D : SupC K mg P C fI cda cc (defArgs s_Parted_init) (defBody s_Parted_init) (defScope s_Parted_init) fd) (fl : mg "list" = none) (nb : PySem.W.findIn K (.ref C) "between" = some none) (na : PySem.W.findIn K (.ref C) "apart" = some none) :
    FnOk P w K mg base (L2.CX P w) 1 fI fd ["self", "between", "apart"] (spParted C) := by
  refine ⟨fun vs H Q E h => ?_, fun A outer s H args us vs Q E hr e0 hb r h => ?_⟩
  · obtain ⟨a, p, q, xs, rs, yss, rfl, _⟩ := h
    rfl
  · obtain ⟨a, p, q, xs, rs, yss, rfl, ea, ep, eq, L, few, k⟩ := h
    obtain ⟨u0, us1, rfl, ra, r1⟩ : ∃ u0 ur, us = u0 :: ur ∧ RelV (.ref a) u0 ∧ Vals [.ref p, .ref q] ur := by
      cases r with
      | cons q0 q1 => exact ⟨_, _, rfl, q0, q1⟩
    obtain ⟨u1, us2, rfl, rp, r2⟩ : ∃ u0 ur, us1 = u0 :: ur ∧ RelV (.ref p) u0 ∧ Vals [.ref q] ur := by
      cases r1 with
      | cons q0 q1 => exact ⟨_, _, rfl, q0, q1⟩
    obtain ⟨u2, rfl, rq⟩ : ∃ u0, us2 = [u0] ∧ RelV (.ref q) u0 := by
      cases r2 with
      | cons q0 q1 =>
        cases q1
        exact ⟨_, rfl, q0⟩
    cases ra
    have nd : supN.Nodup := by decide
    refine sup_run (k := 0) sup_Parted D rfl (fun _ => rfl) hr e0 hb rp rq ea ?_
    refine ⟨_, (pss_cons (ps_ost (pv 0) (pe_callTy call_list_of rfl fl (by decide +kernel) (pa_cons (pv 1) pa_nil)))
      (pss_one (ps_ost (pv 0) (pe_lc (own := [("part", 3)]) (g := (gName 3)) (te := tCB (fun xs H Q => ∃ (p : Addr) (ys : List V), xs = [V.ref p] ∧ (SqL K H p ys ∨ SqT K H p ys) ∧ ∀ l, H l = none → Q (.ref l) (upd H l (.lst ys))) (tCons (tVar 3) tNil)) rfl nd (pi_list (pv 2)) (blkOk_by (own := [("part", 3)]) (N := supN) (sc := defScope s_Parted_init) (by decide +kernel)) (fun _ _ _ _ _ => (pg_name (i := 3) nd rfl (Or.inl rfl))) (fun _ _ _ _ _ => pts_nil) (fun _ _ _ _ _ => (pe_callTy call_list_of rfl fl (by decide +kernel) (pa_cons (pv 3) pa_nil))))))), ?_⟩
    refine ⟨_, rfl, p, xs, rfl, .inl (SqL.of ep), fun b hb0 => ⟨_, rfl, a, C, rfl, D.oex, nb, .inl ⟨by rw [upd_ne (ne_of_none ea hb0)]; exact ea, fun d hd nda => ?_⟩⟩⟩
    obtain ⟨ndb, hd0⟩ := upd_none hd
    have nba : b ≠ a := fun z => by
      rw [z, ea] at hb0
      cases hb0
    have nqa : q ≠ a := at_ne ea eq exo_lst
    have e1a : upd (upd (upd H b (.lst xs)) d (exd d [(("between" : Str), V.ref b)])) a (exo a C (some d)) a = some (exo a C (some d)) := upd_same
    have e1d : upd (upd (upd H b (.lst xs)) d (exd d [(("between" : Str), V.ref b)])) a (exo a C (some d)) d = some (exd d [("between", V.ref b)]) := by rw [upd_ne nda, upd_same]
    have e1b : upd (upd (upd H b (.lst xs)) d (exd d [(("between" : Str), V.ref b)])) a (exo a C (some d)) b = some (.lst xs) := by rw [upd_ne nba, upd_ne ndb.symm, upd_same]
    have old : ∀ x o, x ≠ a → H x = some o → upd (upd (upd H b (.lst xs)) d (exd d [(("between" : Str), V.ref b)])) a (exo a C (some d)) x = some o := fun x o nx e => by
      rw [upd_ne nx, upd_ne (ne_of_none e hd0), upd_ne (ne_of_none e hb0)]
      exact e
    generalize upd (upd (upd H b (.lst xs)) d (exd d [(("between" : Str), V.ref b)])) a (exo a C (some d)) = H1 at *
    have L1 : Lsts H1 rs yss := lsts_ext (fun t ys e => old t _ (at_ne ea e exo_lst) e) L
    refine ⟨_, rfl, q, rfl, ⟨rs, SqL.of (old _ _ nqa eq)⟩, fun D0 hD => ?_⟩
    refine lc_it walk_list (fun i H' => ∃ zs, H' D0 = some (.lst zs) ∧ NewL H H' D0 zs (yss.take i) ∧ zs.length = i ∧ Same H1 H') ⟨[], upd_same, .nil, rfl, same_new hD⟩ (fun i H' _ ⟨_, _, _, _, sm⟩ => SqL.of (sm _ _ (old _ _ nqa eq))) ?_ ?_
    · rintro i x H2 H3 hi ⟨zs, g1, g2, g3, sm⟩ ⟨rfl, hx⟩
      obtain ⟨t, ys, hx1, hy, ht⟩ := lsts_get L1 hi
      rw [hx] at hx1
      cases hx1
      refine ⟨rfl, _, rfl, t, ys, rfl, .inl (SqL.of (sm _ _ ht)), fun l hl => ?_⟩
      have nlD : D0 ≠ l := ne_of_none g1 hl
      refine ⟨zs, by rw [upd_ne nlD]; exact g1, by omega, zs ++ [V.ref l], upd_same, ?_, by rw [List.length_append]; show zs.length + 1 = i + 1; omega, fun b o e => ?_⟩
      · rw [take_snoc hy]
        refine newL_snoc nlD.symm ?_ (by rw [upd_ne nlD.symm]; exact upd_same) (newL_ext (fun b ws nb _ e => ?_) g2)
        · cases z : H l with
          | none => rfl
          | some o =>
            have y := sm l
            by_cases la : l = a
            · rw [la] at hl
              rw [sm _ _ e1a] at hl
              cases hl
            · rw [sm _ _ (old _ _ la z)] at hl
              cases hl
        rw [upd_ne nb, upd_ne (ne_of_none e hl)]
        exact e
      · have nb : b ≠ D0 := ne_of_none e hD
        rw [upd_ne nb, upd_ne (ne_of_none (sm _ _ e) hl)]
        exact sm _ _ e
    · rintro H2 ⟨zs, g1, g2, g3, sm⟩
      rw [Paired.length L, List.take_length] at g2
      refine ⟨_, rfl, a, C, rfl, D.oex, na, .inr ⟨d, _, sm _ _ e1a, sm _ _ e1d, (by show 1 ≤ 900; decide), ?_⟩⟩
      have g1a := sm _ _ e1a
      have g1d := sm _ _ e1d
      have g1b := sm _ _ e1b
      have hD0 : H D0 = none := by
        cases z : H D0 with
        | none => rfl
        | some o =>
          rw [old _ _ (fun y => by rw [y, e1a] at hD; cases hD) z] at hD
          cases hD
      refine k b D0 d zs _ hb0 hD0 hd0 (by rw [upd_ne nda.symm]; exact g1a) upd_same (by rw [upd_ne ndb.symm]; exact g1b) (by rw [upd_ne (fun y => by rw [y, g1d] at g1; cases g1)]; exact g1)
        (newL_ext (fun t ys _ _ e => by rw [upd_ne (fun y => by rw [y, g1d] at e; cases e)]; exact e) g2) (fun y => by rw [← y, e1b] at hD; cases hD) (fun x o nx e => by
          rw [upd_ne (ne_of_none e hd0)]
          exact sm _ _ (old x o nx e))
end
/-! ### one_way -/
structure MakE (P : Program) (w : World) (K : PySem.W.Frag) (mg : Str → Option Value) (base : Heap) (k : Nat) (x : Str) (C : Addr) (sp : Sp) : Prop where
  ex : ∃ (f : Addr) (fd : FuncData) (ps : List Str), OexC K C ∧ PySem.W.findIn K (.ref C) "__init__" = some (some (.ref f)) ∧ PySem.W.typeIn K (.ref f) = some (.type "function") ∧ FnOk P w K mg base (L2.CX P w) k f fd ps sp ∧ mg x = some (.ref C) ∧ Binds K fd ps []
structure TxtOW (mg : Str → Option Value) : Prop where
  f_len : mg "len" = none
  f_sorted : mg "sorted" = none
theorem perm_tups {H : Hp} {ys vs : List V} (pm : ys.Perm vs) : ∀ {T : List TRow}, Tups H vs (T.map rowV) → ∃ T' : List TRow, T'.Perm T ∧ Tups H ys (T'.map rowV) := by
  induction pm with
  | nil => exact fun {T} t => ⟨T, .refl _, t⟩
  | cons x _ ih =>
    intro T t
    cases T with
    | nil => cases t
    | cons r T0 =>
      cases t with
      | cons a b =>
        obtain ⟨T', h1, h2⟩ := ih b
        exact ⟨r :: T', h1.cons r, .cons a h2⟩
  | swap x y l =>
    intro T t
    cases T with
    | nil => cases t
    | cons r T0 =>
      cases t with
      | cons a b =>
        cases T0 with
        | nil => cases b
        | cons r2 T1 =>
          cases b with
          | cons c d => exact ⟨r2 :: r :: T1, .swap .., .cons c (.cons a d)⟩
  | trans _ _ ih1 ih2 =>
    intro T t
    obtain ⟨T1, h1, h2⟩ := ih2 t
    obtain ⟨T2, g1, g2⟩ := ih1 h2
    exact ⟨T2, g1.trans h1, g2⟩
theorem tups_pw {H : Hp} {R : V → V → Prop} {S : TRow → TRow → Prop} (k : ∀ x y r q, (∃ t, x = V.ref t ∧ H t = some (.tup (rowV r))) → (∃ t, y = V.ref t ∧ H t = some (.tup (rowV q))) → R x y → S r q) : ∀ {ys : List V} {T : List TRow}, ys.Pairwise R → Tups H ys (T.map rowV) → T.Pairwise S
  | [], [], _, _ => .nil
  | [], _ :: _, _, t => by cases t
  | _ :: _, [], _, t => by cases t
  | y :: ys, r :: T, pw, t => by
    cases t with
    | cons a b =>
      obtain ⟨p1, p2⟩ := List.pairwise_cons.mp pw
      refine List.pairwise_cons.mpr ⟨fun q hq => ?_, tups_pw k p2 b⟩
      obtain ⟨i, hi⟩ := List.getElem?_of_mem hq
      obtain ⟨v, hv⟩ : ∃ v, ys[i]? = some v := ⟨_, List.getElem?_eq_getElem (by
        have l := tups_len b
        rw [List.length_map] at l
        rw [l]
        exact (List.getElem?_eq_some_iff.mp hi).1)⟩
      obtain ⟨u, xs, e1, e2, e3⟩ := tups_get b hv
      rw [List.getElem?_map, hi] at e2
      cases e2
      exact k y v r q a ⟨u, e1, e3⟩ (p1 v (List.mem_of_getElem? hv))
abbrev s_one_way : Stmt := top 31
abbrev N_one_way : List Str := ["town", "between", "apart", "row", "step"]
theorem sc_one_way : FnScope N_one_way ["town"] (defScope s_one_way) := ⟨rfl, rfl, rfl, by decide +kernel, rfl, by decide +kernel, by decide +kernel⟩
section
variable {P : Program} {w : World} {K : PySem.W.Frag} {mg : Str → Option Value} {base : Heap} {f : Addr} {fd : FuncData}
theorem ok_one_way (T : TxtOW mg) (D : FnP K "one_way" "one_way" s_one_way f fd) (c_parting : CalX P w K mg base 5 "parting" (spParting (gA K "Town"))) (c_parts : CalX P w K mg base 4 "parts" (spPartsT (gA K "Town"))) (c_handles : CalX P w K mg base 6 "handles" (spHandles (gA K "Town")))
    (c_Parted : MakE P w K mg base 1 "Parted" (gA K "Parted") (spParted (gA K "Parted"))) : FnOk P w K mg base (L2.CX P w) 8 f fd ["town"] (spOneWay fW K (gA K "Town")) := by
  have nd := sc_one_way.nd
  refine D.ok sc_one_way (fun vs H Q E h => ?_) (fun cdv A outer s H vs Q E hr h => ?_)
  · obtain ⟨p, d, m, rows, n, rfl, _⟩ := h
    rfl
  · obtain ⟨p, d, m, rows, n, rfl, W, good, bad⟩ := h
    obtain ⟨f_parting, fd_parting, ps_parting, F_parting, m_parting, k_parting, b_parting⟩ := c_parting.ex
    obtain ⟨f_parts, fd_parts, ps_parts, F_parts, m_parts, k_parts, b_parts⟩ := c_parts.ex
    obtain ⟨f_handles, fd_handles, ps_handles, F_handles, m_handles, k_handles, b_handles⟩ := c_handles.ex
    obtain ⟨f_Parted, fd_Parted, ps_Parted, O_Parted, i_Parted, t_Parted, F_Parted, m_Parted, b_Parted⟩ := c_Parted.ex
    obtain ⟨NB, hNB⟩ : ∃ NB : Nat, NB = n + 17 := ⟨_, rfl⟩
    refine ⟨_, (pss_cons (ps_set (i := 1) nd rfl (Or.inl rfl) (pe_call F_parting (hr.mono (by decide)) rfl m_parting k_parting b_parting .nil passF (pa_cons (pv 0) pa_nil)))
      (pss_cons (ps_set (i := 2) nd rfl (Or.inl rfl) (pe_call F_parts (hr.mono (by decide)) rfl m_parts k_parts b_parts .nil passF (pa_cons (pv 0) pa_nil)))
      (pss_cons (ps_if (PW.pt (pw_or (pt_truth (pv 1) (by intro _; rfl)) (pw_or1 (pt_cmpR op_gt (pe_callB call_len_seq rfl T.f_len PySem.boot_len (pa_cons (pv 2) pa_nil)) pe_int (nomark _))))) (pss_one (ps_raise rfl (takes_of rfl rfl rfl rfl) (pmk_oex O_Parted i_Parted t_Parted F_Parted (hr.mono (by decide)) b_Parted .nil passF rfl m_Parted (pa_cons (pv 1) (pa_cons (pv 2) pa_nil))))) pss_nil)
      (pss_one (ps_ret (pe_callB (cr_sortT (d := 3) (B := ((NB : Nat) : Int)) (by decide)) rfl T.f_sorted (by decide +kernel) (pa_cons (pe_lc2 (own := [("row", 3), ("step", 4)]) (vs1 := [4]) (g := (gName 3)) (g1 := (gName 4)) (wi1 := iList K (tVar 3)) rfl nd (pi_list (pe_call F_handles (hr.mono (by decide)) rfl m_handles k_handles b_handles .nil passF (pa_cons (pv 0) pa_nil))) (blkOk_by (own := [("row", 3), ("step", 4)]) (N := N_one_way) (sc := defScope s_one_way) (by decide +kernel)) (by decide) (fun _ _ _ _ _ => (pg_name (i := 3) nd rfl (Or.inl rfl))) (fun _ _ _ _ _ => pts_nil) (fun _ _ _ _ _ => (pi_list (pv 3))) (fun _ _ _ _ _ => (pg_name (i := 4) nd rfl (Or.inl rfl))) (fun _ _ _ _ _ => pts_nil) (fun _ _ _ _ _ => (pv 4))) pa_nil))))))), ?_⟩
    refine ⟨_, rfl, p, d, m, rows, n, rfl, W, fun bl H1 hbl sm1 eb => ?_⟩
    have W1 := W.same sm1
    refine ⟨_, rfl, p, d, m, rows, n, rfl, W1, fun al az H2 hal sm2 ea na => ?_⟩
    dsimp only [gName]
    refine nice (σ' := [some (.ref p), some (.ref bl), some (.ref al), none, none]) rfl ?_
    have eb2 := sm2 _ _ eb
    have sm := sm1.trans sm2
    have W2 := W.same sm
    have u := rise_one W.ok.rise
    have inm := town_inm W
    have m1 := W.pm.1
    have m16 := W.pm.2
    have laz : az.length = (partsOf m (ends rows)).length := by
      rw [Paired.length na]
      unfold natL
      rw [List.length_map]
    have hbl0 : H bl = none := hbl
    have nba : bl ≠ al := fun z => by
      rw [← z, eb] at hal
      cases hal
    refine (fun (bd : canB m rows = false → (_ : Prop)) => ⟨_, rfl, !((rows.filter (bridge rows)).map (·.1)).isEmpty, .inl ⟨_, SqL.of eb2, by simp⟩, if_both (fun c => bd ?g1) (fun c => ⟨_, rfl, al, az, rfl, .inl (SqL.of ea), _, _, rfl, rfl, _, rfl, if_both (fun c2 => bd ?g2) (fun c2 => ?good)⟩)⟩) ?bd
    case g1 =>
      unfold canB
      cases z : (rows.filter (bridge rows)).isEmpty with
      | true =>
        have y : ((rows.filter (bridge rows)).map (·.1)).isEmpty = (rows.filter (bridge rows)).isEmpty := by simp
        rw [y, z] at c
        cases c
      | false => rw [Bool.and_false]
    case g2 =>
      have lt := of_decide_eq_true c2
      unfold canB
      rw [decide_eq_false (show ¬ (partsOf m (ends rows)).length = 1 by omega), Bool.false_and]
    case bd =>
      intro cant
      refine ⟨_, rfl, _, rfl, (by show 2 ≤ 1000; decide), fun a ha => ?_⟩
      have ca := same_new (o := exo a (gA K "Parted") none) ha
      have na2 : NewL H1 (upd H2 a (exo a (gA K "Parted") none)) al az (natL (partsOf m (ends rows))) := newL_ext (fun t ys _ _ e => ca _ _ e) na
      refine ⟨a, bl, al, _, az, natL (partsOf m (ends rows)), rfl, upd_same, ca _ _ eb2, ca _ _ ea, newL_lsts na2, ?_, fun b c d' zs H3 hb hc hd ea3 ed3 eb3 ec3 nl nbc keep => ⟨rfl, d', _, ea3, ed3, ?_, ?_⟩⟩
      · rw [laz, sizeLine_eq]
        have : (partsOf m (ends rows)).length ≤ m := parts_len
        omega
      · cases z : H2 d' with
        | none => rfl
        | some o =>
          rw [ca _ _ z] at hd
          cases hd
      have fr : ∀ {x}, upd H2 a (exo a (gA K "Parted") none) x = none → H x = none := fun {x} hx => (sm.trans ca).free hx
      have nla : ∀ {x xs}, H3 x = some (.lst xs) → x ≠ a := fun {x xs} e z => by
        rw [z, ea3] at e
        exact exo_lst (Option.some.inj e)
      have nbd : b ≠ d' := fun z => by
        rw [z, ed3] at eb3
        cases eb3
      have ncd : c ≠ d' := fun z => by
        rw [z, ed3] at ec3
        cases ec3
      have haH : H a = none := sm.free ha
      refine bad cant d' b c zs _ (fr hd) (fr hb) (fr hc) nbd ncd nbc (fun x o e => ?_) upd_same (by rw [upd_ne nbd, del_ne (nla eb3)]; exact eb3) (by rw [upd_ne ncd, del_ne (nla ec3)]; exact ec3) ?_
      · have nxa := ne_of_none e haH
        rw [upd_ne (ne_of_none e (fr hd)), del_ne nxa]
        exact keep x o nxa (ca _ _ (sm _ _ e))
      · have z : NewL H H3 c zs (natL (partsOf m (ends rows))) := newL_free (sm.trans ca) nl
        exact newL_ext (fun t ys _ hz e => by
          rw [upd_ne (fun y => by rw [y, ed3] at e; cases e), del_ne (nla e)]
          exact e) z
    case good =>
      have hempty : (rows.filter (bridge rows)).isEmpty = true := by
        have y : ((rows.filter (bridge rows)).map (·.1)).isEmpty = (rows.filter (bridge rows)).isEmpty := by simp
        rw [y] at c
        cases z : (rows.filter (bridge rows)).isEmpty with
        | true => rfl
        | false =>
          rw [z] at c
          cases c
      have can : canB m rows = true := by
        have ge : 1 ≤ (partsOf m (ends rows)).length := (List.getElem?_eq_some_iff.mp (heads_zero (ps := ends rows) m1)).1
        have nlt := of_decide_eq_false c2
        unfold canB
        rw [hempty, decide_eq_true (show (partsOf m (ends rows)).length = 1 by omega)]
        rfl
      obtain ⟨T1, T2, T3, _⟩ := can_told u inm m1 m16 can
      have MF := fun {x : TRow} => mem_fW (x := x) u inm m1 m16 can
      have lT : (handlesF m rows).flatten.length ≤ 60 := by
        have z := sub_len T2 (ys := rows.map (·.1)) fun x hx => by
          obtain ⟨st, hst, e⟩ := List.mem_map.mp hx
          rw [← e]
          rcases mem_both.mp (T1 st hst) with y | y
          · exact List.mem_map.mpr ⟨st, y, rfl⟩
          · exact List.mem_map.mpr ⟨_, y, rfl⟩
        rw [List.length_map, List.length_map] at z
        have := W.ok.few
        omega
      refine at_next ?_
      dsimp only
      refine at_ret (at_cb (at_cons ?_))
      refine lc2_rows (K := K) (RR := handlesF m rows) (fun Rr hR => ?_) (by omega) (fun _ => rfl) (fun _ => rfl) (fun _ _ => rfl) (fun _ _ => rfl) (fun D0 H4 hD0 sm4 tD => ?_)
      · refine ⟨_, rfl, p, d, m, rows, n, rfl, W2, fun hl hz H3 hhl sm3 eh nh => ?_⟩
        have z : ∀ {vs : List V} {rss : List (List TRow)}, NewT H2 H3 hl vs rss → TLs H3 vs rss := fun {vs rss} q => by
          induction q with
          | nil => exact .nil
          | cons a _ ih =>
            obtain ⟨t, e, _, _, h⟩ := a
            exact .cons ⟨t, e, h⟩ ih
        exact ⟨hl, rfl, ⟨hz, SqL.of eh⟩, hR hl hz H3 sm3 eh (z nh)⟩
      obtain ⟨vs, ev, tv⟩ := tD
      have row3 : ∀ st ∈ (handlesF m rows).flatten, st.1 < NB ∧ st.2.1 < NB ∧ st.2.2 < NB := fun st hst => by
        have key : ∀ r ∈ rows, r.1 < n ∧ r.2.1 < m ∧ r.2.2 < m := fun r hr => ⟨W.ok.below r hr, (W.ok.ends r hr).1, (W.ok.ends r hr).2.1⟩
        rcases mem_both.mp (T1 st hst) with y | y
        · have := key st y
          omega
        · have := key _ y
          have e1 : (flipR st).1 = st.1 := rfl
          have e2 : (flipR st).2.1 = st.2.2 := rfl
          have e3 : (flipR st).2.2 = st.2.1 := rfl
          rw [e1, e2, e3] at this
          omega
      have numsOf : ∀ r : TRow, rowV r = [(r.1 : Int), (r.2.1 : Int), (r.2.2 : Int)].map V.int := fun r => rfl
      have bd3 : ∀ st : TRow, st.1 < NB → st.2.1 < NB → st.2.2 < NB → TS.Bd (NB : Int) [(st.1 : Int), (st.2.1 : Int), (st.2.2 : Int)] := fun st a b c x hx => by
        simp only [List.mem_cons, List.not_mem_nil, or_false] at hx
        omega
      refine ⟨D0, vs, rfl, SqL.of ev, ?_, fun x hx => ?_, fun ys r perm pw hr0 => ?_⟩
      · rw [tups_len tv, List.length_map]
        omega
      · obtain ⟨i, hi⟩ := List.getElem?_of_mem hx
        obtain ⟨t, xs, rfl, e2, e3⟩ := tups_get tv hi
        rw [List.getElem?_map] at e2
        cases hq : (handlesF m rows).flatten[i]? with
        | none =>
          rw [hq] at e2
          cases e2
        | some st =>
          rw [hq] at e2
          cases e2
          have b := row3 st (List.mem_of_getElem? hq)
          exact ⟨[(st.1 : Int), (st.2.1 : Int), (st.2.2 : Int)], ⟨t, rfl, SqT.of e3⟩, rfl, bd3 st b.1 b.2.1 b.2.2⟩
      · obtain ⟨T', pT, tT⟩ := perm_tups perm tv
        have memT : ∀ x, x ∈ T' ↔ x ∈ (handlesF m rows).flatten := fun x => pT.mem_iff
        have ndT : (T'.map (·.1)).Nodup := (pT.map (·.1)).nodup_iff.mpr T2
        have up0 : T'.Pairwise fun a b => ¬ b.1 < a.1 := by
          have z : T'.Pairwise fun a b => (a ∈ T' ∧ b ∈ T') → ¬ b.1 < a.1 := tups_pw (H := H4) (S := fun a b => (a ∈ T' ∧ b ∈ T') → ¬ b.1 < a.1) (fun x y r q ⟨t1, e1, f1⟩ ⟨t2, e2, f2⟩ hxy ⟨i1, i2⟩ lt => by
            have b1 := row3 r ((memT r).mp i1)
            have b2 := row3 q ((memT q).mp i2)
            have le := hxy [(r.1 : Int), (r.2.1 : Int), (r.2.2 : Int)] [(q.1 : Int), (q.2.1 : Int), (q.2.2 : Int)] ⟨t1, e1, SqT.of f1⟩ ⟨t2, e2, SqT.of f2⟩
            have B1 := bd3 r b1.1 b1.2.1 b1.2.2
            have B2 := bd3 q b2.1 b2.2.1 b2.2.2
            have l := TS.code_lt (r := [(q.2.1 : Int), (q.2.2 : Int)]) (q := [(r.2.1 : Int), (r.2.2 : Int)]) rfl B2.tail B1.tail (d := (q.1 : Int)) (e := (r.1 : Int)) (by omega)
            omega) pw tT
          exact List.Pairwise.imp_of_mem (fun {a b} ha hb h => h ⟨ha, hb⟩) z
        have up : T'.Pairwise fun a b => a.1 < b.1 := by
          have nd2 : T'.Pairwise fun a b => a.1 ≠ b.1 := List.pairwise_map.mp ndT
          exact (up0.and nd2).imp fun {a b} h => by
            have := h.1
            have := h.2
            omega
        have eqT : T' = fW m rows := rise_uniq up (fW_rise W.ok.rise) fun x => (memT x).trans MF.symm
        rw [eqT] at tT
        have c9 := same_new (o := .lst ys) hr0
        exact good can r _ ((sm.trans sm4).free hr0) ((sm.trans sm4).trans c9) ⟨ys, upd_same, tups_ext (fun t xs e => c9 _ _ e) tT⟩
end
end K02

set_option Elab.async false
set_option linter.all false
set_option maxRecDepth 100000
set_option maxHeartbeats 4000000
namespace K02
open PySem PySem.Spec PyProof.Rows L2 Own
/-! ### the pieces that want streets, by the law -/
theorem not_gone2 {m : Nat} {rows : List TRow} {i : Nat} {r : TRow} (rise : rows.Pairwise fun a b => a.1 < b.1) (inm : ∀ q ∈ ends rows, q.1 < m ∧ q.2 < m) (hr : rows[i]? = some r) : decide (i ∈ goneOf m (ends rows) rows.length) = bridge rows r := by
  have hi : i < rows.length := (List.getElem?_eq_some_iff.mp hr).1
  have e := gone_key rise inm hr
  rw [← e]
  cases z : decide ((partsOf m (ends rows)).length < (partsOf m ((ends rows).eraseIdx i)).length) with
  | true => exact decide_eq_true ((gone_mem hi).mpr z)
  | false =>
    refine decide_eq_false fun y => ?_
    rw [(gone_mem hi).mp y] at z
    cases z
theorem gone_rows {m : Nat} {rows : List TRow} (rise : rows.Pairwise fun a b => a.1 < b.1) (inm : ∀ q ∈ ends rows, q.1 < m ∧ q.2 < m) : ∀ n, n ≤ rows.length → (goneOf m (ends rows) n).map (fun k => rows[k]?) = ((rows.take n).filter (bridge rows)).map some
  | 0, _ => by
    unfold goneOf
    simp
  | n + 1, h => by
    have ih := gone_rows rise inm n (by omega)
    obtain ⟨r, hr⟩ : ∃ r, rows[n]? = some r := ⟨_, List.getElem?_eq_getElem (by omega)⟩
    have step : goneOf m (ends rows) (n + 1) = goneOf m (ends rows) n ++ (if decide ((partsOf m (ends rows)).length < (partsOf m ((ends rows).eraseIdx n)).length) = true then [n] else []) := by
      unfold goneOf
      rw [List.range_succ, List.filter_append, List.filter_cons]
      rfl
    rw [step, gone_key rise inm hr, take_snoc hr, List.map_append, List.filter_append, List.map_append, ih, List.filter_cons]
    cases hb : bridge rows r with
    | true =>
      rw [if_pos rfl, if_pos rfl]
      simp [hr]
    | false =>
      rw [if_neg Bool.false_ne_true, if_neg Bool.false_ne_true]
      simp
/-- as many of those that part touch a piece, counted by their places in the list -/
theorem gone_out {m : Nat} {rows : List TRow} (rise : rows.Pairwise fun a b => a.1 < b.1) (inm : ∀ q ∈ ends rows, q.1 < m ∧ q.2 < m) (h : Nat) : ((goneOf m (ends rows) rows.length).filter fun k => ((rows[k]?).map (outB (cls m (ends (solid rows)) h))).getD false).length = (leadO m rows h).length := by
  have e := gone_rows rise inm rows.length (Nat.le_refl _)
  rw [List.take_length] at e
  have f : ((goneOf m (ends rows) rows.length).filter fun k => ((rows[k]?).map (outB (cls m (ends (solid rows)) h))).getD false).length = (((goneOf m (ends rows) rows.length).map fun k => rows[k]?).filter fun x => (x.map (outB (cls m (ends (solid rows)) h))).getD false).length := by
    rw [List.filter_map, List.length_map]
    rfl
  rw [f, e, List.filter_map, List.length_map]
  unfold leadO outB
  congr 1
  exact List.filter_congr fun r _ => by
    show (decide (r.2.1 ∈ cls m (ends (solid rows)) h) || decide (r.2.2 ∈ cls m (ends (solid rows)) h)) = _
    rw [Bool.decide_or]
/-- one piece: nothing parts, and all is come to -/
theorem one_solid {m : Nat} {rows : List TRow} (rise : rows.Pairwise fun a b => a.1 < b.1) (inm : ∀ q ∈ ends rows, q.1 < m ∧ q.2 < m) (h : (heads m (ends (solid rows))).length < 2) : ∀ r ∈ rows, bridge rows r = false := fun r hr => by
  cases z : bridge rows r with
  | false => rfl
  | true =>
    exfalso
    refine bridge_true.mp z ?_
    have b12 := inm r.2 (List.mem_map.mpr ⟨r, hr, rfl⟩)
    obtain ⟨x, x1, x2, x3⟩ := least_of (ends (solid rows)) r.2.1
    obtain ⟨y, y1, y2, y3⟩ := least_of (ends (solid rows)) r.2.2
    have hx : x ∈ heads m (ends (solid rows)) := mem_heads.mpr ⟨by omega, x3⟩
    have hy : y ∈ heads m (ends (solid rows)) := mem_heads.mpr ⟨by omega, y3⟩
    have e : x = y := by
      match e : heads m (ends (solid rows)), h, hx, hy with
      | [a], _, hx, hy => rw [List.mem_singleton.mp hx, List.mem_singleton.mp hy]
    subst e
    refine (x2.symm.trans y2).mono fun q hq => ?_
    obtain ⟨s, hs, rfl⟩ := List.mem_map.mp hq
    obtain ⟨s1, s2⟩ := solid_in.mp hs
    refine List.mem_map.mpr ⟨s, List.mem_filter.mpr ⟨s1, decide_eq_true fun e => ?_⟩, rfl⟩
    have := rise_one rise s s1 r hr e
    rw [this, z] at s2
    cases s2
theorem one_can {m : Nat} {rows : List TRow} (rise : rows.Pairwise fun a b => a.1 < b.1) (inm : ∀ q ∈ ends rows, q.1 < m ∧ q.2 < m) (m1 : 1 ≤ m) (h : (heads m (ends (solid rows))).length < 2) : canB m rows = true := by
  have nb := one_solid rise inm h
  have sol : solid rows = rows := List.filter_eq_self.mpr fun r hr => by rw [nb r hr]; rfl
  rw [sol] at h
  have h0 : 0 ∈ heads m (ends rows) := mem_heads.mpr ⟨by omega, fun q hq => absurd hq (Nat.not_lt_zero q)⟩
  have pos := List.length_pos_of_mem h0
  unfold canB partsOf
  rw [List.length_map, decide_eq_true (show (heads m (ends rows)).length = 1 by omega), Bool.true_and, List.isEmpty_iff]
  exact List.filter_eq_nil_iff.mpr fun r hr z => by
    rw [nb r hr] at z
    cases z
theorem can_one {m : Nat} {rows : List TRow} (rise : rows.Pairwise fun a b => a.1 < b.1) (inm : ∀ q ∈ ends rows, q.1 < m ∧ q.2 < m) (m1 : 1 ≤ m) (can : canB m rows = true) : (heads m (ends (solid rows))).length < 2 := by
  obtain ⟨sol, hd, _⟩ := can_facts (rise_one rise) inm m1 can
  rw [sol, hd]
  decide
/-- the one row (all places, 2): there is but one piece -/
theorem due_one {m : Nat} {rows : List TRow} (rise : rows.Pairwise fun a b => a.1 < b.1) (inm : ∀ q ∈ ends rows, q.1 < m ∧ q.2 < m) (m1 : 1 ≤ m) {L : List (List Nat × Nat)} (hL : ((heads m (ends (solid rows))).filter fun h => decide ((leadO m rows h).length < 2)).map (fun h => (cls m (ends (solid rows)) h, 2 - (leadO m rows h).length)) = L) :
    L = [(List.range m, 2)] ↔ (heads m (ends (solid rows))).length < 2 := by
  constructor
  · intro e
    rw [e] at hL
    have mem : (List.range m, 2) ∈ ((heads m (ends (solid rows))).filter fun h => decide ((leadO m rows h).length < 2)).map (fun h => (cls m (ends (solid rows)) h, 2 - (leadO m rows h).length)) := by rw [hL]; exact List.mem_singleton.mpr rfl
    obtain ⟨h, hh, eh⟩ := List.mem_map.mp mem
    have eh := (Prod.mk.inj eh).1
    have hin := (List.mem_filter.mp hh).1
    have z := nd_le (ys := [h]) ((heads_up (m := m) (ps := ends (solid rows))).imp fun {a b} ab => Nat.ne_of_lt ab) fun x hx => by
      have xm := (mem_heads.mp hx).1
      have : x ∈ cls m (ends (solid rows)) h := by rw [eh]; exact List.mem_range.mpr xm
      exact List.mem_singleton.mpr (least_uniq (mem_heads.mp hx).2 (mem_heads.mp hin).2 (mem_cls.mp this).2.symm)
    have : [h].length = 1 := rfl
    omega
  · intro h
    have can := one_can rise inm m1 h
    obtain ⟨sol, hd, all, _⟩ := can_facts (rise_one rise) inm m1 can
    have nb := one_solid rise inm h
    have lead : leadO m rows 0 = [] := by
      unfold leadO
      have e : rows.filter (bridge rows) = [] := List.filter_eq_nil_iff.mpr fun r hr z => by
        rw [nb r hr] at z
        cases z
      rw [e]
      rfl
    have c0 : cls m (ends rows) 0 = List.range m := List.filter_eq_self.mpr fun q hq => by
      exact (@decide_eq_true_iff _ (Classical.propDecidable _)).mpr (mem_cls.mp (all q (List.mem_range.mp hq))).2
    rw [← hL, sol, hd, List.filter_cons, if_pos (by rw [lead]; decide), List.filter_nil, List.map_cons, lead, c0]
    rfl
/-! ### such rows, as data -/
def dueD (xs : List (List Nat × Nat)) : PyData := .list (xs.map fun x => .tuple [natD x.1, .int (x.2 : Int)])
theorem dp_newE {K : PySem.W.Frag} {H H' : Hp} {r : Addr} : ∀ {vs : List V} {xs : List (List Nat × Nat)}, NewE H H' r vs xs → DpAll K H' vs (xs.map fun x => .tuple [natD x.1, .int (x.2 : Int)])
  | _, _, .nil => .nil
  | _, _, .cons ⟨q, t, e, _, hq, _, _, ht⟩ b => by
    subst e
    exact .cons (.tup (SqT.of hq) (.cons (dp_nat ht) (.cons (.int _) .nil))) (dp_newE b)
theorem dp_due {K : PySem.W.Frag} {H H' : Hp} {r q : Addr} {zs : List V} {xs : List (List Nat × Nat)} (e : H' q = some (.lst zs)) (h : NewE H H' r zs xs) : Dp K H' (.ref q) (dueD xs) := .lst (SqL.of e) (dp_newE h)
theorem lay_due (xs : List (List Nat × Nat)) : Lay 3 (dueD xs) := lay_list fun d hd => by
  obtain ⟨x, _, rfl⟩ := List.mem_map.mp hd
  refine lay_tup fun e he => ?_
  simp only [List.mem_cons, List.not_mem_nil, or_false] at he
  rcases he with h | h <;> rw [h]
  · exact lay_nat x.1
  · exact lay_up (lay_int _) (by decide)
theorem eqv_int (a b : Nat) : PyData.eqv (.int (a : Int)) (.int (b : Int)) = decide (a = b) := by
  have : PyData.eqv (.int (a : Int)) (.int (b : Int)) = ((a : Int) == (b : Int)) := by simp [PyData.eqv]
  rw [this]
  by_cases e : a = b
  · subst e
    simp
  · rw [decide_eq_false e, beq_eq_false_iff_ne]
    exact fun z => e (Int.ofNat.inj z)
theorem eqv_nats : ∀ xs ys : List Nat, PyData.eqv (natD xs) (natD ys) = decide (xs = ys)
  | [], [] => rfl
  | [], _ :: _ => rfl
  | _ :: _, [] => rfl
  | x :: xs, y :: ys => by
    have ih := eqv_nats xs ys
    have e : PyData.eqv (natD (x :: xs)) (natD (y :: ys)) = (PyData.eqv (.int (x : Int)) (.int (y : Int)) && PyData.eqv (natD xs) (natD ys)) := by
      simp [natD, PyData.eqv, PyData.eqvAll]
    rw [e, ih, eqv_int]
    by_cases a : x = y <;> by_cases b : xs = ys <;> simp [a, b]
theorem eqv_dues : ∀ xs ys : List (List Nat × Nat), PyData.eqv (dueD xs) (dueD ys) = decide (xs = ys)
  | [], [] => rfl
  | [], _ :: _ => rfl
  | _ :: _, [] => rfl
  | (x1, x2) :: xs, (y1, y2) :: ys => by
    have ih := eqv_dues xs ys
    have e : PyData.eqv (dueD ((x1, x2) :: xs)) (dueD ((y1, y2) :: ys)) = ((PyData.eqv (natD x1) (natD y1) && PyData.eqv (.int (x2 : Int)) (.int (y2 : Int))) && PyData.eqv (dueD xs) (dueD ys)) := by
      simp [dueD, PyData.eqv, PyData.eqvAll]
    rw [e, ih, eqv_nats, eqv_int]
    by_cases a : x1 = y1 <;> by_cases b : x2 = y2 <;> by_cases c : xs = ys <;> simp [a, b, c]
def spWants : Sp := fun vs H Q _ => ∃ (m : Nat) (l : Addr) (rows : List TRow), vs = [.int (m : Int), .ref l] ∧ TL H l ((ends rows).map pairV) ∧ (∀ q ∈ ends rows, q.1 < m ∧ q.2 < m) ∧ 1 ≤ m ∧ m ≤ 16 ∧ rows.length ≤ 60 ∧ (rows.Pairwise fun a b => a.1 < b.1) ∧
  ∀ (r : Addr) (zs : List V) (H' : Hp), H r = none → Same H H' → H' r = some (.lst zs) → NewE H H' r zs (dueF m rows) → Q (.ref r) H'
abbrev s_law_wants : Stmt := top 48
abbrev N_law_wants : List Str := ["_law_many_here", "_law_pairs_here", "_law_gone_here", "_law_left", "_law_found", "_law_piece", "_law_out", "_law_k", "_law_pair"]
theorem sc_law_wants : FnScope N_law_wants ["_law_many_here", "_law_pairs_here"] (defScope s_law_wants) := ⟨rfl, rfl, rfl, by decide +kernel, rfl, by decide +kernel, by decide +kernel⟩
section
variable {P : Program} {w : World} {K : PySem.W.Frag} {mg : Str → Option Value} {base : Heap} {f : Addr} {fd : FuncData}
theorem ok_wants (T : TxtM mg) (D : FnP K "_law_wants" "_law_wants" s_law_wants f fd) (c_law_gone : CalX P w K mg base 2 "_law_gone" spGone) (c_law_parts : CalX P w K mg base 1 "_law_parts" spLawParts) :
    FnOk P w K mg base (L2.CX P w) 3 f fd ["_law_many_here", "_law_pairs_here"] spWants := by
  have nd := sc_law_wants.nd
  refine D.ok sc_law_wants (fun vs H Q E h => ?_) (fun cdv A outer s H vs Q E hr h => ?_)
  · obtain ⟨m, l, rows, rfl, _⟩ := h
    rfl
  · obtain ⟨m, l, rows, rfl, tl, inm, m1, m16, few, rise, k⟩ := h
    obtain ⟨f_law_gone, fd_law_gone, ps_law_gone, F_law_gone, m_law_gone, k_law_gone, b_law_gone⟩ := c_law_gone.ex
    obtain ⟨f_law_parts, fd_law_parts, ps_law_parts, F_law_parts, m_law_parts, k_law_parts, b_law_parts⟩ := c_law_parts.ex
    refine ⟨_, (pss_cons (ps_set (i := 2) nd rfl (Or.inr rfl) (pe_call F_law_gone (hr.mono (by decide)) rfl m_law_gone k_law_gone b_law_gone .nil passF (pa_cons (pv 0) (pa_cons (pv 1) pa_nil))))
      (pss_cons (ps_setLc (own := [("_law_k", 7), ("_law_pair", 8)]) (g := (gTup K 2 (gCons (gName 7) (gCons (gName 8) gNil)))) (tt := tTest (tOp (rIn K true) (tVar 7) (tVar 2))) (i := 3) rfl nd rfl rfl (sw_true rfl rfl rfl (by decide +kernel)) (pi_enum rfl T.f_enumerate (pa_cons (pv 1) pa_nil)) (blkOk_by (own := [("_law_k", 7), ("_law_pair", 8)]) (N := N_law_wants) (sc := defScope s_law_wants) (by decide +kernel)) (fun _ _ _ _ _ => (pg_tup rfl (pgs_cons (pg_name (i := 7) nd rfl (Or.inl rfl)) (pgs_cons (pg_name (i := 8) nd rfl (Or.inl rfl)) pgs_nil)))) (fun _ _ _ _ _ => (pts_one (pt_cmpR op_notIn_seq (pv 7) (pv 2) (by with_unfolding_all rfl)))) (fun _ _ _ _ _ => (pv 8)))
      (pss_cons (ps_set (i := 4) nd rfl (Or.inl rfl) (pe_lst pa_nil))
      (pss_cons (ps_for (passes_of rfl) rfl (pi_list (pe_call F_law_parts (hr.mono (by decide)) rfl m_law_parts k_law_parts b_law_parts .nil passF (pa_cons (pv 0) (pa_cons (pv 3) pa_nil)))) (pg_name (i := 5) nd rfl (Or.inr rfl)) (pss_cons (ps_set (i := 6) nd rfl (Or.inl rfl) (pe_callB call_len_seq rfl T.f_len PySem.boot_len (pa_cons (pe_lc (own := [("_law_k", 7)]) (g := (gName 7)) (tt := tOr (tTest (tOp (rIn K false) (tOp (rIxT K) (tOp (rIxL K) (tVar 1) (tVar 7)) (tC (.int 0))) (tVar 5))) (tTest (tOp (rIn K false) (tOp (rIxT K) (tOp (rIxL K) (tVar 1) (tVar 7)) (tC (.int 1))) (tVar 5)))) rfl nd (pi_list (pv 2)) (blkOk_by (own := [("_law_k", 7)]) (N := N_law_wants) (sc := defScope s_law_wants) (by decide +kernel)) (fun _ _ _ _ _ => (pg_name (i := 7) nd rfl (Or.inl rfl))) (fun _ _ _ _ _ => (pts_one (PW.pt (pw_or (pt_cmpR op_in_seq (pe_ix ix_tup (pe_ix ix_list (pv 1) (pv 7) (fun _ _ => rfl)) pe_int (fun _ _ => rfl)) (pv 5) (by with_unfolding_all rfl)) (pw_or1 (pt_cmpR op_in_seq (pe_ix ix_tup (pe_ix ix_list (pv 1) (pv 7) (fun _ _ => rfl)) pe_int (fun _ _ => rfl)) (pv 5) (by with_unfolding_all rfl))))))) (fun _ _ _ _ _ => (pv 7))) pa_nil)))
      (pss_one (ps_if (pt_cmpR op_lt (pv 6) pe_int (nomark _)) (pss_one (ps_expr (pe_bm PySem.F.plainAttrs_list PySem.F.slot_list_append PySem.F.type_list_append mt_append (pv 4) (pa_cons (pe_tup (pa_cons (pv 5) (pa_cons (pe_op op_sub pe_int (pv 6)) pa_nil))) pa_nil)))) pss_nil))))
      (pss_one (ps_ret (pe_ifExp (pt_cmpR (op_eqD hr.units) (pv 4) (pe_lst (pa_cons (pe_tup (pa_cons (pe_listRg rfl rfl T.f_list (prg_1 rfl T.f_range (pv 0))) (pa_cons pe_int pa_nil))) pa_nil)) (nomark _)) (pe_lst pa_nil) (pv 4)))))))), ?_⟩
    have lenE : (ends rows).length = rows.length := List.length_map ..
    refine ⟨_, rfl, _, rfl, m, l, ends rows, rfl, tl, inm, m16, by omega, fun gn H1 hgn sm1 eG => ?_⟩
    rw [lenE] at eG
    dsimp only [gName]
    refine nice (σ' := [some (.int (m : Int)), some (.ref l), some (.ref gn), none, none, none, none, none, none]) rfl ?_
    have tl1 := tl_same tl sm1
    obtain ⟨vs, el, tv⟩ := id tl1
    have lvs : vs.length = rows.length := by rw [tups_len tv, List.length_map, lenE]
    refine at_seq (at_asg ?_)
    refine ⟨_, rfl, l, vs, rfl, SqL.of el, fun lf hlf => ?_⟩
    refine lc_it walk_enum (fun i H' => ∃ zs, H' lf = some (.lst zs) ∧ Tups H' zs ((ends ((rows.take i).filter fun r => !bridge rows r)).map pairV) ∧ Same H1 H') ⟨[], upd_same, .nil, same_new hlf⟩ (fun _ _ _ ⟨_, _, _, z⟩ => SqL.of (z _ _ el)) ?_ ?_
    · rintro i x H6 H7 hi ⟨zs, e1, e2, sm⟩ ⟨t, ka, za, rfl, ht, rfl, hk, hz⟩
      cases hk
      obtain ⟨tr, xs, rfl, hxs, htr⟩ := tups_get tv hz
      obtain ⟨r, hr0⟩ : ∃ r, rows[i]? = some r := ⟨_, List.getElem?_eq_getElem (by omega)⟩
      rw [List.getElem?_map, show (ends rows)[i]? = some r.2 by unfold ends; rw [List.getElem?_map, hr0]; rfl] at hxs
      cases hxs
      have ct := same_new (o := .tup [.int (i : Int), .ref tr]) ht
      have et := upd_same (H := H6) (a := t) (o := .tup [.int (i : Int), .ref tr])
      have e1' := ct _ _ e1
      have e2' := tups_ext (fun t xs e => ct _ _ e) e2
      have sm' := sm.trans ct
      have htr8 := sm' _ _ htr
      have lz : zs.length ≤ i := by
        rw [tups_len e2, List.length_map]
        unfold ends
        rw [List.length_map]
        exact Nat.le_trans (List.length_filter_le _ _) (by rw [List.length_take]; omega)
      generalize upd H6 t (.tup [.int (i : Int), .ref tr]) = H8 at *
      refine ⟨t, _, rfl, SqT.of et, rfl, _, _, rfl, _, _, rfl, rfl, rfl, ?_⟩
      refine ⟨_, rfl, _, rfl, gn, _, rfl, .inl (SqL.of (sm' _ _ eG)), rfl, flat_nat _, _, rfl, ?_⟩
      have iv : inV (.int (i : Int)) ((goneOf m (ends rows) rows.length).map natV) = bridge rows r := by
        have z : inV (.int (i : Int)) ((goneOf m (ends rows) rows.length).map natV) = decide (i ∈ goneOf m (ends rows) rows.length) := inV_nat _ _
        rw [z]
        exact not_gone2 rise inm hr0
      rw [iv, if_pos rfl, take_snoc hr0, List.filter_append]
      unfold ends
      rw [List.map_append, List.map_append]
      cases hb : bridge rows r with
      | true =>
        refine ⟨zs, e1', ?_, sm'⟩
        rw [List.filter_cons, if_neg (by rw [hb]; exact Bool.false_ne_true)]
        show Tups _ _ (_ ++ [])
        rw [List.append_nil]
        exact e2'
      | false =>
        refine ⟨_, rfl, zs, e1', by rw [sizeLine_eq]; omega, zs ++ [V.ref tr], upd_same, ?_, same_over hlf sm'⟩
        rw [List.filter_cons, if_pos (by rw [hb]; rfl)]
        refine tups_snoc ?_ (tups_over e1' e2')
        rw [upd_ne (ne_of htr8 e1' (by intro z; cases z))]
        exact htr8
    rintro H2 ⟨zs, e1, e2, sm2⟩
    rw [lvs, List.take_length] at e2
    have tlS : TL H2 lf ((ends (solid rows)).map pairV) := ⟨zs, e1, e2⟩
    have tl2 := tl_same tl1 sm2
    have eG2 := sm2 _ _ eG
    have hlfH : H lf = none := sm1.free hlf
    clear e1 e2 tl1 el tv eG
    dsimp only [gName]
    refine nice (σ' := [some (.int (m : Int)), some (.ref l), some (.ref gn), some (.ref lf), none, none, none, none, none]) rfl ?_
    refine at_seq (at_asg ?_)
    refine ⟨(by show 0 ≤ sizeLine; decide), fun wa hwa => ?_⟩
    have hwaH : H wa = none := sm1.free (sm2.free hwa)
    dsimp only [gName]
    refine nice (σ' := [some (.int (m : Int)), some (.ref l), some (.ref gn), some (.ref lf), some (.ref wa), none, none, none, none]) rfl ?_
    have inS : ∀ q ∈ ends (solid rows), q.1 < m ∧ q.2 < m := fun q hq => by
      obtain ⟨x, hx, e⟩ := List.mem_map.mp hq
      exact inm q (List.mem_map.mpr ⟨x, (solid_in.mp hx).1, e⟩)
    have fewS : (ends (solid rows)).length ≤ 60 := by
      unfold ends
      rw [List.length_map]
      exact Nat.le_trans (List.length_filter_le _ _) few
    have cw := same_new (o := .lst []) hwa
    have ewa := upd_same (H := H2) (a := wa) (o := .lst [])
    have tl3 := tl_same tl2 cw
    have eG3 := cw _ _ eG2
    have nlw : l ≠ wa := fun z => by
      obtain ⟨_, e, _⟩ := tl2
      rw [z, hwa] at e
      cases e
    have ngw : gn ≠ wa := fun z => by
      rw [z, hwa] at eG2
      cases eG2
    have tlS3 := tl_same tlS cw
    have smW := (sm1.trans sm2).trans cw
    generalize upd H2 wa (.lst []) = H3 at *
    refine at_seq ?_
    refine ⟨_, rfl, _, rfl, m, lf, ends (solid rows), rfl, tlS3, inS, m16, fewS, fun pr pz H4 hpr sm4 ep np => ?_⟩
    have npw : pr ≠ wa := fun z => by
      rw [z, ewa] at hpr
      cases hpr
    have ewa4 := sm4 _ _ ewa
    have eG4 := sm4 _ _ eG3
    have tl4 := tl_same tl3 sm4
    have lpz : pz.length = (heads m (ends (solid rows))).length := by
      have := Paired.length np
      unfold natL partsOf at this
      rw [List.length_map, List.length_map] at this
      exact this
    have h16 : (heads m (ends (solid rows))).length ≤ 16 := Nat.le_trans heads_len m16
    refine ⟨pr, rfl, ⟨pz, SqL.of ep⟩, for_it walk_list (fun i σ' H' => ∃ (zs : List V) (u5 u6 : Option V), σ' = [some (.int (m : Int)), some (.ref l), some (.ref gn), some (.ref lf), some (.ref wa), u5, u6, none, none] ∧ H' wa = some (.lst zs) ∧ NewE H H' wa zs ((((heads m (ends (solid rows))).take i).filter fun h => decide ((leadO m rows h).length < 2)).map fun h => (cls m (ends (solid rows)) h, 2 - (leadO m rows h).length)) ∧ ∀ x o, x ≠ wa → H4 x = some o → H' x = some o) ⟨[], none, none, rfl, ewa4, .nil, fun x o _ e => e⟩ (fun i σ' H' _ ⟨_, _, _, _, _, _, z⟩ => SqL.of (z _ _ npw ep)) ?_ ?_⟩
    · rintro i x σ H5 H6 hi ⟨zs, u5, u6, rfl, e6, ne, kx⟩ ⟨rfl, hx⟩
      obtain ⟨t, ys, rfl, hys, ht, n1, n2⟩ := newL_get np hx
      obtain ⟨h, hh⟩ : ∃ h, (heads m (ends (solid rows)))[i]? = some h := ⟨_, List.getElem?_eq_getElem (by omega)⟩
      rw [show (partsOf m (ends (solid rows)))[i]? = some (cls m (ends (solid rows)) h) by unfold partsOf; rw [List.getElem?_map, hh]; rfl] at hys
      cases hys
      have ntw : t ≠ wa := fun z => by
        rw [z, ewa] at n2
        cases n2
      have htH : H t = none := smW.free n2
      have ht6 := kx _ _ ntw ht
      have eG6 := kx _ _ ngw eG4
      obtain ⟨v4, el4, tv4⟩ := id tl4
      have el6 := kx _ _ nlw el4
      have ktup : ∀ q xs, H4 q = some (.tup xs) → H6 q = some (.tup xs) := fun q xs e => kx _ _ (ne_of e ewa4 (by intro z; cases z)) e
      have tv6 := tups_ext ktup tv4
      dsimp only [gName]
      refine nice (σ' := [some (.int (m : Int)), some (.ref l), some (.ref gn), some (.ref lf), some (.ref wa), some (.ref t), u6, none, none]) rfl ?_
      refine at_seq (at_asg (at_cb (at_cons ?_)))
      refine ⟨_, rfl, gn, rfl, ⟨_, SqL.of eG6⟩, fun D0 hD0 => ?_⟩
      refine lc_it (walk_list (K := K) (xs := (goneOf m (ends rows) rows.length).map natV)) (fun j H' => H' D0 = some (.lst ((((goneOf m (ends rows) rows.length).take j).filter fun k => ((rows[k]?).map (outB (cls m (ends (solid rows)) h))).getD false).map natV)) ∧ Same H6 H') ⟨upd_same, same_new hD0⟩ (fun _ _ _ ⟨_, z⟩ => SqL.of (z _ _ eG6)) ?_ ?_
      · rintro j x H7 H8 hj ⟨d1, smj⟩ ⟨rfl, hx⟩
        rw [List.getElem?_map] at hx
        obtain ⟨k0, hk, rfl⟩ : ∃ k0, (goneOf m (ends rows) rows.length)[j]? = some k0 ∧ natV k0 = x := by
          cases y : (goneOf m (ends rows) rows.length)[j]? with
          | none =>
            rw [y] at hx
            cases hx
          | some q =>
            rw [y] at hx
            exact ⟨q, rfl, Option.some.inj hx⟩
        have klt : k0 < rows.length := by
          have z := List.mem_of_getElem? hk
          unfold goneOf at z
          exact List.mem_range.mp (List.mem_filter.mp z).1
        obtain ⟨r, hr0⟩ : ∃ r, rows[k0]? = some r := ⟨_, List.getElem?_eq_getElem klt⟩
        obtain ⟨y, hy⟩ : ∃ y, v4[k0]? = some y := ⟨_, List.getElem?_eq_getElem (by rw [tups_len tv4, List.length_map, lenE]; exact klt)⟩
        obtain ⟨tr, xs, rfl, hxs, htr⟩ := tups_get tv6 hy
        rw [List.getElem?_map, show (ends rows)[k0]? = some r.2 by unfold ends; rw [List.getElem?_map, hr0]; rfl] at hxs
        cases hxs
        have el8 := smj _ _ el6
        have htr8 := smj _ _ htr
        have ht8 := smj _ _ ht6
        have lj : (((goneOf m (ends rows) rows.length).take j).filter fun k => ((rows[k]?).map (outB (cls m (ends (solid rows)) h))).getD false).length ≤ j := Nat.le_trans (List.length_filter_le _ _) (by rw [List.length_take]; omega)
        have jlt : j < 70 := by
          rw [List.length_map] at hj
          unfold goneOf at hj
          have := List.length_filter_le (fun k => decide ((partsOf m (ends rows)).length < (partsOf m ((ends rows).eraseIdx k)).length)) (List.range rows.length)
          rw [List.length_range] at this
          omega
        rw [take_snoc hk, List.filter_append, List.filter_cons]
        have ek : ((rows[k0]?).map (outB (cls m (ends (solid rows)) h))).getD false = (decide (r.2.1 ∈ cls m (ends (solid rows)) h) || decide (r.2.2 ∈ cls m (ends (solid rows)) h)) := by rw [hr0]; rfl
        rw [ek]
        refine ⟨rfl, _, rfl, _, rfl, l, v4, _, _, rfl, rfl, SqL.of el8, atI_nat hy, tr, _, _, _, rfl, rfl, SqT.of htr8, atI_nat (j := 0) rfl, _, rfl, t, _, rfl, .inl (SqL.of ht8), rfl, flat_nat _, _, rfl, ?_⟩
        have i1 : inV (.int (r.2.1 : Int)) ((cls m (ends (solid rows)) h).map natV) = decide (r.2.1 ∈ cls m (ends (solid rows)) h) := inV_nat _ _
        have i2 : inV (.int (r.2.2 : Int)) ((cls m (ends (solid rows)) h).map natV) = decide (r.2.2 ∈ cls m (ends (solid rows)) h) := inV_nat _ _
        rw [if_neg Bool.false_ne_true, i1]
        dsimp only
        cases e1 : decide (r.2.1 ∈ cls m (ends (solid rows)) h) with
        | true =>
          rw [if_pos rfl, if_pos rfl, Bool.true_or, if_pos rfl]
          refine ⟨_, rfl, _, d1, by rw [List.length_map, sizeLine_eq]; omega, ?_, same_over hD0 smj⟩
          rw [upd_same, List.map_append]
          rfl
        | false =>
          rw [if_neg Bool.false_ne_true, Bool.false_or]
          refine ⟨_, rfl, _, rfl, l, v4, _, _, rfl, rfl, SqL.of el8, atI_nat hy, tr, _, _, _, rfl, rfl, SqT.of htr8, atI_nat (j := 1) rfl, _, rfl, t, _, rfl, .inl (SqL.of ht8), rfl, flat_nat _, _, rfl, ?_⟩
          rw [if_neg Bool.false_ne_true, i2]
          cases e2 : decide (r.2.2 ∈ cls m (ends (solid rows)) h) with
          | true =>
            rw [if_pos rfl, if_pos rfl]
            refine ⟨_, rfl, _, d1, by rw [List.length_map, sizeLine_eq]; omega, ?_, same_over hD0 smj⟩
            rw [upd_same, List.map_append]
            rfl
          | false =>
            rw [if_neg Bool.false_ne_true, if_neg Bool.false_ne_true, List.filter_nil, List.append_nil]
            exact ⟨d1, smj⟩
      rintro H7 ⟨d1, sm7⟩
      rw [List.length_map, List.take_length] at d1
      have out := gone_out rise inm h
      refine ⟨D0, _, rfl, .inl (SqL.of d1), ?_⟩
      rw [List.length_map, out]
      dsimp only [gName]
      refine nice (σ' := [some (.int (m : Int)), some (.ref l), some (.ref gn), some (.ref lf), some (.ref wa), some (.ref t), some (.int (((leadO m rows h).length : Nat) : Int)), none, none]) rfl ?_
      have e7 := sm7 _ _ e6
      have ne7 := newE_ext (fun t o _ e => sm7 t o e) ⟨_, e6⟩ ne
      have ht7 := sm7 _ _ ht6
      have kx7 : ∀ x o, x ≠ wa → H4 x = some o → H7 x = some o := fun x o n e => sm7 _ _ (kx x o n e)
      have lz3 : zs.length ≤ i := by
        rw [Paired.length ne, List.length_map]
        exact Nat.le_trans (List.length_filter_le _ _) (by rw [List.length_take]; omega)
      refine at_ifP (fun b H' => b = decide ((leadO m rows h).length < 2) ∧ H' = H7) ?yes ?no fun M hM => ?tst
      case tst =>
        refine ⟨_, rfl, _, _, rfl, rfl, _, rfl, ?_⟩
        refine hM _ _ ⟨?_, rfl⟩
        exact decide_eq_decide.mpr ⟨fun z => by omega, fun z => by omega⟩
      case no =>
        rintro H8 ⟨hb, rfl⟩
        refine at_next ⟨zs, _, _, rfl, e7, ?_, kx7⟩
        rw [take_snoc hh, List.filter_append, List.filter_cons, if_neg (by rw [← hb]; exact Bool.false_ne_true)]
        show NewE _ _ _ _ ((_ ++ []).map _)
        rw [List.append_nil]
        exact ne7
      case yes =>
        rintro H8 ⟨hb, rfl⟩
        refine ⟨_, rfl, .inl ⟨rfl, _, SqL.of e7⟩, _, rfl, _, rfl, _, _, rfl, rfl, (by show 2 ≤ sizeLine; decide), fun q hq => ?_⟩
        have hb' := of_decide_eq_true hb.symm
        have ew : (2 : Int) - (((leadO m rows h).length : Nat) : Int) = ((2 - (leadO m rows h).length : Nat) : Int) := by omega
        have cq := same_new (o := .tup [.ref t, .int ((2 : Int) - (((leadO m rows h).length : Nat) : Int))]) hq
        have eq := upd_same (H := H8) (a := q) (o := .tup [.ref t, .int ((2 : Int) - (((leadO m rows h).length : Nat) : Int))])
        have hqH : H q = none := by
          cases z : H q with
          | none => rfl
          | some o =>
            have nq : q ≠ wa := fun y => by
              rw [y, hwaH] at z
              cases z
            rw [kx7 _ _ nq (sm4 _ _ (smW _ _ z))] at hq
            cases hq
        have nqw : q ≠ wa := fun z => by
          rw [z, e7] at hq
          cases hq
        have over : ∀ x o, x ≠ wa → upd H8 q (.tup [.ref t, .int ((2 : Int) - (((leadO m rows h).length : Nat) : Int))]) x = some o → upd (upd H8 q (.tup [.ref t, .int ((2 : Int) - (((leadO m rows h).length : Nat) : Int))])) wa (.lst (zs ++ [V.ref q])) x = some o := fun x o n e => by
          rw [upd_ne n]
          exact e
        refine ⟨wa, zs, _, rfl, rfl, cq _ _ e7, by rw [sizeLine_eq]; omega, zs ++ [V.ref q], _, _, rfl, upd_same, ?_, fun x o n e => over x o n (cq _ _ (kx7 x o n e))⟩
        rw [take_snoc hh, List.filter_append, List.filter_cons, if_pos (by rw [← hb]), List.map_append]
        refine newE_snoc (x := (cls m (ends (solid rows)) h, 2 - (leadO m rows h).length)) hqH (over _ _ nqw (by rw [eq, ew]; rfl)) ntw htH (over _ _ ntw (cq _ _ ht7)) (newE_ext over ⟨_, cq _ _ e7⟩ (newE_ext (fun t o _ e => cq t o e) ⟨_, e7⟩ ne7))
    rintro σ H6 ⟨zs, u5, u6, rfl, e6, ne6, kx6⟩
    rw [lpz, List.take_length] at ne6
    dsimp only
    refine at_ret ?_
    have k6 : ∀ x o, H3 x = some o → x ≠ wa → H6 x = some o := fun x o e n => kx6 x o n (sm4 x o e)
    have sm6 : Same H H6 := fun x o e => k6 x o (smW x o e) (ne_of_none e hwaH)
    generalize hL : ((heads m (ends (solid rows))).filter fun h => decide ((leadO m rows h).length < 2)).map (fun h => (cls m (ends (solid rows)) h, 2 - (leadO m rows h).length)) = L at ne6
    have dk : dueF m rows = if (heads m (ends (solid rows))).length < 2 then [] else L := by rw [← hL]; rfl
    have lL : L.length ≤ 16 := by
      rw [← hL, List.length_map]
      exact Nat.le_trans (List.length_filter_le _ _) h16
    have test := due_one (m := m) rise inm m1 hL
    refine ⟨_, rfl, _, rfl, (m : Int), rfl, RgOk.of_le (by omega) (by omega) (by omega) (by omega), fun q1 hq1 => ?_⟩
    have nw1 : q1 ≠ wa := fun z => by rw [z, e6] at hq1; cases hq1
    rw [rg_nat]
    have c1 := same_new (o := .lst ((List.range m).map natV)) hq1
    have x1 := upd_same (H := H6) (a := q1) (o := .lst ((List.range m).map natV))
    generalize upd H6 q1 (.lst ((List.range m).map natV)) = H7 at *
    refine ⟨(by show 2 ≤ sizeLine; decide), fun q2 hq2 => ?_⟩
    have c2 := same_new (o := .tup [V.ref q1, V.int 2]) hq2
    have x1' := c2 _ _ x1
    have x2 := upd_same (H := H7) (a := q2) (o := .tup [V.ref q1, V.int 2])
    generalize upd H7 q2 (.tup [V.ref q1, V.int 2]) = H8 at *
    refine ⟨(by show 1 ≤ sizeLine; decide), fun q3 hq3 => ?_⟩
    have c3 := same_new (o := .lst [V.ref q2]) hq3
    have x1'' := c3 _ _ x1'
    have x2' := c3 _ _ x2
    have x3 := upd_same (H := H8) (a := q3) (o := .lst [V.ref q2])
    generalize upd H8 q3 (.lst [V.ref q2]) = H9 at *
    have sm69 := (c1.trans c2).trans c3
    have e9 := sm69 _ _ e6
    have ne9 := newE_ext (fun t o _ e => sm69 t o e) ⟨_, e6⟩ ne6
    have sm9 := sm6.trans sm69
    refine ⟨dueD L, dueD [(List.range m, 2)], dp_due e9 ne9, .lst (SqL.of x3) (.cons (.tup (SqT.of x2') (.cons (dp_nat x1'') (.cons (.int 2) .nil))) .nil), (lay_due L).shaped (by decide), (lay_due _).shaped (by decide), ?_⟩
    rw [eqv_dues]
    refine ⟨_, rfl, if_both (fun c => ?_) (fun c => ?_)⟩
    · have c := test.mp (of_decide_eq_true c)
      refine ⟨(by show 0 ≤ sizeLine; decide), fun r hr9 => ?_⟩
      refine k r [] _ (sm9.free hr9) (sm9.trans (same_new hr9)) upd_same ?_
      rw [dk, if_pos c]
      exact .nil
    · have c := fun z => of_decide_eq_false c (test.mpr z)
      refine ⟨_, rfl, k wa zs _ hwaH sm9 e9 ?_⟩
      rw [dk, if_neg c]
      exact ne9
end
end K02

set_option Elab.async false
set_option linter.all false
set_option maxRecDepth 100000
set_option maxHeartbeats 4000000
namespace K02
open PySem PySem.Spec PyProof.Rows L2 Own
/-! ### the fewest, built -/
def numbF : Nat → Join → List TRow
  | _, [] => []
  | n, q :: J => (n, q.1, q.2) :: numbF (n + 1) J
theorem numb_ends : ∀ (n : Nat) (J : Join), ends (numbF n J) = J
  | _, [] => rfl
  | n, q :: J => congrArg (q :: ·) (numb_ends (n + 1) J)
theorem numb_len : ∀ (n : Nat) (J : Join), (numbF n J).length = J.length
  | _, [] => rfl
  | n, _ :: J => congrArg (· + 1) (numb_len (n + 1) J)
theorem numb_snoc (q : Nat × Nat) : ∀ (n : Nat) (J : Join), numbF n (J ++ [q]) = numbF n J ++ [(n + J.length, q.1, q.2)]
  | n, [] => rfl
  | n, x :: J => by
    show (n, x.1, x.2) :: numbF (n + 1) (J ++ [q]) = (n, x.1, x.2) :: (numbF (n + 1) J ++ [(n + (J.length + 1), q.1, q.2)])
    rw [numb_snoc q (n + 1) J, show n + 1 + J.length = n + (J.length + 1) by omega]
/-- pairs, as data -/
def pairD (q : Nat × Nat) : PyData := .tuple [.int (q.1 : Int), .int (q.2 : Int)]
theorem dp_pairs {K : PySem.W.Frag} {H : Hp} : ∀ {vs : List V} {J : Join}, Tups H vs (J.map pairV) → DpAll K H vs (J.map pairD)
  | [], [], _ => .nil
  | _ :: _, [], h => by cases h
  | [], _ :: _, h => by cases h
  | _ :: _, _ :: _, .cons ⟨t, e, h⟩ b => by
    subst e
    exact .cons (.tup (SqT.of h) (.cons (.int _) (.cons (.int _) .nil))) (dp_pairs b)
theorem lay_pairs (J : Join) : Lay 2 (.list (J.map pairD)) := lay_list fun d hd => by
  obtain ⟨x, _, rfl⟩ := List.mem_map.mp hd
  refine lay_tup fun e he => ?_
  simp only [List.mem_cons, List.not_mem_nil, or_false] at he
  rcases he with h | h <;> rw [h] <;> exact lay_int _
theorem int_sum : ∀ L : List Nat, (L.map fun n : Nat => (n : Int)).sum = ((L.sum : Nat) : Int)
  | [] => rfl
  | x :: L => by
    rw [List.map_cons, List.sum_cons, List.sum_cons, int_sum L]
    omega
theorem kit_list {K : PySem.W.Frag} : PySem.W.kitOne K (.type "list") (.type "list") = some true := by unfold PySem.W.kitOne; rw [if_pos (by decide)]
theorem kit_tuple {K : PySem.W.Frag} : PySem.W.kitOne K (.type "tuple") (.type "tuple") = some true := by unfold PySem.W.kitOne; rw [if_pos (by decide)]
/-- what is wanted, all told -/
theorem due_sum {m : Nat} {rows : List TRow} (two : 2 ≤ (heads m (ends (solid rows))).length) : ((dueF m rows).map (·.2)).sum = ((heads m (ends (solid rows))).map (wantF m rows)).sum := by
  unfold dueF
  rw [if_neg (by omega), List.map_map]
  rw [sum_filter (wantF m rows) (fun h => decide ((leadO m rows h).length < 2)) (fun x hx z => ?_)]
  · refine congrArg List.sum (List.map_congr_left fun h hh => ?_)
    show 2 - (leadO m rows h).length = wantF m rows h
    unfold wantF
    rw [if_pos ⟨two, (List.mem_filter.mp hh).1⟩]
  · have := of_decide_eq_false z
    unfold wantF
    split <;> omega
theorem few_half {m : Nat} {rows : List TRow} (rise : rows.Pairwise fun a b => a.1 < b.1) (inm : ∀ q ∈ ends rows, q.1 < m ∧ q.2 < m) : (fewestF m rows).length = (((dueF m rows).map (·.2)).sum + 1) / 2 := by
  by_cases two : 2 ≤ (heads m (ends (solid rows))).length
  · rw [due_sum two]
    exact (fewest_facts rise inm two).1
  · rw [few_none two]
    unfold dueF
    rw [if_pos (by omega)]
    rfl
theorem due_small {m : Nat} {rows : List TRow} : ∀ x ∈ dueF m rows, x.2 ≤ 2 := fun x hx => by
  unfold dueF at hx
  split at hx
  · exact absurd hx List.not_mem_nil
  · obtain ⟨h, _, rfl⟩ := List.mem_map.mp hx
    show 2 - _ ≤ 2
    omega
theorem due_len {m : Nat} {rows : List TRow} : (dueF m rows).length ≤ m := by
  unfold dueF
  split
  · exact Nat.zero_le _
  · rw [List.length_map]
    exact Nat.le_trans (List.length_filter_le _ _) heads_len
theorem due_piece {m : Nat} {rows : List TRow} : ∀ x ∈ dueF m rows, x.1.length ≤ m := fun x hx => by
  unfold dueF at hx
  split at hx
  · exact absurd hx List.not_mem_nil
  · obtain ⟨h, _, rfl⟩ := List.mem_map.mp hx
    exact cls_len
theorem sum_two : ∀ {L : List Nat}, (∀ x ∈ L, x ≤ 2) → L.sum ≤ 2 * L.length
  | [], _ => Nat.le_refl _
  | x :: L, h => by
    have a := h x (List.mem_cons_self ..)
    have b := sum_two (L := L) fun y hy => h y (List.mem_cons_of_mem _ hy)
    rw [List.sum_cons]
    show _ ≤ 2 * (L.length + 1)
    omega
theorem few_ok {m : Nat} {rows : List TRow} (rise : rows.Pairwise fun a b => a.1 < b.1) (inm : ∀ q ∈ ends rows, q.1 < m ∧ q.2 < m) : ∀ q ∈ fewestF m rows, q.1 < m ∧ q.2 < m ∧ q.1 ≠ q.2 := by
  by_cases two : 2 ≤ (heads m (ends (solid rows))).length
  · exact (fewest_facts rise inm two).2
  · rw [few_none two]
    exact fun q hq => absurd hq List.not_mem_nil
theorem few_built {m : Nat} {rows rows' : List TRow} (rise : rows.Pairwise fun a b => a.1 < b.1) (inm : ∀ q ∈ ends rows, q.1 < m ∧ q.2 < m) (m1 : 1 ≤ m) (rise' : rows'.Pairwise fun a b => a.1 < b.1) (inm' : ∀ q ∈ ends rows', q.1 < m ∧ q.2 < m) (n : Nat) (e : rows' = rows ++ numbF n (fewestF m rows)) : canB m rows' = true := by
  have ee : ends rows' = ends rows ++ fewestF m rows := by
    rw [e]
    unfold ends
    rw [List.map_append]
    exact congrArg (_ ++ ·) (numb_ends n _)
  by_cases two : 2 ≤ (heads m (ends (solid rows))).length
  · exact few_can rise inm m1 two rise' inm' ee
  · have e2 : rows' = rows := by
      rw [e, few_none two]
      exact List.append_nil _
    rw [e2]
    exact one_can rise inm m1 (by omega)
/-- where ways can be made, nothing is wanted -/
theorem can_due {m : Nat} {rows : List TRow} (rise : rows.Pairwise fun a b => a.1 < b.1) (inm : ∀ q ∈ ends rows, q.1 < m ∧ q.2 < m) (m1 : 1 ≤ m) (can : canB m rows = true) : dueF m rows = [] ∧ fewestF m rows = [] := by
  have h := can_one rise inm m1 can
  refine ⟨?_, few_none (by omega)⟩
  unfold dueF
  rw [if_pos h]
theorem can_gone {m : Nat} {rows : List TRow} (rise : rows.Pairwise fun a b => a.1 < b.1) (inm : ∀ q ∈ ends rows, q.1 < m ∧ q.2 < m) (can : canB m rows = true) : goneOf m (ends rows) (ends rows).length = [] := by
  unfold canB at can
  rw [Bool.and_eq_true] at can
  have none := List.isEmpty_iff.mp can.2
  have e := gone_rows rise inm rows.length (Nat.le_refl _)
  rw [List.take_length, none] at e
  have lenE : (ends rows).length = rows.length := List.length_map ..
  rw [lenE]
  exact List.map_eq_nil_iff.mp e
/-! ### the law: the fewest streets -/
def spLaw (K : PySem.W.Frag) (T : List (Addr × Str)) : Sp := fun vs H Q _ => ∃ (a : Addr) (ns : List Int), vs = [.ref a] ∧ SqL K H a (ns.map V.int) ∧ (∀ z ∈ ns, Fit z) ∧ ns.length ≤ 63 ∧ LamX.Tabs T H ∧ ∀ H', Q (.bl true) H'
structure Txt2 (mg : Str → Option Value) : Prop where
  f_len : mg "len" = none
  f_list : mg "list" = none
  f_sum : mg "sum" = none
  f_isinstance : mg "isinstance" = none
  f_tuple : mg "tuple" = none
abbrev s_law : Stmt := top 49
abbrev N_law : List Str := ["_law_script", "_law_seed_here", "_law_many_here", "_law_pairs_here", "_law_town", "_law_rows", "_law_due", "_law_found", "_law_piece", "_law_wants_here", "_law_more", "_law_kept", "_law_pair"]
theorem sc_law : FnScope N_law ["_law_script"] (defScope s_law) := ⟨rfl, rfl, rfl, by decide +kernel, rfl, by decide +kernel, by decide +kernel⟩
section
variable {P : Program} {w : World} {K : PySem.W.Frag} {mg : Str → Option Value} {base : Heap} {f : Addr} {fd : FuncData}
theorem ok_law {T_ : List (Addr × Str)} (T : Txt2 mg) (D : FnP K "law" "law" s_law f fd)
    (c_law_seed : CalX P w K mg base 2 "_law_seed" (spSeed K)) (c_law_many : CalX P w K mg base 2 "_law_many" spMany) (c_law_pairs : CalX P w K mg base 4 "_law_pairs" (spPairs K)) (c_law_made : CalX P w K mg base 4 "_law_made" (spMade (gA K "Town")))
    (c_law_wants : CalX P w K mg base 3 "_law_wants" spWants) (c_ends : CalX P w K mg base 5 "ends" (spEndsT (gA K "Town"))) (c_fewest : CalX P w K mg base 6 "fewest" (spFewest (gA K "Town")))
    (c_law_parts : CalX P w K mg base 1 "_law_parts" spLawParts) (c_law_gone : CalX P w K mg base 2 "_law_gone" spGone) (c_law_good : CalX P w K mg base 2 "_law_good" spGood)
    (c_one_way : CalX P w K mg base 8 "one_way" (spOneWay fW K (gA K "Town")))
    (c_Town_streets : MetX P w K mg base 1 (gA K "Town") "streets" (spStreets (gA K "Town"))) (c_Town_build : MetX P w K mg base 2 (gA K "Town") "build" (spBuild K (gA K "Town"))) : FnOk P w K mg base (L2.CX P w) 12 f fd ["_law_script"] (spLaw K T_) := by
  have nd := sc_law.nd
  refine D.ok sc_law (fun vs H Q E h => ?_) (fun cdv A outer s H vs Q E hr h => ?_)
  · obtain ⟨a, ns, rfl, _⟩ := h
    rfl
  · obtain ⟨a, ns, rfl, hS, fits, few, tabs, kend⟩ := h
    obtain ⟨f_law_seed, fd_law_seed, ps_law_seed, F_law_seed, m_law_seed, k_law_seed, b_law_seed⟩ := c_law_seed.ex
    obtain ⟨f_law_many, fd_law_many, ps_law_many, F_law_many, m_law_many, k_law_many, b_law_many⟩ := c_law_many.ex
    obtain ⟨f_law_pairs, fd_law_pairs, ps_law_pairs, F_law_pairs, m_law_pairs, k_law_pairs, b_law_pairs⟩ := c_law_pairs.ex
    obtain ⟨f_law_made, fd_law_made, ps_law_made, F_law_made, m_law_made, k_law_made, b_law_made⟩ := c_law_made.ex
    obtain ⟨f_law_wants, fd_law_wants, ps_law_wants, F_law_wants, m_law_wants, k_law_wants, b_law_wants⟩ := c_law_wants.ex
    obtain ⟨f_ends, fd_ends, ps_ends, F_ends, m_ends, k_ends, b_ends⟩ := c_ends.ex
    obtain ⟨f_fewest, fd_fewest, ps_fewest, F_fewest, m_fewest, k_fewest, b_fewest⟩ := c_fewest.ex
    obtain ⟨f_law_parts, fd_law_parts, ps_law_parts, F_law_parts, m_law_parts, k_law_parts, b_law_parts⟩ := c_law_parts.ex
    obtain ⟨f_law_gone, fd_law_gone, ps_law_gone, F_law_gone, m_law_gone, k_law_gone, b_law_gone⟩ := c_law_gone.ex
    obtain ⟨f_law_good, fd_law_good, ps_law_good, F_law_good, m_law_good, k_law_good, b_law_good⟩ := c_law_good.ex
    obtain ⟨f_one_way, fd_one_way, ps_one_way, F_one_way, m_one_way, k_one_way, b_one_way⟩ := c_one_way.ex
    obtain ⟨f_Town_streets, fd_Town_streets, ps_Town_streets, c_Town_streets, M_Town_streets, F_Town_streets, b_Town_streets⟩ := c_Town_streets.ex
    obtain ⟨f_Town_build, fd_Town_build, ps_Town_build, c_Town_build, M_Town_build, F_Town_build, b_Town_build⟩ := c_Town_build.ex
    refine ⟨_, (pss_cons (ps_set (i := 1) nd rfl (Or.inl rfl) (pe_call F_law_seed (hr.mono (by decide)) rfl m_law_seed k_law_seed b_law_seed .nil passF (pa_cons (pv 0) pa_nil)))
      (pss_cons (ps_set (i := 2) nd rfl (Or.inl rfl) (pe_call F_law_many (hr.mono (by decide)) rfl m_law_many k_law_many b_law_many .nil passF (pa_cons (pv 1) (pa_cons pe_int pa_nil))))
      (pss_cons (ps_set (i := 3) nd rfl (Or.inl rfl) (pe_call F_law_pairs (hr.mono (by decide)) rfl m_law_pairs k_law_pairs b_law_pairs .nil passF (pa_cons (pv 0) (pa_cons (pv 1) (pa_cons (pv 2) (pa_cons pe_int pa_nil))))))
      (pss_cons (ps_asg (pe_call F_law_made (hr.mono (by decide)) rfl m_law_made k_law_made b_law_made .nil passF (pa_cons (pv 2) (pa_cons (pv 3) (pa_cons (pv 1) pa_nil)))) (pg_tup rfl (pgs_cons (pg_name (i := 4) nd rfl (Or.inl rfl)) (pgs_cons (pg_name (i := 5) nd rfl (Or.inl rfl)) pgs_nil))))
      (pss_cons (ps_set (i := 6) nd rfl (Or.inl rfl) (pe_call F_law_wants (hr.mono (by decide)) rfl m_law_wants k_law_wants b_law_wants .nil passF (pa_cons (pv 2) (pa_cons (pv 3) pa_nil))))
      (pss_cons (ps_set (i := 7) nd rfl (Or.inl rfl) (pe_call F_ends (hr.mono (by decide)) rfl m_ends k_ends b_ends .nil passF (pa_cons (pv 4) pa_nil)))
      (pss_cons (ps_if (PW.pt (pw_or (pt_not (pt_val (pe_callB call_isAll rfl T.f_isinstance (by decide +kernel) (pa_cons (pv 7) (pa_cons (pe_bltn (v := .ty "list") (u := .type "list") rfl T.f_list (by decide +kernel) rfl) pa_nil))))) (pw_or1 (pt_cmpR (op_neD hr.units) (pv 7) (pv 6) (nomark _))))) (pss_one (ps_ret pe_bl)) pss_nil)
      (pss_cons (ps_for (passes_of rfl) rfl (pi_list (pv 7)) (pg_tup rfl (pgs_cons (pg_name (i := 8) nd rfl (Or.inl rfl)) (pgs_cons (pg_name (i := 9) nd rfl (Or.inl rfl)) pgs_nil))) (pss_one (ps_expr (pe_bm PySem.F.plainAttrs_list PySem.F.slot_list_append PySem.F.type_list_append mt_append (pv 8) (pa_cons pe_str pa_nil)))))
      (pss_cons (ps_expr (pe_bm PySem.F.plainAttrs_list PySem.F.slot_list_append PySem.F.type_list_append mt_append (pv 7) (pa_cons pe_str pa_nil)))
      (pss_cons (ps_set (i := 10) nd rfl (Or.inl rfl) (pe_call F_fewest (hr.mono (by decide)) rfl m_fewest k_fewest b_fewest .nil passF (pa_cons (pv 4) pa_nil)))
      (pss_cons (ps_if (PW.pt (pw_or (pt_not (pt_val (pe_callB call_isAll rfl T.f_isinstance (by decide +kernel) (pa_cons (pv 10) (pa_cons (pe_bltn (v := .ty "list") (u := .type "list") rfl T.f_list (by decide +kernel) rfl) pa_nil))))) (pw_or1 (pt_cmpR op_ne (pe_callB call_len_seq rfl T.f_len PySem.boot_len (pa_cons (pv 10) pa_nil)) (pe_op op_fdiv (pe_op op_add (pe_callB (cr_sum rfl) rfl T.f_sum (by decide +kernel) (pa_cons (pe_lc (own := [("_law_piece", 8), ("_law_wants_here", 9)]) (g := (gTup K 2 (gCons (gName 8) (gCons (gName 9) gNil)))) rfl nd (pi_list (pv 6)) (blkOk_by (own := [("_law_piece", 8), ("_law_wants_here", 9)]) (N := N_law) (sc := defScope s_law) (by decide +kernel)) (fun _ _ _ _ _ => (pg_tup rfl (pgs_cons (pg_name (i := 8) nd rfl (Or.inl rfl)) (pgs_cons (pg_name (i := 9) nd rfl (Or.inl rfl)) pgs_nil)))) (fun _ _ _ _ _ => pts_nil) (fun _ _ _ _ _ => (pv 9))) pa_nil)) pe_int) pe_int) (nomark _))))) (pss_one (ps_ret pe_bl)) pss_nil)
      (pss_cons (ps_set (i := 11) nd rfl (Or.inl rfl) (pe_callTy call_list_of rfl T.f_list (by decide +kernel) (pa_cons (pv 10) pa_nil)))
      (pss_cons (ps_expr (pe_bm PySem.F.plainAttrs_list PySem.F.slot_list_append PySem.F.type_list_append mt_append (pv 10) (pa_cons pe_str pa_nil)))
      (pss_cons (ps_if (PW.pt (pw_or (pt_cmpR (op_neD hr.units) (pe_meth0 (pv 4) c_Town_streets M_Town_streets F_Town_streets (hr.mono (by decide)) b_Town_streets .nil passF) (pv 5) (nomark _)) (pw_or (pt_cmpR (op_neD hr.units) (pe_call F_ends (hr.mono (by decide)) rfl m_ends k_ends b_ends .nil passF (pa_cons (pv 4) pa_nil)) (pv 6) (nomark _)) (pw_or1 (pt_cmpR (op_neD hr.units) (pe_call F_fewest (hr.mono (by decide)) rfl m_fewest k_fewest b_fewest .nil passF (pa_cons (pv 4) pa_nil)) (pv 11) (nomark _)))))) (pss_one (ps_ret pe_bl)) pss_nil)
      (pss_cons (ps_for (passes_of rfl) rfl (pi_list (pv 11)) (pg_name (i := 12) nd rfl (Or.inl rfl)) (pss_cons (ps_if (PW.pt (pw_or (pt_not (pt_val (pe_callB call_isAll rfl T.f_isinstance (by decide +kernel) (pa_cons (pv 12) (pa_cons (pe_bltn (v := .ty "tuple") (u := .type "tuple") rfl T.f_tuple (by decide +kernel) rfl) pa_nil))))) (pw_or (pt_cmpR op_ne (pe_callB call_len_seq rfl T.f_len PySem.boot_len (pa_cons (pv 12) pa_nil)) pe_int (nomark _)) (pw_or1 (pt_cmpR op_eq (pe_ix ix_tup (pv 12) pe_int (fun _ _ => rfl)) (pe_ix ix_tup (pv 12) pe_int (fun _ _ => rfl)) (nomark _)))))) (pss_one (ps_ret pe_bl)) pss_nil)
      (pss_one (ps_expr (pe_bm PySem.F.plainAttrs_list PySem.F.slot_list_append PySem.F.type_list_append mt_append (pv 5) (pa_cons (pe_tup (pa_cons (pe_meth (pv 4) c_Town_build M_Town_build F_Town_build (hr.mono (by decide)) b_Town_build .nil passF (pa_cons (pe_ix ix_tup (pv 12) pe_int (fun _ _ => rfl)) (pa_cons (pe_ix ix_tup (pv 12) pe_int (fun _ _ => rfl)) pa_nil))) (pa_cons (pe_ix ix_tup (pv 12) pe_int (fun _ _ => rfl)) (pa_cons (pe_ix ix_tup (pv 12) pe_int (fun _ _ => rfl)) pa_nil)))) pa_nil))))))
      (pss_cons (ps_set (i := 3) nd rfl (Or.inl rfl) (pe_op op_cat (pv 3) (pv 11)))
      (pss_cons (ps_if (PW.pt (pw_or (pt_cmpR op_gt (pe_callB call_len_seq rfl T.f_len PySem.boot_len (pa_cons (pe_call F_law_parts (hr.mono (by decide)) rfl m_law_parts k_law_parts b_law_parts .nil passF (pa_cons (pv 2) (pa_cons (pv 3) pa_nil))) pa_nil)) pe_int (nomark _)) (pw_or1 (pt_cmpR (op_neD hr.units) (pe_call F_law_gone (hr.mono (by decide)) rfl m_law_gone k_law_gone b_law_gone .nil passF (pa_cons (pv 2) (pa_cons (pv 3) pa_nil))) (pe_lst pa_nil) (nomark _))))) (pss_one (ps_ret pe_bl)) pss_nil)
      (pss_one (ps_ret (pe_and (pe_call F_law_good (hr.mono (by decide)) rfl m_law_good k_law_good b_law_good .nil passF (pa_cons (pv 2) (pa_cons (pv 5) (pa_cons (pe_call F_one_way (hr.mono (by decide)) rfl m_one_way k_one_way b_one_way .nil passF (pa_cons (pv 4) pa_nil)) pa_nil)))) (pe_and (pe_cmpR (op_eqD hr.units) (pe_call F_fewest (hr.mono (by decide)) rfl m_fewest k_fewest b_fewest .nil passF (pa_cons (pv 4) pa_nil)) (pe_lst pa_nil) (nomark _)) (pe_one (pe_cmpR (op_eqD hr.units) (pe_call F_ends (hr.mono (by decide)) rfl m_ends k_ends b_ends .nil passF (pa_cons (pv 4) pa_nil)) (pe_lst pa_nil) (nomark _)))))))))))))))))))))))), ?_⟩
    refine ⟨_, rfl, a, ns, rfl, hS, fits, fun seed H1 s0 s1 sm1 => ?_⟩
    have fseed : Fit seed := fit_range s0 (by omega)
    refine ⟨_, rfl, seed, 16, rfl, fseed, by decide, fun m H2 m1 m16 sm2 => ?_⟩
    refine ⟨_, rfl, _, rfl, _, rfl, a, ns, seed, m, 40, rfl, sm2.seq (sm1.seq hS), fits, fseed, m1, m16, few, by decide, fun pl H3 ps hpl sm3 tlp okp lenp _ => ?_⟩
    refine ⟨_, rfl, _, rfl, _, rfl, m, pl, seed, ps, rfl, m1, m16, tlp, okp, by omega, fseed, fun q p d l H4 rows n hq hp hd hl sm4 eq W tl er en _ => ?_⟩
    refine ⟨q, _, rfl, SqT.of eq, rfl, _, _, rfl, _, _, rfl, rfl, ?_⟩
    have er' : ends rows = ps := er
    subst er'
    have rise := W.ok.rise
    have inm := town_inm W
    have few60 := W.ok.few
    have lenE : (ends rows).length = rows.length := List.length_map ..
    have tlp4 := tl_same tlp sm4
    have npl : pl ≠ l := fun z => by
      obtain ⟨_, e, _⟩ := tlp
      rw [z, hl] at e
      cases e
    clear hq hp hd hl eq er en okp tlp hpl sm1 sm2 sm3 sm4 hS tabs
    -- due
    dsimp only
    refine at_seq (at_asg ?_)
    refine ⟨_, rfl, _, rfl, m, pl, rows, rfl, tlp4, inm, m1, m16, few60, rise, fun due zsD H5 hdue sm5 eD nD => ?_⟩
    have W5 := W.same sm5
    have tl5 := tl_same tl sm5
    have tlp5 := tl_same tlp4 sm5
    have dD := fun {H' : Hp} (sm : Same H5 H') => dp_due (K := K) (sm _ _ eD) (newE_ext (fun t o _ e => sm t o e) ⟨_, eD⟩ nD)
    have lyD := lay_due (dueF m rows)
    clear W tl tlp4
    dsimp only [gName]
    refine nice (σ' := [some (.ref a), some (.int seed), some (.int (m : Int)), some (.ref pl), some (.ref p), some (.ref l), some (.ref due), none, none, none, none, none, none]) rfl ?_
    refine at_seq (at_asg ?_)
    refine ⟨_, rfl, p, d, m, rows, n, rfl, W5, fun fo fz H6 hfo sm6 eF nF => ?_⟩
    dsimp only [gName]
    refine nice (σ' := [some (.ref a), some (.int seed), some (.int (m : Int)), some (.ref pl), some (.ref p), some (.ref l), some (.ref due), some (.ref fo), none, none, none, none, none]) rfl ?_
    have dF : Dp K H6 (.ref fo) (dueD (dueF m rows)) := dp_due eF nF
    refine at_seqP (fun σ' H' => σ' = [some (.ref a), some (.int seed), some (.int (m : Int)), some (.ref pl), some (.ref p), some (.ref l), some (.ref due), some (.ref fo), none, none, none, none, none] ∧ H' = H6) ?rest1 fun N hN => ?test1
    case test1 =>
      refine ⟨_, rfl, .inl ⟨.ref fo, .ty "list", .type "list", .type "list", true, rfl, .ty _, .base (.lst eF), kit_list, _, rfl, ?_⟩⟩
      refine ⟨_, rfl, _, rfl, _, _, dF, dD sm6, lyD.shaped (by decide), lyD.shaped (by decide), ?_⟩
      rw [lyD.eqv]
      exact ⟨_, rfl, hN _ _ ⟨rfl, rfl⟩⟩
    rintro σ' H' ⟨rfl, rfl⟩
    -- what is told is changed
    refine at_seq ?_
    refine ⟨_, rfl, fo, rfl, ⟨fz, SqL.of eF⟩, for_it walk_list (fun i σ' H7 => ∃ (u8 u9 : Option V), σ' = [some (.ref a), some (.int seed), some (.int (m : Int)), some (.ref pl), some (.ref p), some (.ref l), some (.ref due), some (.ref fo), u8, u9, none, none, none] ∧ H7 fo = some (.lst fz) ∧ (∀ b o, H' b = some o → (∀ ys, o ≠ .lst ys) → H7 b = some o) ∧ (∀ t ys, H' t = some (.lst ys) → t ≠ fo → ys.length ≤ 16 → ∃ ys', H7 t = some (.lst ys') ∧ ys'.length ≤ 16 + i) ∧ Same H5 H7)
      ⟨none, none, rfl, eF, fun b o e _ => e, fun t ys e _ l => ⟨ys, e, l⟩, sm6⟩ (fun i σ' H7 _ ⟨_, _, _, z, _⟩ => SqL.of z) ?_ ?_⟩
    · rintro i x σ H7 H8 hi ⟨u8, u9, rfl, f1, f2, f3, f4⟩ ⟨rfl, hx⟩
      have li : i < 17 := by
        have := due_len (m := m) (rows := rows)
        have := Paired.length nF
        omega
      obtain ⟨q, t, y, rfl, hy, q1, q2, t1, t2, t3⟩ := newE_get nF hx
      have ly := due_piece y (List.mem_of_getElem? hy)
      have q8 := f2 _ _ q2 (fun ys z => by cases z)
      obtain ⟨ys', e8, l8⟩ := f3 _ _ t3 t1 (by rw [List.length_map]; omega)
      refine ⟨q, _, rfl, SqT.of q8, rfl, _, _, rfl, _, _, rfl, rfl, ?_⟩
      refine ⟨_, rfl, .inl ⟨rfl, _, SqL.of e8⟩, t, ys', _, rfl, rfl, e8, by rw [sizeLine_eq]; omega, ?_⟩
      refine ⟨_, _, rfl, by rw [upd_ne t1.symm]; exact f1, fun b o e n => ?_, fun b ys e n l => ?_, same_over t2 f4⟩
      · rw [upd_ne (fun z => by rw [z, t3] at e; exact n _ (Option.some.inj e).symm)]
        exact f2 b o e n
      · by_cases z : b = t
        · subst z
          exact ⟨_, upd_same, by rw [List.length_append]; show ys'.length + 1 ≤ _; omega⟩
        · rw [upd_ne z]
          obtain ⟨y2, g1, g2⟩ := f3 b ys e n l
          exact ⟨y2, g1, by omega⟩
    rintro σ H7 ⟨u8, u9, rfl, f1, _, _, f4⟩
    dsimp only
    have lfz : fz.length ≤ 16 := by
      have := due_len (m := m) (rows := rows)
      have := Paired.length nF
      omega
    refine at_seq ?_
    refine ⟨_, rfl, .inl ⟨rfl, _, SqL.of f1⟩, fo, fz, _, rfl, rfl, f1, by rw [sizeLine_eq]; omega, ?_⟩
    have sm8 : Same H5 (upd H7 fo (.lst (fz ++ [V.str "more"]))) := same_over hfo f4
    generalize upd H7 fo (.lst (fz ++ [V.str "more"])) = H8 at *
    clear f1 f4 lfz dF eF nF hfo sm6
    -- fewest
    dsimp only
    refine at_seq (at_asg ?_)
    refine ⟨_, rfl, p, d, m, rows, n, rfl, W5.same sm8, fun mo mz H9 hmo sm9 eM tM => ?_⟩
    dsimp only [gName]
    refine nice (σ' := [some (.ref a), some (.int seed), some (.int (m : Int)), some (.ref pl), some (.ref p), some (.ref l), some (.ref due), some (.ref fo), u8, u9, some (.ref mo), none, none]) rfl ?_
    have sm59 := sm8.trans sm9
    have lmz : mz.length = (fewestF m rows).length := by rw [tups_len tM, List.length_map]
    refine at_seqP (fun σ' H' => σ' = [some (.ref a), some (.int seed), some (.int (m : Int)), some (.ref pl), some (.ref p), some (.ref l), some (.ref due), some (.ref fo), u8, u9, some (.ref mo), none, none] ∧ Same H9 H') ?rest2 fun N hN => ?test2
    case test2 =>
      refine ⟨_, rfl, .inl ⟨.ref mo, .ty "list", .type "list", .type "list", true, rfl, .ty _, .base (.lst eM), kit_list, _, rfl, ?_⟩⟩
      refine ⟨_, rfl, mo, mz, rfl, .inl (SqL.of eM), ?_⟩
      have eD9 := sm59 _ _ eD
      have nD9 := newE_ext (fun t o _ e => sm59 t o e) ⟨_, eD⟩ nD
      refine ⟨_, rfl, due, rfl, ⟨zsD, SqL.of eD9⟩, fun D0 hD0 => ?_⟩
      have lzs : zsD.length = (dueF m rows).length := Paired.length nD
      have l16 := due_len (m := m) (rows := rows)
      refine lc_it (walk_list (K := K) (xs := zsD)) (fun i H' => H' D0 = some (.lst ((((dueF m rows).take i).map (·.2)).map natV)) ∧ Same H9 H') ⟨upd_same, same_new hD0⟩ (fun _ _ _ ⟨_, z⟩ => SqL.of (z _ _ eD9)) ?_ ?_
      · rintro i x H10 H11 hi ⟨d1, smi⟩ ⟨rfl, hx⟩
        obtain ⟨q, t, y, rfl, hy, q1, q2, t1, t2, t3⟩ := newE_get nD9 hx
        refine ⟨q, _, rfl, SqT.of (smi _ _ q2), rfl, _, _, rfl, _, _, rfl, rfl, rfl, ?_⟩
        refine ⟨_, rfl, _, d1, by rw [List.length_map, List.length_map, List.length_take, sizeLine_eq]; omega, ?_, same_over hD0 smi⟩
        rw [upd_same, take_snoc hy, List.map_append, List.map_append]
        rfl
      · rintro H10 ⟨d1, sm10⟩
        rw [lzs, List.take_length] at d1
        have e1 : ((dueF m rows).map (·.2)).map natV = (((dueF m rows).map (·.2)).map fun n : Nat => (n : Int)).map V.int := by
          rw [List.map_map, List.map_map, List.map_map]
          rfl
        rw [e1] at d1
        have half := few_half rise inm
        refine ⟨D0, _, rfl, SqL.of d1, _, _, rfl, rfl, _, _, rfl, rfl, ⟨by decide, by decide⟩, rfl, _, rfl, ?_⟩
        rw [int_sum]
        have eqv : V.int (mz.length : Int) = V.int ((((((dueF m rows).map (·.2)).sum : Nat) : Int) + 1) / 2) := by
          congr 1
          rw [lmz]
          omega
        rw [eqv, decide_eq_true rfl]
        exact hN _ _ ⟨rfl, sm10⟩
    rintro σ' H10 ⟨rfl, sm10⟩
    have sm510 := sm59.trans sm10
    have eM10 := sm10 _ _ eM
    have tM10 := tups_ext (fun t xs e => sm10 _ _ e) tM
    -- kept
    refine at_seq (at_asg ?_)
    refine ⟨_, rfl, mo, mz, rfl, .inl (SqL.of eM10), fun kp hkp => ?_⟩
    dsimp only [gName]
    refine nice (σ' := [some (.ref a), some (.int seed), some (.int (m : Int)), some (.ref pl), some (.ref p), some (.ref l), some (.ref due), some (.ref fo), u8, u9, some (.ref mo), some (.ref kp), none]) rfl ?_
    have ck := same_new (o := .lst mz) hkp
    have nkm : kp ≠ mo := fun z => by
      rw [z, eM10] at hkp
      cases hkp
    have nkl : kp ≠ l := fun z => by
      obtain ⟨_, e, _⟩ := tl_same tl5 sm510
      rw [← z, hkp] at e
      cases e
    have eK := upd_same (H := H10) (a := kp) (o := .lst mz)
    have eM11 := ck _ _ eM10
    have tM11 := tups_ext (fun t xs e => ck _ _ e) tM10
    have sm511 := sm510.trans ck
    have hmo5 : H5 mo = none := sm8.free hmo
    generalize upd H10 kp (.lst mz) = H11 at *
    have l16m : mz.length ≤ 16 := by
      have a1 := few_half rise inm
      have a2 := sum_two (L := (dueF m rows).map (·.2)) (fun x hx => by
        obtain ⟨y, hy, rfl⟩ := List.mem_map.mp hx
        exact due_small y hy)
      rw [List.length_map] at a2
      have a3 := due_len (m := m) (rows := rows)
      omega
    refine at_seq ?_
    refine ⟨_, rfl, .inl ⟨rfl, _, SqL.of eM11⟩, mo, mz, _, rfl, rfl, eM11, by rw [sizeLine_eq]; omega, ?_⟩
    have sm12 : Same H5 (upd H11 mo (.lst (mz ++ [V.str "more"]))) := same_over hmo5 sm511
    have eK12 : upd H11 mo (.lst (mz ++ [V.str "more"])) kp = some (.lst mz) := by
      rw [upd_ne nkm]
      exact eK
    have tK12 : Tups (upd H11 mo (.lst (mz ++ [V.str "more"]))) mz ((fewestF m rows).map pairV) := tups_over eM11 tM11
    generalize upd H11 mo (.lst (mz ++ [V.str "more"])) = H12 at *
    clear eK eM11 tM11 sm511 ck hkp eM10 tM10 sm510 sm10 sm59 eM tM sm8 sm9 hmo nkm hmo5
    have W12 := W5.same sm12
    have tl12 := tl_same tl5 sm12
    -- told again
    dsimp only
    refine at_seqP (fun σ' H' => σ' = [some (.ref a), some (.int seed), some (.int (m : Int)), some (.ref pl), some (.ref p), some (.ref l), some (.ref due), some (.ref fo), u8, u9, some (.ref mo), some (.ref kp), none] ∧ Same H12 H') ?rest3 fun N hN => ?test3
    case test3 =>
      obtain ⟨dx, hp12⟩ := W12.ob
      refine ⟨_, rfl, p, dx, _, rfl, hp12, tF_no _ _ _ (by decide +kernel) (by decide +kernel) (by decide +kernel), p, d, m, rows, n, rfl, W12, fun sl H13 hsl sm13 tl13 => ?_⟩
      refine ⟨_, rfl, _, _, dp_town tl13, dp_town (tl_same tl12 sm13), (lay_rows rows).shaped (by decide), (lay_rows rows).shaped (by decide), ?_⟩
      rw [(lay_rows rows).eqv]
      refine ⟨_, rfl, ?_⟩
      refine ⟨_, rfl, p, d, m, rows, n, rfl, W12.same sm13, fun eo ez H14 heo sm14 eE nE => ?_⟩
      refine ⟨_, rfl, _, _, dp_due eE nE, dD ((sm12.trans sm13).trans sm14), lyD.shaped (by decide), lyD.shaped (by decide), ?_⟩
      rw [lyD.eqv]
      refine ⟨_, rfl, ?_⟩
      refine ⟨_, rfl, p, d, m, rows, n, rfl, (W12.same sm13).same sm14, fun f2 fz2 H15 hf2 sm15 eF2 tF2 => ?_⟩
      have smx := (sm13.trans sm14).trans sm15
      have lyP := lay_pairs (fewestF m rows)
      refine ⟨_, rfl, _, _, .lst (SqL.of eF2) (dp_pairs tF2), .lst (SqL.of (smx _ _ eK12)) (dp_pairs (tups_ext (fun t xs e => smx _ _ e) tK12)), lyP.shaped (by decide), lyP.shaped (by decide), ?_⟩
      rw [lyP.eqv]
      exact ⟨_, rfl, hN _ _ ⟨rfl, smx⟩⟩
    rintro σ' H13 ⟨rfl, sm13⟩
    have W13 := W12.same sm13
    have tl13 := tl_same tl12 sm13
    have eK13 := sm13 _ _ eK12
    have tK13 := tups_ext (fun t xs e => sm13 _ _ e) tK12
    have tlp13 := tl_same tlp5 (sm12.trans sm13)
    clear W12 tl12 eK12 tK12 sm13
    have okJ := few_ok rise inm
    have lJ : (fewestF m rows).length = mz.length := by rw [tups_len tK13, List.length_map]
    -- built
    refine at_seq ?_
    refine ⟨_, rfl, kp, rfl, ⟨mz, SqL.of eK13⟩, for_it walk_list (fun i σ' H' => ∃ (u12 : Option V), σ' = [some (.ref a), some (.int seed), some (.int (m : Int)), some (.ref pl), some (.ref p), some (.ref l), some (.ref due), some (.ref fo), u8, u9, some (.ref mo), some (.ref kp), u12] ∧ TownAt (gA K "Town") H' p d m (rows ++ numbF n ((fewestF m rows).take i)) (n + i) ∧ TL H' l ((rows ++ numbF n ((fewestF m rows).take i)).map rowV) ∧ H' kp = some (.lst mz) ∧ Tups H' mz ((fewestF m rows).map pairV) ∧ TL H' pl ((ends rows).map pairV))
      ⟨none, rfl, by rw [List.take_zero]; show TownAt _ _ _ _ _ (rows ++ []) _; rw [List.append_nil]; exact W13, by rw [List.take_zero]; show TL _ _ ((rows ++ []).map rowV); rw [List.append_nil]; exact tl13, eK13, tK13, tlp13⟩ (fun i σ' H' _ ⟨_, _, _, _, z, _⟩ => SqL.of z) ?_ ?_⟩
    · rintro i x σ H14 H15 hi ⟨u12, rfl, Wi, tli, eKi, tKi, tlpi⟩ ⟨rfl, hx⟩
      obtain ⟨t, xs, rfl, hxs, ht⟩ := tups_get tKi hx
      obtain ⟨q, hq⟩ : ∃ q, (fewestF m rows)[i]? = some q := ⟨_, List.getElem?_eq_getElem (by omega)⟩
      rw [List.getElem?_map, hq] at hxs
      cases hxs
      obtain ⟨k1, k2, k3⟩ := okJ q (List.mem_of_getElem? hq)
      dsimp only [gName]
      refine nice (σ' := [some (.ref a), some (.int seed), some (.int (m : Int)), some (.ref pl), some (.ref p), some (.ref l), some (.ref due), some (.ref fo), u8, u9, some (.ref mo), some (.ref kp), some (.ref t)]) rfl ?_
      refine at_seqP (fun σ' H' => σ' = [some (.ref a), some (.int seed), some (.int (m : Int)), some (.ref pl), some (.ref p), some (.ref l), some (.ref due), some (.ref fo), u8, u9, some (.ref mo), some (.ref kp), some (.ref t)] ∧ H' = H15) ?rest4 fun N hN => ?test4
      case test4 =>
        refine ⟨_, rfl, .inl ⟨.ref t, .ty "tuple", .type "tuple", .type "tuple", true, rfl, .ty _, .base (.tup ht), kit_tuple, _, rfl, ?_⟩⟩
        refine ⟨_, rfl, t, _, rfl, .inr (SqT.of ht), rfl, _, rfl, ?_⟩
        refine ⟨_, rfl, t, _, _, _, rfl, rfl, SqT.of ht, atI_nat (j := 0) rfl, _, rfl, t, _, _, _, rfl, rfl, SqT.of ht, atI_nat (j := 1) rfl, rfl, _, rfl, ?_⟩
        have dq : decide (V.int (q.1 : Int) = V.int (q.2 : Int)) = false := decide_eq_false (fun z => k3 (Int.ofNat.inj (V.int.inj z)))
        rw [dq]
        exact hN _ _ ⟨rfl, rfl⟩
      rintro σ' H' ⟨rfl, rfl⟩
      have lri : (rows ++ numbF n ((fewestF m rows).take i)).length < 60 := by
        rw [List.length_append, numb_len, List.length_take]
        omega
      have tkk : (fewestF m rows).take (i + 1) = (fewestF m rows).take i ++ [q] := take_snoc hq
      have lti : ((fewestF m rows).take i).length = i := by rw [List.length_take]; omega
      have rows1 : rows ++ numbF n ((fewestF m rows).take (i + 1)) = (rows ++ numbF n ((fewestF m rows).take i)) ++ [(n + i, q.1, q.2)] := by
        rw [tkk, numb_snoc, lti, List.append_assoc]
      rw [rows1]
      generalize rows ++ numbF n ((fewestF m rows).take i) = ri at *
      obtain ⟨vl, el, tv⟩ := tli
      obtain ⟨vpl, epl, tpl⟩ := tlpi
      obtain ⟨dxi, hpi⟩ := id Wi.ob
      obtain ⟨kvi, hdi, _⟩ := id Wi.dc
      have off : ∀ {b xs}, H' b = some (.lst xs) → b ≠ p ∧ b ≠ d := fun {b xs} e => ⟨ne_of e hpi (by intro z; cases z), ne_of e hdi (by intro z; cases z)⟩
      refine ⟨_, rfl, .inl ⟨rfl, _, SqL.of el⟩, _, rfl, p, dxi, _, rfl, hpi, tF_no _ _ _ (by decide +kernel) (by decide +kernel) (by decide +kernel), _, rfl, t, _, _, _, rfl, rfl, SqT.of ht, atI_nat (j := 0) rfl, _, rfl, t, _, _, _, rfl, rfl, SqT.of ht, atI_nat (j := 1) rfl, p, d, m, ri, n + i, _, _, rfl, Wi, ⟨"int", rfl⟩, ⟨"int", rfl⟩, fun z => ?_, fun x y ex ey _ _ _ z => ?_, fun x y ex ey hx hy ne few H11 W11 kp11 => ?_⟩
      · exfalso
        rcases z with z | z | z
        · rw [isW_true (by omega) (by omega)] at z
          cases z
        · rw [isW_true (by omega) (by omega)] at z
          cases z
        · exact k3 (Int.ofNat.inj (V.int.inj z))
      · omega
      · have ea' : x = q.1 := (Int.ofNat.inj (V.int.inj ex)).symm
        have eb' : y = q.2 := (Int.ofNat.inj (V.int.inj ey)).symm
        subst ea' eb'
        have kt := fun t xs e => keeps_tups Wi kp11 t xs e
        have ht1 := kt _ _ ht
        have el1 := kp11 _ _ el (off el).1 (off el).2
        have ek1 := kp11 _ _ eKi (off eKi).1 (off eKi).2
        have ep1 := kp11 _ _ epl (off epl).1 (off epl).2
        refine ⟨_, rfl, t, _, _, _, rfl, rfl, SqT.of ht1, atI_nat (j := 0) rfl, _, rfl, t, _, _, _, rfl, rfl, SqT.of ht1, atI_nat (j := 1) rfl, (by show 3 ≤ sizeLine; decide), fun g hg => ?_⟩
        have cg := same_new (o := .tup (rowV (n + i, q.1, q.2))) hg
        have eg := upd_same (H := H11) (a := g) (o := .tup (rowV (n + i, q.1, q.2)))
        have el2 := cg _ _ el1
        have lvl : vl.length = ri.length := by rw [tups_len tv, List.length_map]
        refine ⟨l, vl, _, rfl, rfl, el2, by rw [lvl, sizeLine_eq]; omega, ?_⟩
        have tn : Tups (upd H11 g (.tup (rowV (n + i, q.1, q.2)))) (vl ++ [V.ref g]) ((ri ++ [(n + i, q.1, q.2)]).map rowV) := by
          rw [List.map_append]
          exact tups_snoc eg (tups_ext (fun t xs e => cg _ _ (kt _ _ e)) tv)
        refine ⟨_, rfl, town_over (W11.same cg) el2, ⟨_, upd_same, tups_over el2 tn⟩, ?_, tups_over el2 (tups_ext (fun t xs e => cg _ _ (kt _ _ e)) tKi), ⟨vpl, ?_, tups_over el2 (tups_ext (fun t xs e => cg _ _ (kt _ _ e)) tpl)⟩⟩
        · rw [upd_ne nkl]
          exact cg _ _ ek1
        · rw [upd_ne npl]
          exact cg _ _ ep1
    rintro σ H14 ⟨u12, rfl, W14, tl14, eK14, tK14, tlp14⟩
    rw [← lJ, List.take_length] at W14 tl14
    dsimp only
    have rise' := W14.ok.rise
    have inm' := town_inm W14
    have can := few_built rise inm m1 rise' inm' n rfl
    have ee : ends (rows ++ numbF n (fewestF m rows)) = ends rows ++ fewestF m rows := by
      unfold ends
      rw [List.map_append]
      exact congrArg (_ ++ ·) (numb_ends n _)
    generalize rows ++ numbF n (fewestF m rows) = R at *
    have lR := W14.ok.few
    have lenR : (ends R).length = R.length := List.length_map ..
    -- pairs
    obtain ⟨vpl, epl, tpl⟩ := tlp14
    refine at_seq (at_asg ?_)
    refine ⟨_, rfl, _, rfl, pl, kp, vpl, mz, rfl, rfl, epl, eK14, ?_, fun pj hpj => ?_⟩
    · rw [tups_len tpl, List.length_map, lenE, sizeLine_eq]
      omega
    have cj := same_new (o := .lst (vpl ++ mz)) hpj
    have tj : TL (upd H14 pj (.lst (vpl ++ mz))) pj ((ends R).map pairV) := by
      rw [ee, List.map_append]
      exact ⟨_, upd_same, tups_ext (fun t xs e => cj _ _ e) (tups_cat tpl tK14)⟩
    have W15 := W14.same cj
    have tl15 := tl_same tl14 cj
    generalize upd H14 pj (.lst (vpl ++ mz)) = H15 at *
    clear cj W14 tl14 eK14 tK14 epl tpl hpj
    dsimp only [gName]
    refine nice (σ' := [some (.ref a), some (.int seed), some (.int (m : Int)), some (.ref pj), some (.ref p), some (.ref l), some (.ref due), some (.ref fo), u8, u9, some (.ref mo), some (.ref kp), u12]) rfl ?_
    obtain ⟨cD, cF⟩ := can_due rise' inm' m1 can
    have cG := can_gone rise' inm' can
    have one : (partsOf m (ends R)).length = 1 := (can_facts (rise_one rise') inm' m1 can).2.2.2.2
    refine at_seqP (fun σ' H' => σ' = [some (.ref a), some (.int seed), some (.int (m : Int)), some (.ref pj), some (.ref p), some (.ref l), some (.ref due), some (.ref fo), u8, u9, some (.ref mo), some (.ref kp), u12] ∧ Same H15 H') ?rest5 fun N hN => ?test5
    case test5 =>
      refine ⟨_, rfl, _, rfl, m, pj, ends R, rfl, tj, inm', m16, by omega, fun pr pz H16 hpr sm16 eP nP => ?_⟩
      have lpz : pz.length = 1 := by
        rw [Paired.length nP]
        unfold natL
        rw [List.length_map]
        exact one
      refine ⟨pr, pz, rfl, .inl (SqL.of eP), _, _, rfl, rfl, _, rfl, ?_⟩
      rw [lpz, show decide ((1 : Int) < ((1 : Nat) : Int)) = false from rfl]
      refine ⟨_, rfl, _, rfl, m, pj, ends R, rfl, tl_same tj sm16, inm', m16, by omega, fun gr H17 hgr sm17 eG => ?_⟩
      rw [cG] at eG
      refine ⟨(by show 0 ≤ sizeLine; decide), fun e1 he1 => ?_⟩
      have c1 := same_new (o := .lst []) he1
      refine ⟨_, _, dp_nat0 (ys := []) (c1 _ _ eG), .lst (SqL.of upd_same) .nil, (lay_nat0 _).shaped (by decide), by decide, ?_⟩
      rw [eqv_nat0]
      exact ⟨_, rfl, hN _ _ ⟨rfl, (sm16.trans sm17).trans c1⟩⟩
    rintro σ' H16 ⟨rfl, sm16⟩
    have W16 := W15.same sm16
    have tl16 := tl_same tl15 sm16
    refine at_ret ?_
    have hg := ways_fW.good m R _ W16.ok m1 m16 can
    have lw := good_len hg
    have inw := good_in hg inm'
    refine ⟨_, rfl, _, rfl, _, rfl, p, d, m, R, _, rfl, W16, fun _ fr H17 hfr sm17 tlw => ?_, fun z => (by rw [can] at z; cases z)⟩
    refine ⟨m, l, fr, R, fW m R, rfl, tl_same tl16 sm17, tlw, inw, m1, m16, lR, by omega, fun H18 sm18 => ?_⟩
    rw [hg]
    refine ⟨true, rfl, ?_⟩
    have W18 := (W16.same sm17).same sm18
    refine ⟨_, rfl, p, d, m, R, _, rfl, W18, fun f2 fz H19 hf2 sm19 eF tF => ?_⟩
    rw [cF] at tF
    refine ⟨(by show 0 ≤ sizeLine; decide), fun e1 he1 => ?_⟩
    have c1 := same_new (o := .lst []) he1
    cases tF
    refine ⟨_, _, .lst (SqL.of (c1 _ _ eF)) .nil, .lst (SqL.of upd_same) .nil, by decide, by decide, ?_⟩
    rw [eqv_nil_nil]
    refine ⟨true, rfl, ?_⟩
    refine ⟨_, rfl, p, d, m, R, _, rfl, (W18.same sm19).same c1, fun e2 ez H20 he2 sm20 eE nE => ?_⟩
    rw [cD] at nE
    refine ⟨(by show 0 ≤ sizeLine; decide), fun e3 he3 => ?_⟩
    have c3 := same_new (o := .lst []) he3
    cases nE
    refine ⟨_, _, .lst (SqL.of (c3 _ _ eE)) .nil, .lst (SqL.of upd_same) .nil, by decide, by decide, ?_⟩
    rw [eqv_nil_nil]
    exact kend _
end
end K02

set_option Elab.async false
set_option linter.all false
set_option maxRecDepth 100000
set_option maxHeartbeats 4000000
namespace K02
open PySem PySem.Spec PyProof.Rows L2 Own
/-! ### the head -/
def gd (i : Nat) (n : Str) : He.DefD := ⟨(n, none), n, n, defArgs (top i), defBody (top i), defScope (top i), [], []⟩
def md (i j : Nat) (c n q : Str) : He.DefD := ⟨(c, some n), n, q, defArgs (inClass (top i) j), defBody (inClass (top i) j), defScope (inClass (top i) j), [], []⟩
def fn : List He.DefD := (([gd 1 "is_whole", gd 2 "both_ways", gd 3 "walks_from", gd 4 "come_to", gd 5 "parts_along", gd 7 "_parts_its_ends", gd 8 "_parting_rows", gd 9 "_pieces_without", gd 10 "_leading_out", gd 11 "parting", gd 12 "pieces", gd 13 "ends", gd 22 "parts", gd 24 "_in_depth", gd 25 "fewest", gd 27 "_row_from", gd 28 "_rows_of", gd 29 "handles", gd 31 "one_way", md 35 0 "Town" "__init__" "Town.__init__", md 35 1 "Town" "places" "Town.places", md 35 2 "Town" "build" "Town.build", md 35 3 "Town" "dig" "Town.dig", md 35 4 "Town" "streets" "Town.streets"] : List He.DefD) ++ ([gd 37 "_law_mixed", gd 38 "_law_seed", gd 39 "_law_ends", gd 40 "_law_pairs", gd 41 "_law_many", gd 42 "_law_made", gd 43 "_law_parts", gd 44 "_law_gone", gd 45 "_law_led", gd 46 "_law_good", gd 47 "_law_steps", gd 48 "_law_wants", gd 49 "law"] : List He.DefD))
def gloNames : List Str := ((["TownError", "BadCount", "BadPlace", "BadStreet", "TooMany", "Parted", "Town", "is_whole", "both_ways", "walks_from", "come_to", "parts_along", "_parts_its_ends", "_parting_rows", "_pieces_without", "_leading_out", "parting", "pieces", "ends", "parts", "_in_depth", "fewest", "_row_from", "_rows_of"] : List PySem.Str) ++ (["handles", "one_way", "_law_mixed", "_law_seed", "_law_ends", "_law_pairs", "_law_many", "_law_made", "_law_parts", "_law_gone", "_law_led", "_law_good", "_law_steps", "_law_wants", "law"] : List PySem.Str))
def freeNames : List Str := ["ValueError", "all", "any", "bool", "enumerate", "int", "isinstance", "len", "list", "max", "min", "range", "sorted", "str", "sum", "super", "tuple", "type", "zip"]
def fa : List He.Fa := gloNames.map .glo ++ (freeNames.map .free ++ [.int "MOST_PLACES" 16, .int "MOST_STREETS" 60, .cls "Town", .noat "Town" "_many", .noat "Town" "_ends", .noat "Town" "_built", .meth "Town" "build", .meth "Town" "dig", .meth "Town" "streets", .meth "Town" "places", .mkr "Town", .exc "BadCount", .exc "BadPlace", .exc "BadStreet", .exc "TooMany"])
def tf : List He.Defn := []
abbrev P_k02 : Program := PySem.Challenge.rw_onewaytown_k02_whole_fewest_streets.prog
def pI (K : PySem.W.Frag) : Addr := He.ma K (gA K "Parted") "__init__"
def exPar (K : PySem.W.Frag) : Bool := oexB K (gA K "Parted") && (xfB K (gA K "Parted") && (He.eqO (PySem.W.findIn K (.ref (gA K "Parted")) "between") (some none) && (He.eqO (PySem.W.findIn K (.ref (gA K "Parted")) "apart") (some none) &&
  (He.eqO (PySem.W.findIn K (.ref (gA K "Parted")) "__init__") (some (some (.ref (pI K)))) && (decide (PySem.W.typeIn K (.ref (pI K)) = some (.type "function")) && (supB K (pI K) (gA K "Parted") P_k02.main.file &&
  (He.eqO (PySem.W.nsIn K cStatics "thirdparty.any") (some none) && (He.eqO (PySem.W.ks_superIn K (gA K "Parted") (gA K "Parted") "__init__") (some (some (.builtin "ValueError.__init__"))) &&
  (decide (PySem.W.subIn K (.ref (gA K "Parted")) (.type "ValueError") = some true) && decide (PySem.W.mroIn K (gA K "Parted") (.ref (gA K "Parted")) = some true))))))))))
def ex (K : PySem.W.Frag) : Bool := exPar K && (true)
def ss : List ((PySem.W.Frag → Addr) × Stmt) := [(pI, s_Parted_init)]
abbrev R_ : PySem.W.OpenRow := PySem.W.OpenLaw.row PySem.Challenge.rw_onewaytown_k02_whole_fewest_streets
abbrev hk : PySem.W.Hook := hookY 7 fa fn tf ex ss
def ob (s : PySem.W.SharedT) : AlY := obsY 7 fa fn tf ex ss (HandSHeadRun.getT s)
theorem ob_eq (s : PySem.W.SharedT) : ob s = hk.obs s.abs := obsY_eq (HandSHeadRun.getT_eq s)
def looseNames : List PySem.Str := ((["TownError", "BadCount", "BadPlace", "BadStreet", "TooMany", "Parted", "Town", "is_whole", "both_ways", "walks_from", "come_to", "parts_along", "_parts_its_ends", "_parting_rows", "_pieces_without", "_leading_out", "parting", "pieces", "ends", "parts", "_in_depth", "fewest", "_row_from", "_rows_of"] : List PySem.Str) ++ (["handles", "one_way", "_law_mixed", "_law_seed", "_law_ends", "_law_pairs", "_law_many", "_law_made", "_law_parts", "_law_gone", "_law_led", "_law_good", "_law_steps", "_law_wants", "MOST_PLACES", "MOST_STREETS"] : List PySem.Str))
theorem run (w : World) : HandSHeadRun.RunEq R_ (PySem.W.view R_.prog [49]) hk ob 6000 looseNames w := by
  intro os
  kernel_rfl
end K02

set_option Elab.async false
set_option linter.all false
set_option maxRecDepth 100000
set_option maxHeartbeats 4000000
namespace K02
open PySem PySem.Spec PyProof.Rows L2 Own
/-! ### the facts, the end -/
def TT_ (K : PySem.W.Frag) : List (Addr × Str) := []
section
variable {w : World} {K : PySem.W.Frag} {h base : Heap} {mg : Str → Option Value}
theorem glo_of (X : K.In h) (G : h.Ns mainGlobals mg) (d : He.SaysD fa fn K) {x : Str} (hx : x ∈ gloNames) : mg x = some (.ref (gA K x)) := He.glo_ok X G (d.facts (List.mem_append_left _ (List.mem_map_of_mem hx)))
theorem free_of (X : K.In h) (G : h.Ns mainGlobals mg) (d : He.SaysD fa fn K) {x : Str} (hx : x ∈ freeNames) : mg x = none := He.free_ok X G (d.facts (List.mem_append_right _ (List.mem_append_left _ (List.mem_map_of_mem hx))))
theorem txt_of (X : K.In h) (G : h.Ns mainGlobals mg) (d : He.SaysD fa fn K) : Txt K mg := by
  have err : ∀ {x : Str}, x ∈ gloNames → (He.Fa.exc x).ok K = true → ErrT K mg x := fun hx e => by
    obtain ⟨e1, e2, e3, e4⟩ := He.exc_ok e
    exact ⟨glo_of X G d hx, e1, e2, e3, e4⟩
  refine ⟨free_of X G d (by decide +kernel), free_of X G d (by decide +kernel), free_of X G d (by decide +kernel), ?_, ?_, He.cls_ok (d.fact 60 (f := .cls "Town") rfl), He.noat_ok (d.fact 61 (f := .noat "Town" "_many") rfl), He.noat_ok (d.fact 62 (f := .noat "Town" "_ends") rfl), He.noat_ok (d.fact 63 (f := .noat "Town" "_built") rfl),
    err (by decide +kernel) (d.fact 69 (f := .exc "BadCount") rfl), err (by decide +kernel) (d.fact 70 (f := .exc "BadPlace") rfl), err (by decide +kernel) (d.fact 71 (f := .exc "BadStreet") rfl), err (by decide +kernel) (d.fact 72 (f := .exc "TooMany") rfl)⟩
  · obtain ⟨t, e⟩ := He.int_ok X G (d.fact 58 (f := .int "MOST_PLACES" 16) rfl)
    exact ⟨_, e, t, rfl⟩
  · obtain ⟨t, e⟩ := He.int_ok X G (d.fact 59 (f := .int "MOST_STREETS" 60) rfl)
    exact ⟨_, e, t, rfl⟩
theorem par_of (X : K.In h) (G : h.Ns mainGlobals mg) (c : SaysY fa fn tf ex ss w h K) (e : exPar K = true) (base : Heap) : MakE P_k02 w K mg base 1 "Parted" (gA K "Parted") (spParted (gA K "Parted")) ∧ XfC K (gA K "Parted") ∧
    PySem.W.findIn K (.ref (gA K "Parted")) "between" = some none ∧ PySem.W.findIn K (.ref (gA K "Parted")) "apart" = some none := by
  obtain ⟨e1, e⟩ := He.ba e
  obtain ⟨e2, e⟩ := He.ba e
  obtain ⟨e3, e⟩ := He.ba e
  obtain ⟨e4, e⟩ := He.ba e
  obtain ⟨e5, e⟩ := He.ba e
  obtain ⟨e6, e⟩ := He.ba e
  obtain ⟨e7, e⟩ := He.ba e
  obtain ⟨e8, e⟩ := He.ba e
  obtain ⟨e9, e⟩ := He.ba e
  obtain ⟨e10, e11⟩ := He.ba e
  have d := c.x.t.d
  have oex := oexB_ok e1
  have eo : supObs K (pI K) = supVal s_Parted_init := by
    have z := c.s
    exact (List.cons.inj z).1
  obtain ⟨cda, cc, kV, doc, pm, ct, an, S⟩ := sup_of (P := P_k02) eo e7 oex ⟨_, rfl, rfl⟩ (free_of X G d (by decide +kernel)) (He.eqO_ok e8) (He.eqO_ok e9) (of_decide_eq_true e10) (of_decide_eq_true e11) (by decide +kernel)
  have nb := He.eqO_ok e3
  have na := He.eqO_ok e4
  exact ⟨⟨pI K, _, ["self", "between", "apart"], oex, He.eqO_ok e5, of_decide_eq_true e6, ok_Parted S (free_of X G d (by decide +kernel)) nb na, glo_of X G d (by decide +kernel), sup_binds (ps := ["self", "between", "apart"]) fun us hl => match us, hl with | [_, _, _], _ => rfl⟩, xfB_ok e2, nb, na⟩
set_option maxHeartbeats 8000000 in
theorem law_at {f : Addr} (X : K.In h) (G : h.Ns mainGlobals mg) (hfa : mg ("law" : Str) = some (.ref f)) (c : SaysY fa fn tf ex ss w h K) : LamX.LawAtS PySem.Challenge.rw_onewaytown_k02_whole_fewest_streets w K (L2.CX P_k02 w) 12 63 "_law_script" mg f h := by
  have d := c.x.t.d
  have e0 : ex K = true := c.x.more
  obtain ⟨exp, e0⟩ := He.ba e0
  have T := txt_of X G d
  have fr : ∀ {x : Str}, x ∈ freeNames → mg x = none := fun hx => free_of X G d hx
  have g : ∀ {x : Str}, x ∈ gloNames → mg x = some (.ref (gA K x)) := fun hx => glo_of X G d hx
  have TL : TxtL mg := ⟨fr (by decide +kernel), fr (by decide +kernel), fr (by decide +kernel), fr (by decide +kernel)⟩
  have TM : TxtM mg := ⟨TL, fr (by decide +kernel), fr (by decide +kernel)⟩
  have TG : TxtG mg := ⟨fr (by decide +kernel), fr (by decide +kernel), fr (by decide +kernel)⟩
  have TOW : TxtOW mg := ⟨fr (by decide +kernel), fr (by decide +kernel)⟩
  have TLN : TxtLN mg := ⟨fr (by decide +kernel)⟩
  have TFE : TxtFE mg := ⟨fr (by decide +kernel), fr (by decide +kernel), fr (by decide +kernel), fr (by decide +kernel)⟩
  have T2 : Txt2 mg := ⟨fr (by decide +kernel), fr (by decide +kernel), fr (by decide +kernel), fr (by decide +kernel), fr (by decide +kernel)⟩
  have ef : f = gA K "law" := by
    have z := hfa.symm.trans (g (x := "law") (by decide +kernel))
    cases z
    rfl
  subst ef
  obtain ⟨_, D_is_whole⟩ := d.def_ 0 (d := gd 1 "is_whole") rfl
  obtain ⟨_, D_both_ways⟩ := d.def_ 1 (d := gd 2 "both_ways") rfl
  obtain ⟨_, D_walks_from⟩ := d.def_ 2 (d := gd 3 "walks_from") rfl
  obtain ⟨_, D_come_to⟩ := d.def_ 3 (d := gd 4 "come_to") rfl
  obtain ⟨_, D_parts_along⟩ := d.def_ 4 (d := gd 5 "parts_along") rfl
  obtain ⟨_, D_parts_its_ends⟩ := d.def_ 5 (d := gd 7 "_parts_its_ends") rfl
  obtain ⟨_, D_parting_rows⟩ := d.def_ 6 (d := gd 8 "_parting_rows") rfl
  obtain ⟨_, D_pieces_without⟩ := d.def_ 7 (d := gd 9 "_pieces_without") rfl
  obtain ⟨_, D_leading_out⟩ := d.def_ 8 (d := gd 10 "_leading_out") rfl
  obtain ⟨_, D_parting⟩ := d.def_ 9 (d := gd 11 "parting") rfl
  obtain ⟨_, D_pieces⟩ := d.def_ 10 (d := gd 12 "pieces") rfl
  obtain ⟨_, D_ends⟩ := d.def_ 11 (d := gd 13 "ends") rfl
  obtain ⟨_, D_parts⟩ := d.def_ 12 (d := gd 22 "parts") rfl
  obtain ⟨_, D_in_depth⟩ := d.def_ 13 (d := gd 24 "_in_depth") rfl
  obtain ⟨_, D_fewest⟩ := d.def_ 14 (d := gd 25 "fewest") rfl
  obtain ⟨_, D_row_from⟩ := d.def_ 15 (d := gd 27 "_row_from") rfl
  obtain ⟨_, D_rows_of⟩ := d.def_ 16 (d := gd 28 "_rows_of") rfl
  obtain ⟨_, D_handles⟩ := d.def_ 17 (d := gd 29 "handles") rfl
  obtain ⟨_, D_one_way⟩ := d.def_ 18 (d := gd 31 "one_way") rfl
  obtain ⟨_, D_init⟩ := d.def_ 19 (d := md 35 0 "Town" "__init__" "Town.__init__") rfl
  obtain ⟨_, D_places⟩ := d.def_ 20 (d := md 35 1 "Town" "places" "Town.places") rfl
  obtain ⟨_, D_build⟩ := d.def_ 21 (d := md 35 2 "Town" "build" "Town.build") rfl
  obtain ⟨_, D_dig⟩ := d.def_ 22 (d := md 35 3 "Town" "dig" "Town.dig") rfl
  obtain ⟨_, D_streets⟩ := d.def_ 23 (d := md 35 4 "Town" "streets" "Town.streets") rfl
  obtain ⟨_, D_law_mixed⟩ := d.def_ 24 (d := gd 37 "_law_mixed") rfl
  obtain ⟨_, D_law_seed⟩ := d.def_ 25 (d := gd 38 "_law_seed") rfl
  obtain ⟨_, D_law_ends⟩ := d.def_ 26 (d := gd 39 "_law_ends") rfl
  obtain ⟨_, D_law_pairs⟩ := d.def_ 27 (d := gd 40 "_law_pairs") rfl
  obtain ⟨_, D_law_many⟩ := d.def_ 28 (d := gd 41 "_law_many") rfl
  obtain ⟨_, D_law_made⟩ := d.def_ 29 (d := gd 42 "_law_made") rfl
  obtain ⟨_, D_law_parts⟩ := d.def_ 30 (d := gd 43 "_law_parts") rfl
  obtain ⟨_, D_law_gone⟩ := d.def_ 31 (d := gd 44 "_law_gone") rfl
  obtain ⟨_, D_law_led⟩ := d.def_ 32 (d := gd 45 "_law_led") rfl
  obtain ⟨_, D_law_good⟩ := d.def_ 33 (d := gd 46 "_law_good") rfl
  obtain ⟨_, D_law_steps⟩ := d.def_ 34 (d := gd 47 "_law_steps") rfl
  obtain ⟨_, D_law_wants⟩ := d.def_ 35 (d := gd 48 "_law_wants") rfl
  obtain ⟨fd, D_law⟩ := d.def_ 36 (d := gd 49 "law") rfl
  have inT : ∀ p ∈ tf, He.cT K p ∈ tf.map (He.cT K) := fun p hp => List.mem_map_of_mem hp
  refine ⟨fd, tf.map (He.cT K), spLaw K (TT_ K), fun p hp => ?_, fun p hp => ?_, fun p hp => ?_, fun s u => ?_, fun H a ns hl hbits hT hS => ⟨a, ns, rfl, hS, fun z hz => fit_bits (hbits z hz), hl, ?_, fun _ => rfl⟩, fun base KB GB TB => ?_⟩
  · obtain ⟨q, hq, rfl⟩ := List.mem_map.mp hp
    exact c.x.empty q hq
  · obtain ⟨q, hq, rfl⟩ := List.mem_map.mp hp
    exact c.x.out q hq
  · obtain ⟨q, hq, rfl⟩ := List.mem_map.mp hp
    exact PySem.W.codeHd_of_K X (c.x.hd q hq)
  · exact D_law.bindsA (ps := ["_law_script"]) (fun _ _ _ _ _ _ us hl => match us, hl with | [_], _ => rfl) s [u] rfl
  · intro q hq
    exact absurd hq List.not_mem_nil
  · obtain ⟨c_Parted, xf, nb, na⟩ := par_of X G c exp base
    have tb : ∀ p ∈ tf, LamX.TabB base mg (He.cT K p).1 (He.cT K p).2 := fun p hp => TB _ (inT p hp)
    have c_is_whole : CalX P_k02 w K mg base 1 "is_whole" spWhole := ⟨_, _, _, ok_is_whole T D_is_whole, g (by decide +kernel), D_is_whole.kp, D_is_whole.bindsN fun _ _ _ _ _ _ us hl => match us, hl with | [_, _, _], _ => rfl⟩
    have c_Town : MakX P_k02 w K mg base 2 "Town" (gA K "Town") (spInit K (gA K "Town")) := ⟨_, _, _, He.mkr_ok (d.fact 68 (f := .mkr "Town") rfl), ok_init T D_init c_is_whole, g (by decide +kernel), D_init.bindsN fun _ _ _ _ _ _ us hl => match us, hl with | [_, _], _ => rfl⟩
    have c_build : MetX P_k02 w K mg base 2 (gA K "Town") "build" (spBuild K (gA K "Town")) := ⟨_, _, _, T.cl, He.meth_ok (d.fact 64 (f := .meth "Town" "build") rfl), ok_build T D_build c_is_whole, D_build.bindsN fun _ _ _ _ _ _ us hl => match us, hl with | [_, _, _], _ => rfl⟩
    have c_dig : MetX P_k02 w K mg base 2 (gA K "Town") "dig" (spDig K (gA K "Town")) := ⟨_, _, _, T.cl, He.meth_ok (d.fact 65 (f := .meth "Town" "dig") rfl), ok_dig T D_dig c_is_whole, D_dig.bindsN fun _ _ _ _ _ _ us hl => match us, hl with | [_, _], _ => rfl⟩
    have c_streets : MetX P_k02 w K mg base 1 (gA K "Town") "streets" (spStreets (gA K "Town")) := ⟨_, _, _, T.cl, He.meth_ok (d.fact 66 (f := .meth "Town" "streets") rfl), ok_streets T D_streets, D_streets.bindsN fun _ _ _ _ _ _ us hl => match us, hl with | [_], _ => rfl⟩
    have c_places : MetX P_k02 w K mg base 1 (gA K "Town") "places" (spPlaces (gA K "Town")) := ⟨_, _, _, T.cl, He.meth_ok (d.fact 67 (f := .meth "Town" "places") rfl), ok_places T D_places, D_places.bindsN fun _ _ _ _ _ _ us hl => match us, hl with | [_], _ => rfl⟩
    have c_both_ways : CalX P_k02 w K mg base 1 "both_ways" spBoth := ⟨_, _, _, ok_both_ways D_both_ways, g (by decide +kernel), D_both_ways.kp, D_both_ways.bindsN fun _ _ _ _ _ _ us hl => match us, hl with | [_], _ => rfl⟩
    have c_walks_from : CalX P_k02 w K mg base 1 "walks_from" spWalks := ⟨_, _, _, ok_walks_from D_walks_from, g (by decide +kernel), D_walks_from.kp, D_walks_from.bindsN fun _ _ _ _ _ _ us hl => match us, hl with | [_, _], _ => rfl⟩
    have c_come_to : CalX P_k02 w K mg base 2 "come_to" spCome := ⟨_, _, _, ok_come TG D_come_to c_both_ways c_walks_from, g (by decide +kernel), D_come_to.kp, D_come_to.bindsN fun _ _ _ _ _ _ us hl => match us, hl with | [_, _], _ => rfl⟩
    have c_parts_along : CalX P_k02 w K mg base 3 "parts_along" spPartsAlong := ⟨_, _, _, ok_parts_along TG D_parts_along c_come_to, g (by decide +kernel), D_parts_along.kp, D_parts_along.bindsN fun _ _ _ _ _ _ us hl => match us, hl with | [_, _], _ => rfl⟩
    have c_parts_its_ends : CalX P_k02 w K mg base 3 "_parts_its_ends" spApart := ⟨_, _, _, ok_apart D_parts_its_ends c_come_to, g (by decide +kernel), D_parts_its_ends.kp, D_parts_its_ends.bindsN fun _ _ _ _ _ _ us hl => match us, hl with | [_, _], _ => rfl⟩
    have c_parting_rows : CalX P_k02 w K mg base 4 "_parting_rows" (spPartingRows (gA K "Town")) := ⟨_, _, _, ok_parting_rows D_parting_rows c_parts_its_ends c_streets, g (by decide +kernel), D_parting_rows.kp, D_parting_rows.bindsN fun _ _ _ _ _ _ us hl => match us, hl with | [_], _ => rfl⟩
    have c_pieces_without : CalX P_k02 w K mg base 4 "_pieces_without" (spWithout (gA K "Town")) := ⟨_, _, _, ok_without D_pieces_without c_parts_along c_places c_streets, g (by decide +kernel), D_pieces_without.kp, D_pieces_without.bindsN fun _ _ _ _ _ _ us hl => match us, hl with | [_, _], _ => rfl⟩
    have c_leading_out : CalX P_k02 w K mg base 1 "_leading_out" spLeading := ⟨_, _, _, ok_leading TLN D_leading_out, g (by decide +kernel), D_leading_out.kp, D_leading_out.bindsN fun _ _ _ _ _ _ us hl => match us, hl with | [_, _], _ => rfl⟩
    have c_parting : CalX P_k02 w K mg base 5 "parting" (spParting (gA K "Town")) := ⟨_, _, _, ok_parting D_parting c_parting_rows, g (by decide +kernel), D_parting.kp, D_parting.bindsN fun _ _ _ _ _ _ us hl => match us, hl with | [_], _ => rfl⟩
    have c_pieces : CalX P_k02 w K mg base 5 "pieces" (spPieces (gA K "Town")) := ⟨_, _, _, ok_pieces D_pieces c_parting_rows c_pieces_without, g (by decide +kernel), D_pieces.kp, D_pieces.bindsN fun _ _ _ _ _ _ us hl => match us, hl with | [_], _ => rfl⟩
    have c_ends : CalX P_k02 w K mg base 5 "ends" (spEndsT (gA K "Town")) := ⟨_, _, _, ok_endsT TLN D_ends c_parting_rows c_pieces_without c_leading_out, g (by decide +kernel), D_ends.kp, D_ends.bindsN fun _ _ _ _ _ _ us hl => match us, hl with | [_], _ => rfl⟩
    have c_parts : CalX P_k02 w K mg base 4 "parts" (spPartsT (gA K "Town")) := ⟨_, _, _, ok_parts D_parts c_parts_along c_places c_streets, g (by decide +kernel), D_parts.kp, D_parts.bindsN fun _ _ _ _ _ _ us hl => match us, hl with | [_], _ => rfl⟩
    have c_in_depth : CalX P_k02 w K mg base 1 "_in_depth" spDepth := ⟨_, _, _, ok_in_depth D_in_depth, g (by decide +kernel), D_in_depth.kp, D_in_depth.bindsN fun _ _ _ _ _ _ us hl => match us, hl with | [_, _], _ => rfl⟩
    have c_fewest : CalX P_k02 w K mg base 6 "fewest" (spFewest (gA K "Town")) := ⟨_, _, _, ok_fewest TFE D_fewest c_both_ways c_ends c_parts c_in_depth c_streets, g (by decide +kernel), D_fewest.kp, D_fewest.bindsN fun _ _ _ _ _ _ us hl => match us, hl with | [_], _ => rfl⟩
    have c_row_from : CalX P_k02 w K mg base 2 "_row_from" spRowFrom := ⟨_, _, _, ok_row_from D_row_from c_walks_from, g (by decide +kernel), D_row_from.kp, D_row_from.bindsN fun _ _ _ _ _ _ us hl => match us, hl with | [_, _], _ => rfl⟩
    have c_rows_of : CalX P_k02 w K mg base 3 "_rows_of" spRowsOf := ⟨_, _, _, ok_rows_of D_rows_of c_row_from, g (by decide +kernel), D_rows_of.kp, D_rows_of.bindsN fun _ _ _ _ _ _ us hl => match us, hl with | [_, _], _ => rfl⟩
    have c_handles : CalX P_k02 w K mg base 6 "handles" (spHandles (gA K "Town")) := ⟨_, _, _, ok_handles D_handles c_parting c_pieces c_both_ways c_rows_of c_streets, g (by decide +kernel), D_handles.kp, D_handles.bindsN fun _ _ _ _ _ _ us hl => match us, hl with | [_], _ => rfl⟩
    have c_one_way : CalX P_k02 w K mg base 8 "one_way" (spOneWay fW K (gA K "Town")) := ⟨_, _, _, ok_one_way TOW D_one_way c_parting c_parts c_handles c_Parted, g (by decide +kernel), D_one_way.kp, D_one_way.bindsN fun _ _ _ _ _ _ us hl => match us, hl with | [_], _ => rfl⟩
    have c_law_mixed : CalX P_k02 w K mg base 1 "_law_mixed" spMixed := ⟨_, _, _, ok_mixed D_law_mixed, g (by decide +kernel), D_law_mixed.kp, D_law_mixed.bindsN fun _ _ _ _ _ _ us hl => match us, hl with | [_, _], _ => rfl⟩
    have c_law_seed : CalX P_k02 w K mg base 2 "_law_seed" (spSeed K) := ⟨_, _, _, ok_seed TL D_law_seed c_law_mixed, g (by decide +kernel), D_law_seed.kp, D_law_seed.bindsN fun _ _ _ _ _ _ us hl => match us, hl with | [_], _ => rfl⟩
    have c_law_ends : CalX P_k02 w K mg base 1 "_law_ends" spEnds := ⟨_, _, _, ok_ends TL D_law_ends, g (by decide +kernel), D_law_ends.kp, D_law_ends.bindsN fun _ _ _ _ _ _ us hl => match us, hl with | [_, _, _, _], _ => rfl⟩
    have c_law_pairs : CalX P_k02 w K mg base 4 "_law_pairs" (spPairs K) := ⟨_, _, _, (ok_pairs TL D_law_pairs c_law_mixed c_law_ends).mono (by decide), g (by decide +kernel), D_law_pairs.kp, D_law_pairs.bindsN fun _ _ _ _ _ _ us hl => match us, hl with | [_, _, _, _], _ => rfl⟩
    have c_law_many : CalX P_k02 w K mg base 2 "_law_many" spMany := ⟨_, _, _, ok_many TL D_law_many c_law_mixed, g (by decide +kernel), D_law_many.kp, D_law_many.bindsN fun _ _ _ _ _ _ us hl => match us, hl with | [_, _], _ => rfl⟩
    have c_law_made : CalX P_k02 w K mg base 4 "_law_made" (spMade (gA K "Town")) := ⟨_, _, _, ok_made TL D_law_made c_law_mixed c_Town c_build c_dig, g (by decide +kernel), D_law_made.kp, D_law_made.bindsN fun _ _ _ _ _ _ us hl => match us, hl with | [_, _, _], _ => rfl⟩
    have c_law_parts : CalX P_k02 w K mg base 1 "_law_parts" spLawParts := ⟨_, _, _, ok_law_parts TM D_law_parts, g (by decide +kernel), D_law_parts.kp, D_law_parts.bindsN fun _ _ _ _ _ _ us hl => match us, hl with | [_, _], _ => rfl⟩
    have c_law_gone : CalX P_k02 w K mg base 2 "_law_gone" spGone := ⟨_, _, _, ok_gone TM D_law_gone c_law_parts, g (by decide +kernel), D_law_gone.kp, D_law_gone.bindsN fun _ _ _ _ _ _ us hl => match us, hl with | [_, _], _ => rfl⟩
    have c_law_led : CalX P_k02 w K mg base 1 "_law_led" spLed := ⟨_, _, _, ok_led TG D_law_led, g (by decide +kernel), D_law_led.kp, D_law_led.bindsN fun _ _ _ _ _ _ us hl => match us, hl with | [_, _], _ => rfl⟩
    have c_law_good : CalX P_k02 w K mg base 2 "_law_good" spGood := ⟨_, _, _, ok_good TM D_law_good c_law_led, g (by decide +kernel), D_law_good.kp, D_law_good.bindsN fun _ _ _ _ _ _ us hl => match us, hl with | [_, _, _], _ => rfl⟩
    have c_law_wants : CalX P_k02 w K mg base 3 "_law_wants" spWants := ⟨_, _, _, ok_wants TM D_law_wants c_law_gone c_law_parts, g (by decide +kernel), D_law_wants.kp, D_law_wants.bindsN fun _ _ _ _ _ _ us hl => match us, hl with | [_, _], _ => rfl⟩
    exact ok_law (T_ := TT_ K) T2 D_law c_law_seed c_law_many c_law_pairs c_law_made c_law_wants c_ends c_fewest c_law_parts c_law_gone c_law_good c_one_way c_streets c_build
end
end K02

set_option Elab.async false
set_option linter.all false
set_option maxRecDepth 100000
set_option maxHeartbeats 4000000
namespace K02
open PySem PySem.Spec PyProof.Rows L2 Own
end K02
open PySem PySem.W PySem.Calls PyProof.Rows
theorem PySem.Challenge.cw_onewaytown_k02_whole_fewest_streets_holds : PySem.Challenge.rw_onewaytown_k02_whole_fewest_streets.Holds := by
  w_on; o_law
  refine HandSHeadRun.head_any (r := OpenLaw.row PySem.Challenge.rw_onewaytown_k02_whole_fewest_streets) (q := view (OpenLaw.row PySem.Challenge.rw_onewaytown_k02_whole_fewest_streets).prog [49]) (H := K02.hk) (ob := K02.ob) (M := 6000) (loose := K02.looseNames) (d := HandSHeadRun.topDef (OpenLaw.row PySem.Challenge.rw_onewaytown_k02_whole_fewest_streets).prog 49) (kwd := []) K02.ob_eq
    (by kernel_rfl) (fun s => by kernel_rfl) K02.run (by kernel_rfl) (by kernel_rfl) (by kernel_rfl) (by rfl) (by first | assumption | decide +kernel) (by decide +kernel) ⟨rfl, rfl, rfl, rfl, rfl, by decide +kernel⟩ ?hw ?hc
  case hw => w_witness2
  case hc =>
    refine LamX.walk_ofTsE (l := PySem.Challenge.rw_onewaytown_k02_whole_fewest_streets) (n := 63) (k := 12) (x := "_law_script") (CX := fun w => L2.CX K02.P_k02 w) rfl (by decide) (by kernel_rfl) ⟨rfl, by decide, by decide⟩ ?F (fun w H s e s' z => by
      obtain ⟨_, _, _, _, _, _, _, _, _, _, _, _, q⟩ := z
      exact q)
    intro w mg fa h Y G hmg0
    obtain ⟨K, KX, c⟩ := Y
    have hmg : mg ("law" : PySem.Str) = some (.ref fa) := by
      have e : (HandSHeadRun.topDef (OpenLaw.row PySem.Challenge.rw_onewaytown_k02_whole_fewest_streets).prog 49).name = ("law" : PySem.Str) := by kernel_rfl
      rw [← e]
      exact hmg0
    exact ⟨K, KX, K02.law_at KX G hmg c⟩

