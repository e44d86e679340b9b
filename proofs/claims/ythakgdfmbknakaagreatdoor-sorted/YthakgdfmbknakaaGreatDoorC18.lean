import Derived.Test.YthakgdfmbknakaaGreatDoorC17
import Derived.Test.YthakgdfmbknakaaGreatDoorCards
import Derived.Test.YthakgdfmbknakaaGreatDoorTie
import Derived.ProofKit
import Derived.OpenShut
import Derived.ShutString
import Derived.ChangeOld
import Derived.Lay
import Derived.SevenTiedAt
import Derived.Stop.Joined
/-
  Proved: whatever input kilnkeep.Sorted is called with, it returns true, and the input reads as it did; the row's list is tied to the program's text (the card). Conditions: none beyond the row's own.
  The other texts are struck of remarks and blanks by program, so that the claim keeps to its size.
-/
set_option linter.all false
set_option maxHeartbeats 40000000
set_option maxRecDepth 100000
open Go.Proofs.Tryz
open List (append_nil)
namespace Go.Proofs.YthakgdfmbknakaaGreatDoor.sortedP
open Go.ChangeShapes Go.WideShapes Go.ChangeAt Go.RowKit
open Go.ChangeMaps (open_string shut_string)
def own:ownKnob prog.godebug=none:=by kernel_rfl
def door_met(os:Os)(args:Array Value):laidMetH prog Rows.sortedRow.laid ((World.laidAll prog os Rows.sortedRow.laid).forCall (fun _ _=>0) ⟨#[],args,[]⟩).memory:=by
 rw[MakeChecks.laidMetH_plain _ _ _ (by kernel_rfl)];exact laidMet_laidAll _ (by kernel_rfl) (by kernel_rfl)
def lifted(os:Os)(started:os.Started)(H:Type)(enc:TypeId×Value->H) :
  ReturnsInHanded {} Tryz.checked os 3 .any (fun w args=>(Rows.sortedSpec.pre enc prog f3 Rows.sortedRow.domain false w args/\laidMetH prog Rows.sortedRow.laid w)/\sizedMet enc prog f3 (OpenSpec.ofChange Rows.sortedSpec) false w args)
   (Rows.sortedSpec.post enc prog f3 false true false false):=by
 refine returnsInHanded_of_change_and (C:=Tryz.checked) (X:=fun w _=>laidMetH prog Rows.sortedRow.laid w) (fun _ _ _ hh h=>h.of_heap hh) own started (by kernel_rfl) func3
  (ChangeSpec.witness_shaped (enc:=enc) (C:=Tryz.checked) (os:=os) (X:=fun w _=>laidMetH prog Rows.sortedRow.laid w) false (World.laidAll prog os Rows.sortedRow.laid) #[.string ByteArray.empty] 8 (World.laidAll_os _ _ _)
   (World.shaped_of_ZipB (by kernel_rfl) (by kernel_rfl)) (by kernel_rfl) (by kernel_rfl) (by kernel_rfl) (door_met os _)) ?_
 intro W base args ds gs before Zy hW hc _ hL _;have Ys:∀(j:Nat) t v,f3.params[j]?=some t->args[j]?=some v->Value.okWide prog W .any base t v:=Zy;have hW':=hW;obtain⟨p,q,hA0,hV,rfl,hfz,Ul⟩:=hW;have hA:DataW.TrodAll enc prog W 0 (fun _=>true) true f3.params.toList args.toList ds p:=hA0;rw[params3]at hA Ys;obtain⟨v0,vs0,d0,ds0,p0,q0,hargs,rfl,rfl,h0,r0⟩:=trodAll_cons hA;obtain⟨rfl,rfl,rfl⟩:=trodAll_nil r0;obtain rfl:args=#[v0]:=by cases args;simp_all
 obtain⟨rfl,rfl⟩:=trodVars_none hV;obtain⟨a0,rfl,rfl,rfl,w0⟩:=open_string underlying9 (Ys 0 9 v0 rfl rfl) h0;clear hA0 Zy;simp only[append_nil]at hW';refine(FR a0 w0 W).mono fun e W' ⟨he,bel⟩=>?_;subst he;exact⟨_,rfl,_,_,_,[],_,[],hW',trodAll_mk1 (shut_bool underlying4 _),(trodAll_cons_mk (shut_string underlying9 w0) trodAll_mk0),rfl,bel.frame _,fun h=>by cases h⟩
def named:prog.funcNamed Rows.sortedRow.func=some 3:=by kernel_rfl
def closed:joinedFacts prog 3 f3 Rows.sortedSpec Rows.sortedRow=true:=by
 unfold joinedFacts;simp only[Bool.and_eq_true]
 repeat' apply And.intro
 all_goals (as_aux_lemma=>kernel_rfl)
def over:Rows.SortedSaid:=
 OpenClaim.holds_of_wide 3 f3 rfl rfl rfl rfl rfl rfl rfl ⟨rfl,rfl,rfl,rfl,rfl⟩ rfl rfl rfl rfl rfl named func3 closed
  (of_decide_eq_true (by as_aux_lemma=>kernel_rfl)) (by unfold Func.isWrapper;first|(rw[if_pos (by decide +kernel)];kernel_rfl)|(rw[if_neg (by decide +kernel)];exact⟨rfl,rfl⟩))
  (fun os started H enc _=>lifted os started H enc)
def plain(f:FuncId)(fn:Func)(hf:Tryz.pinned.checked.prog.funcNamed Rows.sortedRow.func=some f)(Vy:Tryz.pinned.checked.prog.funcs[f]?=some fn) :
  true=Tryz.pinned.checked.prog.looks []/\∀(j:Nat) t,fn.params[j]?=some t->Tryz.pinned.checked.prog.wantsStandIn t=false:=by
 obtain rfl:f=3:=Option.some.inj ((show prog.funcNamed Rows.sortedRow.func=some 3 by kernel_rfl).symm.trans hf) |>.symm;obtain rfl:fn=f3:=(Option.some.inj (func3.symm.trans Vy)).symm;refine⟨by as_aux_lemma=>kernel_rfl,fun j t ht=>?_⟩;rw[params3]at ht;obtain rfl:t=9:=by simpa using Array.mem_of_getElem? ht
 exact(show prog.wantsStandIn 9=false by kernel_rfl)
end Go.Proofs.YthakgdfmbknakaaGreatDoor.sortedP
namespace Go.Proofs.YthakgdfmbknakaaGreatDoor
theorem sorted_holds:Rows.SortedCardSaid:=
 Claim7.holds_tied_plain_at .later [] _ _ _ _ sortedP.over (fun _ h=>by cases h) (by as_aux_lemma=>kernel_rfl) (fun _ h=>by cases h) sorted_row_tie rfl ⟨rfl,rfl⟩ (by as_aux_lemma=>kernel_rfl) rfl sortedP.plain (by as_aux_lemma=>kernel_rfl)
#print axioms sorted_holds
end Go.Proofs.YthakgdfmbknakaaGreatDoor
