import Derived.Test.YtbkiipiocpnnnaaGreatDoorC41
set_option linter.all false
set_option maxHeartbeats 40000000
set_option maxRecDepth 100000
open Go.Proofs.Tryz
open Or (inl inr)
open Nat (le_refl le_trans lt_of_lt_of_le lt_succ_self)
open List (length_append length_cons mem_cons_self mem_cons_of_mem mem_append mem_singleton cons_append length_nil nil_append)
namespace Go.Proofs.YtbkiipiocpnnnaaGreatDoor
section
theorem digits_len:∀(f n:Nat),(digitsOf f n).length<=f:=by
 intro f
 induction f with
 |zero=>intro n;exact le_refl _
 |succ f ih=>
  intro n
  rw[digitsOf]
  split
  ·simp
  ·have:=ih (n / 10);rw[length_append];simp;omega
theorem letterText_len(n:Nat):(letterText n).length<=22:=by
 unfold letterText
 split
 ·simp
 ·have:=digits_len 20 (n / 26);simp only[length_cons];omega
theorem brackets_len(b:Bool)(s:Nm):(brackets b s).length<=s.length+2:=by
 unfold brackets
 split
 ·simp
 ·omega
section
variable {σ:TS}{M:Nat}
theorem wkL_len{n K:Nat}(ih:∀{acc acc':List Nat}{i:Nat}{ls:List Nat}{s:Nm}{ls':List Nat},i<σ.nodes.length->acc.length<=maxSize->wk σ fitsT n acc i=some (acc',true)->acc.length+1<=acc'.length/\acc'.length<=maxSize/\(wr σ n ls i=some (s,ls')->s.length+3+acc.length*K<=acc'.length*K)) :
  ∀(ps:List Nat) {acc acc':List Nat}{ls:List Nat}{s:Nm}{ls':List Nat},(∀p∈ps,p<σ.nodes.length)->acc.length<=maxSize->wk.wkL (wk σ fitsT n) acc ps=some (acc',true)->acc.length+ps.length<=acc'.length/\acc'.length<=maxSize/\(wr.wrL σ (wr σ n) ls ps=some (s,ls')->s.length+acc.length*K<=acc'.length*K):=by
 intro ps
 induction ps with
 |nil=>
  intro acc acc' ls s ls' _ hm h
  rw[wk.wkL]at h
  cases h
  refine⟨le_refl _,hm,fun hs=>?_⟩
  rw[wr.wrL]at hs
  cases hs
  simp
 |cons p r ihr=>
  intro acc acc' ls s ls' hp hm hw
  rw[wk.wkL]at hw
  cases hg:wk σ fitsT n acc p with
  |none=>rw[hg]at hw;cases hw
  |some y=>
   obtain⟨a1,b1⟩:=y
   rw[hg]at hw
   cases b1 with
   |false=>cases hw
   |true=>
    obtain⟨h1,h2,_⟩:=ih (ls:=ls) (s:=s) (ls':=ls') (hp p (mem_cons_self ..)) hm hg
    obtain⟨h4,h5,_⟩:=ihr (ls:=ls) (s:=s) (ls':=ls') (fun q hq=>hp q (mem_cons_of_mem _ hq)) h2 hw
    refine⟨by rw[length_cons];omega,h5,fun hs=>?_⟩
    rw[wr.wrL]at hs
    cases hx:wr σ n ls p with
    |none=>rw[hx]at hs;cases hs
    |some y=>
     obtain⟨s1,ls1⟩:=y
     rw[hx]at hs
     simp only at hs
     cases hy:wr.wrL σ (wr σ n) ls1 r with
     |none=>rw[hy]at hs;cases hs
     |some z=>
      obtain⟨s2,ls2⟩:=z
      rw[hy]at hs
      cases hs
      have e1:=(ih (hp p (mem_cons_self ..)) hm hg).2.2 hx
      have e2:=(ihr (fun q hq=>hp q (mem_cons_of_mem _ hq)) h2 hw).2.2 hy
      have e3:=brackets_len (decide (0<(σ.node (σ.root p)).parts.length)) s1
      simp only[length_cons,length_append,cons_append]
      omega
theorem wr_len(hok:σ.Rg)(hM:∀j,j<σ.nodes.length->(σ.node j).name.length<=M\/maxSize<(σ.node j).parts.length) :
  ∀{n:Nat}{acc acc':List Nat}{i:Nat}{ls:List Nat}{s:Nm}{ls':List Nat},i<σ.nodes.length->acc.length<=maxSize->wk σ fitsT n acc i=some (acc',true)->acc.length+1<=acc'.length/\acc'.length<=maxSize/\(wr σ n ls i=some (s,ls')->s.length+3+acc.length*(M+40)<=acc'.length*(M+40)):=by
 intro n
 induction n with
 |zero=>intro acc acc' i ls s ls' _ _ h;cases h
 |succ n ih=>
  intro acc acc' i ls s ls' hi hm hw
  have hr:=hok.root_lt hi
  rw[wk]at hw
  split at hw
  ·rename_i hT
   have hT:acc.length+1<=maxSize:=by simpa [fitsT]using hT
   have hpl:∀p∈(σ.node (σ.root i)).parts,p<σ.nodes.length:=fun p hp=>hok.part_lt hr hp
   have hml:(acc++[σ.root i]).length<=maxSize:=by rw[length_append];exact hT
   obtain⟨h1,h2,_⟩:=wkL_len (K:=M+40) (fun {acc acc' i ls s ls'} a b c=>ih a b c) (ls:=ls) (s:=s) (ls':=ls') _ hpl hml hw
   have h1':acc.length+1+(σ.node (σ.root i)).parts.length<=acc'.length:=by rw[length_append]at h1;exact h1
   refine⟨by omega,h2,fun hs=>?_⟩
   have hk:(acc++[σ.root i]).length*(M+40)=acc.length*(M+40)+(M+40):=by rw[length_append,List.length_singleton,Nat.add_mul,Nat.one_mul]
   rw[wr]at hs
   by_cases hl:σ.isLetter (σ.root i)=true
   ·rw[if_pos hl]at hs
    have hmono:(acc++[σ.root i]).length*(M+40)<=acc'.length*(M+40):=Nat.mul_le_mul_right _ (by omega)
    split at hs<;>cases hs
    ·have:=letterText_len ‹_›;omega
    ·have:=letterText_len ls.length;omega
   ·rw[if_neg hl]at hs
    by_cases ha:(σ.node (σ.root i)).name=arrowN
    ·rw[if_pos ha]at hs
     match hps:(σ.node (σ.root i)).parts,hs with
     |a::b::r,hs=>
      rw[hps]at hw hpl
      simp only at hs
      cases hx:wr σ n ls a with
      |none=>rw[hx]at hs;cases hs
      |some y=>
       obtain⟨s1,ls1⟩:=y
       rw[hx]at hs
       simp only at hs
       cases hy:wr σ n ls1 b with
       |none=>rw[hy]at hs;cases hs
       |some z=>
        obtain⟨s2,ls2⟩:=z
        rw[hy]at hs
        cases hs
        rw[wk.wkL]at hw
        cases hg:wk σ fitsT n (acc++[σ.root i]) a with
        |none=>rw[hg]at hw;cases hw
        |some y=>
         obtain⟨a1,b1⟩:=y
         rw[hg]at hw
         cases b1 with
         |false=>cases hw
         |true=>
          simp only at hw
          rw[wk.wkL]at hw
          cases hg2:wk σ fitsT n a1 b with
          |none=>rw[hg2]at hw;cases hw
          |some y=>
           obtain⟨a2,b2⟩:=y
           rw[hg2]at hw
           cases b2 with
           |false=>cases hw
           |true=>
            simp only at hw
            have q1:=ih (ls:=ls) (s:=s1) (ls':=ls1) (hpl a (mem_cons_self ..)) hml hg
            have q2:=ih (ls:=ls1) (s:=s2) (ls':=ls1) (hpl b (mem_cons_of_mem _ (mem_cons_self ..))) q1.2.1 hg2
            have q3:=wkL_len (K:=M+40) (fun {acc acc' i ls s ls'} a b c=>ih a b c) (ls:=ls) (s:=s1) (ls':=ls') r (fun p hp=>hpl p (mem_cons_of_mem _ (mem_cons_of_mem _ hp))) q2.2.1 hw
            have e1:=q1.2.2 hx
            have e2:=(ih (hpl b (mem_cons_of_mem _ (mem_cons_self ..))) q1.2.1 hg2).2.2 hy
            have e3:a2.length*(M+40)<=acc'.length*(M+40):=Nat.mul_le_mul_right _ (by omega)
            have e4:=brackets_len ((σ.node (σ.root a)).name==arrowN) s1
            simp only[length_append,length_cons,length_nil]
            rw[length_append,List.length_singleton]at hk e1
            omega
    ·rw[if_neg ha]at hs
     cases hx:wr.wrL σ (wr σ n) ls (σ.node (σ.root i)).parts with
     |none=>rw[hx]at hs;cases hs
     |some y=>
      obtain⟨s1,ls1⟩:=y
      rw[hx]at hs
      cases hs
      have e1:=(wkL_len (K:=M+40) (fun {acc acc' i ls s ls'} a b c=>ih a b c) _ hpl hml hw).2.2 hx
      have e2:(σ.node (σ.root i)).name.length<=M:=by
       rcases hM _ hr with h|h
       ·exact h
       ·omega
      rw[length_append]
      omega
  ·cases hw
theorem text_len(hok:σ.Rg)(hM:∀j,j<σ.nodes.length->(σ.node j).name.length<=M\/maxSize<(σ.node j).parts.length){i:Nat}(hi:i<σ.nodes.length)(hf:σ.fits i=true){s:Nm}{ls:List Nat}(h:wr σ wkFuel [] i=some (s,ls)):s.length<=200*(M+40):=by
 obtain⟨a,ha⟩:=σ.fits_wk i
 rw[hf]at ha
 obtain⟨h1,h2,h3⟩:=wr_len hok hM (ls:=[]) (s:=s) (ls':=ls) hi (by decide) ha
 have e1:=h3 h
 have e2:a.length*(M+40)<=200*(M+40):=Nat.mul_le_mul_right _ h2
 omega
end
end
section
open Go.RowKit
abbrev tyNM:TypeId:=52
theorem under_nm:prog.underlying tyNM=some (.map tyTypeP 3):=by kernel_rfl
theorem nm_zero(w:World):(zeroValue 3).run prog w=.ok (.int .i64 0) w:=by
 have h:(prog.info? 3).map (fun i=>i.zero)=some (some (.int .i64 0)):=by kernel_rfl
 cases hi:prog.info? 3 with
 |none=>rw[hi]at h;cases h
 |some j=>
  rw[hi]at h
  have hz:j.zero=some (.int .i64 0):=by simpa using h
  simp[zeroValue,typeInfo,hi,hz,Result.andThen]
def NMf(ad:List Nat)(ls:List Nat)(f:Nat->Option Value):Prop:=
 (∀i,i<ad.length->f (adA ad i)=(ls.idxOf? i).map fun k=>.int .i64 (k:Nat))/\(∀b,(f b).isSome=true->b∈ad)/\∀p∈ls,p<ad.length
theorem cell_set2(w:World)(b k o:Nat)(v:Value)(ho:o≠2):(w.setCell ⟨b,2,none⟩ v).cell? ⟨k,o,none⟩=w.cell? ⟨k,o,none⟩:=by
 simp only[World.cell?,World.setCell,Array.getElem?_modify]
 by_cases h:b=k
 ·subst h
  simp only[if_true]
  cases hb:w.heap[b]? with
  |none=>simp
  |some x=>
   cases x<;>simp[Array.getElem?_setIfInBounds_ne (Ne.symm ho)]
 ·simp[h]
def AnsRoot2(ar:Nm->Nat)(ad:List Nat)(X:Nat->Prop)(rk:Nat->Nat)(σ:TS)(i:Nat)(w:World)(e:Ending)(w':World):Prop:=
 AnsRoot ar ad X rk σ i w e w'/\∀k o,o≠2->w'.cell? ⟨k,o,none⟩=w.cell? ⟨k,o,none⟩
section
variable {ar:Nm->Nat}{ad:List Nat}{X:Nat->Prop}{rk:Nat->Nat}{σ:TS}{w w':World}{i:Nat}
theorem root2_any:∀(n:Nat)(i:Nat)(w:World),rk i<n->StoM ar ad X rk σ w->i<σ.nodes.length->Calls prog 33 #[adV ad i] w (AnsRoot2 ar ad X rk σ i w):=by
 intro n
 induction n with
 |zero=>intro i w hn;omega
 |succ n ih=>
  intro i w hn h hi
  obtain⟨pv,fv,h1,h2,h3,h4,h5,h6,h7,h8⟩:=h.cell hi
  rcases h8 with⟨hr,rfl⟩|⟨hr,j,hj,rfl,hjr,hrk⟩
  ·have hq:AnsRoot2 ar ad X rk σ i w (.returned (adV ad i)) w:=⟨⟨by rw[hr],h,Kn.refl _ _,rfl⟩,fun _ _ _=>rfl⟩
   have HQ:=hide hq
   clear hq h h1 h2 h4 h5 h6 h7 ih
   unfold adV ptrV at *
   generalize AnsRoot2 ar ad X rk σ i w=Q at *
   generalize adA ad i=b at *
   go_enter func33,ntmps33
   go_wp2
   exact HQ.out
  ·have hc:=ih j w (by omega) h hj
   have hmem:adA ad i∈ad:=adA_mem (by rw[h.len];exact hi)
   have hq:∀e w1,AnsRoot2 ar ad X rk σ j w e w1->e=.returned (adV ad (σ.root i))/\w1.frozen? ⟨adA ad i,2,none⟩=false/\(w1.cell? ⟨adA ad i,2,none⟩).isSome=true/\AnsRoot2 ar ad X rk σ i w (.returned (adV ad (σ.root i))) (w1.setCell ⟨adA ad i,2,none⟩ (adV ad (σ.root i))):=by
    rintro e w1⟨⟨a1,a2,a3,a4⟩,a5⟩
    obtain⟨_,fv2,_,_,c3,_,c5,_⟩:=a2.cell hi
    refine⟨by rw[a1,hjr],c5,by rw[c3];rfl,⟨rfl,a2.shorten hi hr,a3.set (inl hmem) _,by simp[a4]⟩,fun k o ho=>by rw[cell_set2 _ _ _ _ _ ho,a5 k o ho]⟩
   have HC:=hide hc
   have HQ:=hide hq
   clear hq hc h h1 h2 h4 h6 h7 ih hmem
   unfold adV ptrV at *
   generalize AnsRoot2 ar ad X rk σ i w=Q at *
   generalize AnsRoot2 ar ad X rk σ j w=Q1 at *
   generalize adA ad i=b at *
   generalize adA ad j=b1 at *
   generalize adA ad (σ.root i)=b2 at *
   go_enter func33,ntmps33
   go_wp2_with fail
   refine(HC.out).mono ?_;intro e w1 ha
   obtain⟨rfl,hf,hs,hq⟩:=HQ.out e w1 ha
   have HF:=hide hq
   clear ha hq HQ HC
   obtain⟨old,hold⟩:=Option.isSome_iff_exists.1 hs
   go_wp2
   exact HF.out
end
structure Ws(ar:Nm->Nat)(ad:List Nat)(X:Nat->Prop)(rk:Nat->Nat)(σ:TS)(w0:World)(b mb:Nat)(l:Nm)(ls:List Nat)(w:World):Prop where
 kn:Kn (·∈ad) w0 w
 st:StoM ar ad X rk σ w
 bd:IsWr w0.heap.size b mb (Lib.byteCells l) w
 mp:∃f,MapHas (fun _:Nat=>True) ptrK w mb ls.length f/\NMf ad ls f
 lo:w0.heap.size<=mb
 s0:StoM ar ad X rk σ w0
 k2:∀k∈ad,∀o,o≠2->w.cell? ⟨k,o,none⟩=w0.cell? ⟨k,o,none⟩
section
variable {ar:Nm->Nat}{ad:List Nat}{X:Nat->Prop}{rk:Nat->Nat}{σ:TS}{w0 w w':World}{b mb:Nat}{l:Nm}{ls:List Nat}
theorem IsWr.block{B:Nat}{x:List Value}(h:IsWr B b mb x w):B<=b/\∃c,w.heap[b]?=some (.cells c tyWriter (0,0)):=by
 rcases h with⟨hB,v,hb,_⟩|⟨hB,v,hb,_⟩<;>exact⟨hB,_,hb⟩
theorem IsWr.kept{B:Nat}{x:List Value}(h:IsWr B b mb x w)(h1:∀(k:Nat)(c:Array Value)(f:Nat×Nat),w.heap[k]?=some (.cells c tyWriter f)->w'.heap[k]?=w.heap[k]?)(h2:∀(k:Nat)(c:Array Value)(f:Nat×Nat),w.heap[k]?=some (.cells c tyByte f)->w'.heap[k]?=w.heap[k]?):IsWr B b mb x w':=by
 have hrow:∀(v:Value)(n:Nat)(xs:List Value),w.ownsRow B tyByte 1 v n xs->w'.ownsRow B tyByte 1 v n xs:=by
  rintro v n xs⟨hn,hr⟩
  refine⟨hn,?_⟩
  rcases hr with hr|⟨g,cap,cur,q1,q2,q3,q4⟩
  ·exact inl hr
  ·exact inr ⟨g,cap,cur,q1,q2,by rw[h2 _ _ _ q3];exact q3,q4⟩
 rcases h with⟨hB,v,hb,ho,hne⟩|⟨hB,v,hb,ho,hne⟩
 ·exact inl ⟨hB,v,by rw[h1 _ _ _ hb];exact hb,hrow _ _ _ ho,hne⟩
 ·exact inr ⟨hB,v,by rw[h1 _ _ _ hb];exact hb,hrow _ _ _ ho,hne⟩
theorem StoM.fw{B:Nat}(h:StoM ar ad X rk σ w)(hf:Fw B b w w')(hb:∃c f,w.heap[b]?=some (.cells c tyWriter f)):StoM ar ad X rk σ w':=by
 obtain⟨cb,fb,hb⟩:=hb
 have hty:∀(k:Nat)(c:Array Value)(t:TypeId)(f:Nat×Nat),t≠tyWriter->t≠tyByte->w.heap[k]?=some (.cells c t f)->w'.heap[k]?=w.heap[k]?:=fun k c t f h1 h2 hk=>by
  refine hf.block k (lt_of_heap hk) (fun e=>?_) (inr fun c' f' e=>?_)
  ·subst e;rw[hb]at hk;exact h1 (cells_ty hk).symm
  ·rw[hk]at e;exact h2 (cells_ty e)
 exact h.kept (fun k hk=>by
  obtain⟨c,f,e⟩:=h.isT hk
  exact hty k c _ f (by decide) (by decide) e) (fun k c f _ e=>hty k c _ f (by decide) (by decide) e)
theorem Kn.fw(h:Kn (·∈ad) w0 w)(hf:Fw w0.heap.size b w w')(hb:w0.heap.size<=b):Kn (·∈ad) w0 w':=
 ⟨hf.os.trans h.os,hf.tape.trans h.tape,hf.output.trans h.output,le_trans h.size hf.size,fun k hk hka=>by
  rw[<- h.block k hk hka]
  exact hf.block k (lt_of_lt_of_le hk h.size) (by omega) (inl hk)⟩
theorem Ws.wrote{l':Nm}(h:Ws ar ad X rk σ w0 b mb l ls w)(hf:Fw w0.heap.size b w w')(hw:WriterAt w0.heap.size b (.pointer (some ⟨b,0,none⟩)) mb (Lib.byteCells l') w'):Ws ar ad X rk σ w0 b mb l' ls w':=by
 obtain⟨hB,c,hb⟩:=h.bd.block
 obtain⟨f,h1,h2⟩:=h.mp
 have hmb:w'.heap[mb]?=w.heap[mb]?:=by
  obtain⟨es,clock,hm,_⟩:=h1
  refine hf.block mb (lt_of_heap hm) (fun e=>?_) (inr fun c f e=>?_)
  ·subst e;rw[hm]at hb;cases hb
  ·rw[hm]at e;cases e
 have hst:=h.st.fw hf ⟨_,_,hb⟩
 refine⟨h.kn.fw hf hB,hst,inr hw,⟨f,h1.kept hmb,h2⟩,h.lo,h.s0,fun k hk o ho=>?_⟩
 rw[<- h.k2 k hk o ho]
 obtain⟨c,f',hc⟩:=h.st.isT hk
 have:w'.heap[k]?=w.heap[k]?:=hf.block k (lt_of_heap hc) (fun e=>by subst e;rw[hc]at hb;cases hb) (inr fun c2 f2 e=>by rw[hc]at e;cases e)
 simp[World.cell?,this]
theorem Ws.rooted(h:Ws ar ad X rk σ w0 b mb l ls w)(hs:StoM ar ad X rk σ w')(hk:Kn (·∈ad) w w')(h2c:∀k o,o≠2->w'.cell? ⟨k,o,none⟩=w.cell? ⟨k,o,none⟩):Ws ar ad X rk σ w0 b mb l ls w':=by
 obtain⟨f,h1,h2⟩:=h.mp
 have hno:∀(k:Nat)(o:Obj),w.heap[k]?=some o->(∀c f,o≠.cells c tyType f)->w'.heap[k]?=w.heap[k]?:=fun k o hk2 ho=>hk.block k (lt_of_heap hk2) (h.st.not_mem hk2 ho)
 refine⟨h.kn.trans hk,hs,h.bd.kept (fun k c f e=>hno k _ e (fun c' f' e2=>?_)) (fun k c f e=>hno k _ e (fun c' f' e2=>?_)),⟨f,h1.kept ?_,h2⟩,h.lo,h.s0,fun k hk o ho=>by rw[h2c k o ho];exact h.k2 k hk o ho⟩
 ·cases e2
 ·cases e2
 ·obtain⟨es,clock,hm,_⟩:=h1
  exact hno mb _ hm (fun c' f' e2=>by cases e2)
theorem WriterAt.cell2{B:Nat}{p:Value}{x:List Value}(h:WriterAt B b p mb x w):w.cell? ⟨b,2,none⟩=some (.map (some mb)):=by
 obtain⟨_,v,hb,_⟩:=h
 simp[World.cell?,hb]
theorem IsWr.cell2{B:Nat}{x:List Value}(h:IsWr B b mb x w):w.cell? ⟨b,2,none⟩=some (.map (some mb)):=by
 rcases h with h|h<;>exact h.cell2
def numOf(ls:List Nat)(r:Nat):Nat×List Nat:=match ls.idxOf? r with|some k=>(k,ls)|none=>(ls.length,ls++[r])
theorem idx_snoc(ls:List Nat)(r i:Nat):(ls++[r]).idxOf? i=(ls.idxOf? i).or (if i=r then some ls.length else none):=by
 induction ls with
 |nil=>
  simp only[nil_append,List.idxOf?_cons,List.idxOf?_nil]
  by_cases h:i=r
  ·subst h;simp
  ·rw[if_neg h];simp;exact fun e=>h e.symm
 |cons a t ih=>
  rw[cons_append,List.idxOf?_cons,List.idxOf?_cons,ih]
  by_cases h:a=i
  ·subst h;simp
  ·have:(a==i)=false:=by simpa using h
   rw[this]
   simp only[Bool.false_eq_true,if_false,length_cons]
   cases t.idxOf? i<;>by_cases hir:i=r<;>simp[hir]
theorem numberOf_any{r:Nat}(h:Ws ar ad X rk σ w0 b mb l ls w)(hr:r<σ.nodes.length)(hlen:ls.length<=1000000) :
  Calls prog 37 #[ptrV b,adV ad r] w fun e w'=>e=.returned (.int .i64 ((numOf ls r).1:Nat))/\Hid (Ws ar ad X rk σ w0 b mb l (numOf ls r).2 w'):=by
 obtain⟨f,m1,m2,m3,m4⟩:=h.mp
 have hil:r<ad.length:=by rw[h.st.len];exact hr
 have c2:=h.bd.cell2
 have hS:∀y,(f y).isSome=true->isVarB w y:=fun y hy=>h.st.isVarM (m3 y hy)
 have hlook:=m1.look tp_ops under_nm (nm_zero w) (x:=adA ad r) trivial (h.st.isVarM (adA_mem hil)) hS true
 simp only[if_true]at hlook
 rw[m2 r hil]at hlook
 unfold numOf
 cases hx:ls.idxOf? r with
 |some k=>
  rw[hx]at hlook
  have HQ:=hide h
  clear h m1 m2 m3 m4 hS hx
  simp only[Option.map_some,Option.getD_some,Option.isSome_some]at hlook
  generalize hQ:(fun(e:Ending) (w':World)=>e=.returned (.int .i64 (((k,ls):Nat×List Nat).1:Nat))/\Hid (Ws ar ad X rk σ w0 b mb l ((k,ls):Nat×List Nat).2 w'))=Q
  have hq:Q (.returned (.int .i64 (k:Nat))) w:=by rw[<- hQ];exact⟨rfl,HQ⟩
  clear hQ HQ
  unfold adV ptrV ptrK at *
  generalize adA ad r=br at *
  go_enter func37,ntmps37
  go_wp2
  exact hq
 |none=>
  rw[hx]at hlook
  obtain⟨w1,e1,e2,e3⟩:=m1.store tp_ops under_nm (x:=adA ad r) (v:=.int .i64 (ls.length:Nat)) trivial (h.st.isVarM (adA_mem hil)) hS
  have hfn:f (adA ad r)=none:=by rw[m2 r hil,hx];rfl
  rw[hfn]at e2
  have hlen2:=m1.len (P:=prog) under_nm 3
  have hck:∀(k:Nat)(c:Array Value)(t:TypeId)(fz:Nat×Nat),w.heap[k]?=some (.cells c t fz)->w1.heap[k]?=w.heap[k]?:=fun k c t fz hk=>turned_other e3 hk
  have hws:Ws ar ad X rk σ w0 b mb l (ls++[r]) w1:=by
   refine⟨h.kn.turned e3 (inr h.lo),h.st.kept (fun k hk=>?_) (fun k c fz _ hk=>hck _ _ _ _ hk),h.bd.kept (fun k c fz hk=>hck _ _ _ _ hk) (fun k c fz hk=>hck _ _ _ _ hk),⟨_,by simpa using e2,fun i hi=>?_,fun y hy=>?_,fun p hp=>?_⟩,h.lo,h.s0,fun k hk o ho=>?_⟩
   ·obtain⟨c,fz,hb⟩:=h.st.isT hk
    exact hck _ _ _ _ hb
   ·rw[idx_snoc]
    by_cases hir:i=r
    ·subst hir;rw[if_pos rfl,if_pos rfl,hx];rfl
    ·rw[if_neg (fun e=>hir (adA_inj h.st.lt hi hil e)),if_neg hir,m2 i hi,Option.or_none]
   ·split at hy
    ·next e=>subst e;exact adA_mem hil
    ·exact m3 y hy
   ·rcases mem_append.1 hp with hp|hp
    ·exact m4 p hp
    ·rw[mem_singleton.1 hp];exact hil
   ·rw[<- h.k2 k hk o ho]
    obtain⟨c,fz,hb⟩:=h.st.isT hk
    have:=hck _ _ _ _ hb
    simp[World.cell?,this]
  have HQ:=hide hws
  clear hws h m1 m2 m3 m4 hS hx hck e2 e3 hfn
  simp only[Option.map_none,Option.getD_none,Option.isSome_none]at hlook
  generalize hQ:(fun(e:Ending) (w':World)=>e=.returned (.int .i64 (((ls.length,ls++[r]):Nat×List Nat).1:Nat))/\Hid (Ws ar ad X rk σ w0 b mb l ((ls.length,ls++[r]):Nat×List Nat).2 w'))=Q
  have hq:Q (.returned (.int .i64 (ls.length:Nat))) w1:=by rw[<- hQ];exact⟨rfl,HQ⟩
  clear hQ HQ
  unfold adV ptrV ptrK at *
  generalize adA ad r=br at *
  generalize ls.length=n at *
  go_enter func37,ntmps37
  go_wp2
  exact hq
end
end
section
open Go.RowKit
theorem conv_letter(r:Nat)(hr:r<26)(w:World):(convert 21 9 (.int .i32 ((97+r:Nat):Int))).run prog w=.ok (.string ⟨#[UInt8.ofNat (97+r)]⟩) w:=by
 have h:r=0\/r=1\/r=2\/r=3\/r=4\/r=5\/r=6\/r=7\/r=8\/r=9\/r=10\/r=11\/r=12\/r=13\/r=14\/r=15\/r=16\/r=17\/r=18\/r=19\/r=20\/r=21\/r=22\/r=23\/r=24\/r=25:=by omega
 rcases h with rfl|rfl|rfl|rfl|rfl|rfl|rfl|rfl|rfl|rfl|rfl|rfl|rfl|rfl|rfl|rfl|rfl|rfl|rfl|rfl|rfl|rfl|rfl|rfl|rfl|rfl
 all_goals (simp[convert,go_sem];rfl)
theorem digits_small{q:Nat}(h:q<10):Lib.decDigits q=digitsOf 20 q:=by
 rw[Lib.decDigits,dif_pos h,digitsOf,if_pos h]
theorem letterName_any(n:Nat)(hn:n<260)(w:World) :
  Calls prog 36 #[.int .i64 n] w fun e w'=>e=.returned (.string (bs (letterText n)))/\w'=w:=by
 have hc:=conv_letter (n % 26) (Nat.mod_lt _ (by decide)) w
 have h1:(n:Int).tmod 26=((n % 26:Nat):Int):=by rw[Int.tmod_eq_emod_of_nonneg (by omega)];omega
 have h2:(n:Int).tdiv 26=((n / 26:Nat):Int):=by rw[Int.tdiv_eq_ediv_of_nonneg (by omega)];omega
 have hr:n % 26<26:=Nat.mod_lt _ (by decide)
 have hq:n / 26<10:=by omega
 have hI:=Tryz.strconv_Itoa_small (n / 26) (by omega) w
 rw[digits_small hq]at hI
 have hd:=digits_len 20 (n / 26)
 have hT:letterText n=39::UInt8.ofNat (97+n % 26)::(if n / 26=0 then[]else digitsOf 20 (n / 26)):=rfl
 rw[hT]
 generalize digitsOf 20 (n / 26)=ds at *
 generalize n / 26=q at *
 generalize n % 26=r at *
 have h3:IntKind.i64.wrap (97+(r:Int))=97+(r:Int):=by unfold IntKind.wrap;simp[IntKind.bits,IntKind.signed];omega
 have h4:IntKind.i32.wrap (97+(r:Int))=97+(r:Int):=by unfold IntKind.wrap;simp[IntKind.bits,IntKind.signed];omega
 have h5:((97+r:Nat):Int)=97+(r:Int):=by omega
 rw[h5]at hc
 generalize UInt8.ofNat (97+r)=c at *
 by_cases h0:q=0
 ·subst h0
  have e0:(((0:Nat):Int)>0)=False:=by simp
  clear hI
  generalize hQ:(fun(e:Ending) (w':World)=>e=.returned (.string (bs (39::c::(if (0:Nat)=0 then[]else ds))))/\w'=w)=Q
  have hq:Q (.returned (.string (⟨#[39]⟩++⟨#[c]⟩))) w:=by rw[<- hQ];exact⟨rfl,rfl⟩
  clear hQ
  go_enter func36,ntmps36
  go_wp2
  exact hq
 ·have e0:(0:Int)<(q:Int):=by omega
  have e1:decide ((0:Int)<(q:Int))=true:=by simpa using e0
  have hz:(⟨#[39]⟩++⟨#[c]⟩:ByteArray).size+(⟨ds.toArray⟩:ByteArray).size<=9223372036854775807:=by
   show 2+ds.toArray.size<=_
   have:ds.toArray.size=ds.length:=by simp
   omega
  have HI:=hide hI
  generalize hQ:(fun(e:Ending) (w':World)=>e=.returned (.string (bs (39::c::(if q=0 then[]else ds))))/\w'=w)=Q
  have hq:Q (.returned (.string ((⟨#[39]⟩++⟨#[c]⟩)++⟨ds.toArray⟩))) w:=by
   rw[<- hQ,if_neg h0]
   exact⟨by show Ending.returned (.string (bs [39]++bs [c]++bs ds))=_;rw[bs_app,bs_app];rfl,rfl⟩
  clear hQ hI
  generalize (⟨ds.toArray⟩:ByteArray)=da at *
  go_enter func36,ntmps36
  go_wp2_with fail
  refine(HI.out).mono ?_;rintro e w1⟨rfl,rfl⟩
  go_wp2
  exact hq
section
variable {ar:Nm->Nat}{ad:List Nat}{X:Nat->Prop}{rk:Nat->Nat}{σ:TS}{w0 w w':World}{b mb:Nat}{l:Nm}{ls:List Nat}
theorem Ws.drew(h:Ws ar ad X rk σ w0 b mb l ls w):Ws ar ad X rk σ w0 b mb l ls w.drew:=⟨h.kn.drew,h.st.kept (fun _ _=>rfl) (fun _ _ _ _ _=>rfl),h.bd,h.mp,h.lo,h.s0,h.k2⟩
theorem Ws.text(x:Nm)(h:Ws ar ad X rk σ w0 b mb l ls w)(hlen:l.length+x.length<=140737488355328) :
  Calls prog 35 #[ptrV b,.string (bs x)] w fun e w'=>(∃k,e=.returned (.tuple #[.int .i64 k,.nilIface]))/\Hid (Ws ar ad X rk σ w0 b mb (l++x) ls w'):=by
 refine(writeString_w (bs x) h.bd (by rw[Lib.byteCells_length,bs_size];exact hlen) h.kn.size).mono ?_
 rintro e w'⟨rfl,h1,h2⟩
 rw[strCells_bs,byteCells_app]at h1
 exact⟨⟨_,rfl⟩,hide (h.wrote h2 h1)⟩
theorem Ws.byte(c:UInt8)(h:Ws ar ad X rk σ w0 b mb l ls w)(hlen:l.length+1<=140737488355328) :
  Calls prog 39 #[ptrV b,.int .u8 c.toNat] w fun e w'=>e=.returned .nilIface/\Hid (Ws ar ad X rk σ w0 b mb (l++[c]) ls w'):=by
 refine(writeByte_w c.toNat h.bd (by rw[Lib.byteCells_length];exact hlen) h.kn.size).mono ?_
 rintro e w'⟨rfl,h1,h2⟩
 have h3:Lib.byteCells l++[Value.int .u8 c.toNat]=Lib.byteCells (l++[c]):=by simp[Lib.byteCells]
 rw[h3]at h1
 exact⟨rfl,hide (h.wrote h2 h1)⟩
def WrC(ar:Nm->Nat)(ad:List Nat)(X:Nat->Prop)(rk:Nat->Nat)(σ:TS)(w0:World)(b mb:Nat)(f:Nat)(args:Array Value)(s:Nm)(ls ls':List Nat):Prop:=
 ∀(l:Nm)(w:World),Ws ar ad X rk σ w0 b mb l ls w->l.length+s.length<=100000000000000->Calls prog f (#[ptrV b]++args) w fun e w'=>e=.returned (.tuple #[])/\Hid (Ws ar ad X rk σ w0 b mb (l++s) ls' w')
theorem writePart_any{i:Nat}{s:Nm}{ls':List Nat}(br:Bool)(hc:WrC ar ad X rk σ w0 b mb 13 #[adV ad i] s ls ls') :
  WrC ar ad X rk σ w0 b mb 38 #[adV ad i,.bool br] (brackets br s) ls ls':=by
 intro l w h hlen
 cases br with
 |false=>
  have hlen:l.length+s.length<=100000000000000:=hlen
  have HC:=hide (hc l w h hlen)
  clear h hc
  show Calls _ _ _ _ fun e w'=>e=.returned (.tuple #[])/\Hid (Ws ar ad X rk σ w0 b mb (l++s) ls' w')
  generalize hW:(fun w'=>Ws ar ad X rk σ w0 b mb (l++s) ls' w')=W at *
  have hW2:∀w',Ws ar ad X rk σ w0 b mb (l++s) ls' w'=W w':=fun w'=>by rw[<- hW]
  simp only[hW2]at HC ⊢
  clear hW hW2
  unfold adV ptrV at *
  simp only[cons_append,nil_append,List.append_toArray]at HC ⊢
  generalize adA ad i=bi at *
  go_enter func38,ntmps38
  go_wp2_with fail
  refine(HC.out).mono ?_;rintro e w1⟨rfl,HW⟩
  go_wp2
  exact⟨rfl,_,(by simp[results,results38,go_sem]),rfl,HW⟩
 |true=>
  have hlen:l.length+(s.length+2)<=100000000000000:=by
   have:(brackets true s).length=s.length+2:=by simp[brackets]
   omega
  have hch:Calls prog 39 #[ptrV b,.int .u8 40] w fun e w1=>e=.returned .nilIface/\Calls prog 13 #[ptrV b,adV ad i] w1 fun e w2=>e=.returned (.tuple #[])/\Calls prog 39 #[ptrV b,.int .u8 41] w2 fun e w3=>e=.returned .nilIface/\Hid (Ws ar ad X rk σ w0 b mb (l++brackets true s) ls' w3):=by
   refine(h.byte 40 (by omega)).mono ?_
   rintro e w1⟨rfl,h1⟩
   refine⟨rfl,(hc (l++[40]) w1 h1.out (by rw[length_append];simp;omega)).mono ?_⟩
   rintro e w2⟨rfl,h2⟩
   refine⟨rfl,(h2.out.byte 41 (by simp only[length_append,List.length_singleton];omega)).mono ?_⟩
   rintro e w3⟨rfl,h3⟩
   refine⟨rfl,?_⟩
   have:l++[40]++s++[41]=l++brackets true s:=by simp[brackets]
   rw[<- this]
   exact h3
  have HC:=hide hch
  clear hch h hc hlen
  show Calls _ _ _ _ fun e w'=>e=.returned (.tuple #[])/\Hid (Ws ar ad X rk σ w0 b mb (l++brackets true s) ls' w')
  generalize hW:(fun w'=>Ws ar ad X rk σ w0 b mb (l++brackets true s) ls' w')=W at *
  have hW2:∀w',Ws ar ad X rk σ w0 b mb (l++brackets true s) ls' w'=W w':=fun w'=>by rw[<- hW]
  simp only[hW2]at HC ⊢
  clear hW hW2
  unfold adV ptrV at *
  simp only[cons_append,nil_append,List.append_toArray]at HC ⊢
  generalize adA ad i=bi at *
  go_enter func38,ntmps38
  go_wp2_with fail
  refine(HC.out).mono ?_;rintro e w1⟨rfl,h1⟩
  have H1:=hide h1
  clear HC h1
  go_wp2_with fail
  refine(H1.out).mono ?_;rintro e w2⟨rfl,h2⟩
  have H2:=hide h2
  clear H1 h2
  go_wp2_with fail
  refine(H2.out).mono ?_;rintro e w3⟨rfl,HW⟩
  go_wp2
  go_end0
  exact⟨rfl,HW⟩
end
end
section
open Go.RowKit
section
variable {ar:Nm->Nat}{ad:List Nat}{X:Nat->Prop}{rk:Nat->Nat}{σ:TS}{w0 w w':World}{b mb i n:Nat}{l s:Nm}{ls ls':List Nat}
theorem wrL_mono{n:Nat}(ih:∀(ls:List Nat)(i:Nat)(s:Nm)(ls':List Nat),wr σ n ls i=some (s,ls')->ls.length<=ls'.length):∀(ps:List Nat)(ls:List Nat)(s:Nm)(ls':List Nat),wr.wrL σ (wr σ n) ls ps=some (s,ls')->ls.length<=ls'.length:=by
 intro ps
 induction ps with
 |nil=>intro ls s ls' h;rw[wr.wrL]at h;cases h;exact le_refl _
 |cons p r ihr=>
  intro ls s ls' h
  rw[wr.wrL]at h
  cases hx:wr σ n ls p with
  |none=>rw[hx]at h;cases h
  |some y=>
   obtain⟨s1,ls1⟩:=y
   rw[hx]at h
   simp only at h
   cases hy:wr.wrL σ (wr σ n) ls1 r with
   |none=>rw[hy]at h;cases h
   |some z=>
    obtain⟨s2,ls2⟩:=z
    rw[hy]at h
    cases h
    exact le_trans (ih _ _ _ _ hx) (ihr _ _ _ hy)
theorem wr_mono:∀(n:Nat)(ls:List Nat)(i:Nat)(s:Nm)(ls':List Nat),wr σ n ls i=some (s,ls')->ls.length<=ls'.length:=by
 intro n
 induction n with
 |zero=>intro ls i s ls' h;cases h
 |succ n ih=>
  intro ls i s ls' h
  rw[wr]at h
  split at h
  ·split at h<;>cases h
   ·exact le_refl _
   ·simp
  ·split at h
   ·split at h
    ·rename_i a c _ _
     cases hx:wr σ n ls a with
     |none=>rw[hx]at h;cases h
     |some y=>
      obtain⟨s1,ls1⟩:=y
      rw[hx]at h
      simp only at h
      cases hy:wr σ n ls1 c with
      |none=>rw[hy]at h;cases h
      |some z=>
       obtain⟨s2,ls2⟩:=z
       rw[hy]at h
       cases h
       exact le_trans (ih _ _ _ _ hx) (ih _ _ _ _ hy)
    ·cases h
   ·cases hx:wr.wrL σ (wr σ n) ls (σ.node (σ.root i)).parts with
    |none=>rw[hx]at h;cases h
    |some y=>
     obtain⟨s1,ls1⟩:=y
     rw[hx]at h
     cases h
     exact wrL_mono ih _ _ _ _ hx
theorem Ws.root(h:Ws ar ad X rk σ w0 b mb l ls w)(hi:i<σ.nodes.length):Calls prog 33 #[adV ad i] w fun e w1=>e=.returned (adV ad (σ.root i))/\Ws ar ad X rk σ w0 b mb l ls w1:=by
 refine(root2_any (rk i+1) i w (lt_succ_self _) h.st hi).mono ?_
 rintro e w1⟨⟨rfl,h1,h2,_⟩,h3⟩
 exact⟨rfl,h.rooted h1 h2 h3⟩
theorem Ws.isL(h:Ws ar ad X rk σ w0 b mb l ls w)(hi:i<σ.nodes.length){v:Bool}(hv:σ.isLetter i=v):Calls prog 34 #[adV ad i] w fun e w1=>e=.returned (.bool v)/\w1=w:=by
 rw[<- hv]
 exact isLetter_any h.st hi
theorem letter_facts(h:Ws ar ad X rk σ w0 b mb l ls w)(hi:i<σ.nodes.length)(hl:σ.isLetter (σ.root i)=true)(hn:(numOf ls (σ.root i)).1<260)(hls:ls.length<=1000000)(hlen:l.length+22<=140737488355328) :
  Calls prog 33 #[adV ad i] w fun e w1=>e=.returned (adV ad (σ.root i))/\Calls prog 34 #[adV ad (σ.root i)] w1 (fun e w'=>e=.returned (.bool true)/\w'=w1) /\
   Calls prog 37 #[ptrV b,adV ad (σ.root i)] w1.drew fun e w2=>∃k:Nat,e=.returned (.int .i64 k)/\Calls prog 36 #[.int .i64 k] w2 fun e w3=>∃x,e=.returned (.string x)/\Calls prog 35 #[ptrV b,.string x] w3 fun e w4=>
    (∃k,e=.returned (.tuple #[.int .i64 k,.nilIface]))/\Hid (Ws ar ad X rk σ w0 b mb (l++letterText (numOf ls (σ.root i)).1) (numOf ls (σ.root i)).2 w4):=by
 have hr:=h.st.ok.rg.root_lt hi
 refine(h.root hi).mono ?_
 rintro e w1⟨rfl,h1⟩
 refine⟨rfl,h1.isL hr hl,(numberOf_any h1.drew hr hls).mono ?_⟩
 rintro e w2⟨rfl,h2⟩
 refine⟨_,rfl,(letterName_any _ hn w2).mono ?_⟩
 rintro e w3⟨rfl,rfl⟩
 have:=letterText_len (numOf ls (σ.root i)).1
 exact⟨_,rfl,h2.out.text _ (by omega)⟩
theorem Ws.node(h:Ws ar ad X rk σ w0 b mb l ls w)(hi:i<σ.nodes.length):∃a m c,m=(σ.node i).parts.length/\m<=9223372036854775807/\(∀(l2:Nm)(ls2:List Nat)(u:World),Ws ar ad X rk σ w0 b mb l2 ls2 u->u.cell? ⟨adA ad i,0,none⟩=some (.string (bs (σ.node i).name))/\u.cell? ⟨adA ad i,1,none⟩=some (.slice a m c)) /\
  ∀k p,(σ.node i).parts[k]?=some p->∃g,a=some ⟨g,0,none⟩/\∀(l2:Nm)(ls2:List Nat)(u:World),Ws ar ad X rk σ w0 b mb l2 ls2 u->g<u.heap.size/\u.cell? ⟨g,k,none⟩=some (adV ad p):=by
 obtain⟨pv,fv,h1,h2,_⟩:=h.s0.node i hi
 have hmem:adA ad i∈ad:=adA_mem (by rw[h.s0.len];exact hi)
 have hmax:=ownsRow_max h2
 rcases ownsRow_forms h2 with⟨rfl,h0⟩|⟨g,cap,rfl⟩
 ·refine⟨none,0,0,h0.symm,by decide,fun l2 ls2 u hu=>⟨?_,?_⟩,fun k p hk=>?_⟩
  ·rw[hu.k2 _ hmem 0 (by decide)];simp[World.cell?,h1]
  ·rw[hu.k2 _ hmem 1 (by decide)];simp[World.cell?,h1]
  ·rw[List.eq_nil_of_length_eq_zero h0]at hk
   simp at hk
 ·refine⟨_,_,cap,rfl,hmax,fun l2 ls2 u hu=>⟨?_,?_⟩,fun k p hk=>⟨g,rfl,fun l2 ls2 u hu=>?_⟩⟩
  ·rw[hu.k2 _ hmem 0 (by decide)];simp[World.cell?,h1]
  ·rw[hu.k2 _ hmem 1 (by decide)];simp[World.cell?,h1]
  ·have hgc:∃cur,w0.heap[g]?=some (.cells cur tyTypeP (0,0)):=by
    rcases h2.2 with⟨e,_⟩|⟨g2,cap2,cur,e,_,hg,_⟩
    ·cases e
    ·cases e;exact⟨cur,hg⟩
   obtain⟨cur,hgc⟩:=hgc
   have hlt:=lt_of_heap hgc
   have hno:g∉ad:=h.s0.not_mem hgc (fun c f e=>by cases e)
   have hsame:u.heap[g]?=w0.heap[g]?:=hu.kn.block g hlt hno
   refine⟨lt_of_lt_of_le hlt hu.kn.size,?_⟩
   have:=h2.cells (g:=g) rfl k (adV ad p) (by simp[hk])
   have ea:(⟨g,0,none⟩:Addr).add k=⟨g,k,none⟩:=by cases k<;>simp[Addr.add]
   rw[ea]at this
   rw[<- this]
   simp[World.cell?,hsame]
end
end
end Go.Proofs.YtbkiipiocpnnnaaGreatDoor
