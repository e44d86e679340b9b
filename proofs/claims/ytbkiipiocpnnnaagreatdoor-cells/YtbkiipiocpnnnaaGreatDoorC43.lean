import Derived.Test.YtbkiipiocpnnnaaGreatDoorC42
set_option linter.all false
set_option maxHeartbeats 40000000
set_option maxRecDepth 100000
open Go.Proofs.Tryz
open Or (inl inr)
open Nat (le_refl zero_le)
open List (append_nil length_append length_cons mem_cons_self mem_cons_of_mem mem_append mem_singleton append_assoc length_nil length_map map_cons nil_append)
namespace Go.Proofs.YtbkiipiocpnnnaaGreatDoor
section
open Go.RowKit
section
variable {ar:Nm->Nat}{ad:List Nat}{X:Nat->Prop}{rk:Nat->Nat}{σ:TS}{w0 w w':World}{b mb i n:Nat}{l s:Nm}{ls ls':List Nat}
theorem wty_letter(h:Ws ar ad X rk σ w0 b mb l ls w)(hi:i<σ.nodes.length)(hl:σ.isLetter (σ.root i)=true)(hn:(numOf ls (σ.root i)).1<260)(hls:ls.length<=1000000)(hlen:l.length+22<=140737488355328) :
  Calls prog 13 #[ptrV b,adV ad i] w fun e w'=>e=.returned (.tuple #[])/\Hid (Ws ar ad X rk σ w0 b mb (l++letterText (numOf ls (σ.root i)).1) (numOf ls (σ.root i)).2 w'):=by
 have hch:=letter_facts h hi hl hn hls hlen
 generalize hW:(fun w'=>Ws ar ad X rk σ w0 b mb (l++letterText (numOf ls (σ.root i)).1) (numOf ls (σ.root i)).2 w')=W at *
 have hW2:∀w',Ws ar ad X rk σ w0 b mb (l++letterText (numOf ls (σ.root i)).1) (numOf ls (σ.root i)).2 w'=W w':=fun w'=>by rw[<- hW]
 simp only[hW2]at hch ⊢
 have HC:=hide hch
 clear hch hW hW2 h hl hn
 unfold adV ptrV at *
 generalize adA ad i=bi at *
 generalize adA ad (σ.root i)=br at *
 go_enter func13,ntmps13
 go_wp2_with fail
 refine(HC.out).mono ?_;rintro e w1⟨rfl,h1,h2⟩
 have H1:=hide h1
 have H2:=hide h2
 clear HC h1 h2
 go_wp2_with fail
 refine(H1.out).mono ?_;rintro e w1'⟨rfl,rfl⟩
 go_wp2_with fail
 go_region_held3 (fun _=>True) (trivial)
  (first|(go_at_call 37;refine(H2.out).mono ?_;rintro e u2⟨k,rfl,hl⟩;have HL:=hide hl;clear hl)|(go_at_call 36;refine(HL.out).mono ?_;rintro e u3⟨x,rfl,hs⟩;have HS:=hide hs;clear hs)|(go_at_call 35;refine(HS.out).mono ?_;rintro e u4⟨⟨kk,rfl⟩,HW⟩))
 all_goals
  go_wp2
  go_end0
  exact⟨rfl,HW⟩
theorem arrow_facts{a c:Nat}{s1 s2:Nm}{ls1 ls2:List Nat}(h:Ws ar ad X rk σ w0 b mb l ls w)(hi:i<σ.nodes.length)(hl:σ.isLetter (σ.root i)=false)(hps:(σ.node (σ.root i)).parts=[a,c])
  (hA:WrC ar ad X rk σ w0 b mb 13 #[adV ad a] s1 ls ls1) (hC:WrC ar ad X rk σ w0 b mb 13 #[adV ad c] s2 ls1 ls2)
  (hlen:l.length+(brackets ((σ.node (σ.root a)).name==arrowN) s1++[32,45,62,32]++s2).length<=100000000000000) :
  ∃g cap,Calls prog 33 #[adV ad i] w fun e w1=>e=.returned (adV ad (σ.root i))/\Calls prog 34 #[adV ad (σ.root i)] w1 (fun e w'=>e=.returned (.bool false)/\w'=w1) /\
   (w1.cell? ⟨adA ad (σ.root i),0,none⟩=some (.string (bs (σ.node (σ.root i)).name))/\w1.drew.cell? ⟨adA ad (σ.root i),1,none⟩=some (.slice (some ⟨g,0,none⟩) 2 cap)/\w1.drew.cell? ⟨g,0,none⟩=some (adV ad a)/\w1.drew.cell? ⟨adA ad (σ.root a),0,none⟩=some (.string (bs (σ.node (σ.root a)).name))) /\
   Calls prog 33 #[adV ad a] w1.drew fun e w2=>e=.returned (adV ad (σ.root a))/\(w2.cell? ⟨adA ad (σ.root i),1,none⟩=some (.slice (some ⟨g,0,none⟩) 2 cap)/\w2.cell? ⟨g,0,none⟩=some (adV ad a)/\w2.cell? ⟨adA ad (σ.root a),0,none⟩=some (.string (bs (σ.node (σ.root a)).name))) /\
   Calls prog 38 #[ptrV b,adV ad a,.bool ((σ.node (σ.root a)).name==arrowN)] w2 fun e w3=>e=.returned (.tuple #[])/\(w3.cell? ⟨adA ad (σ.root i),1,none⟩=some (.slice (some ⟨g,0,none⟩) 2 cap)/\w3.cell? ⟨g,0,none⟩=some (adV ad a)/\w3.cell? ⟨adA ad (σ.root a),0,none⟩=some (.string (bs (σ.node (σ.root a)).name))) /\
   Calls prog 35 #[ptrV b,.string ⟨#[32,45,62,32]⟩] w3 fun e w4=>(∃k,e=.returned (.tuple #[.int .i64 k,.nilIface]))/\(w4.cell? ⟨adA ad (σ.root i),1,none⟩=some (.slice (some ⟨g,0,none⟩) 2 cap)/\w4.cell? ⟨g,1,none⟩=some (adV ad c)) /\
   Calls prog 13 #[ptrV b,adV ad c] w4 fun e w5=>e=.returned (.tuple #[])/\Hid (Ws ar ad X rk σ w0 b mb (l++(brackets ((σ.node (σ.root a)).name==arrowN) s1++[32,45,62,32]++s2)) ls2 w5):=by
 have hr:=h.st.ok.root_lt hi
 have ha:a<σ.nodes.length:=h.st.ok.part_lt hr (by rw[hps];exact mem_cons_self ..)
 have hra:=h.st.ok.root_lt ha
 obtain⟨a1,m,cap,hm,_,hcell,hrow⟩:=h.node hr
 obtain⟨a2,m2,cap2,_,_,hcella,_⟩:=h.node hra
 rw[hps]at hm hrow
 have hm:m=2:=hm
 subst hm
 obtain⟨g,rfl,hg0⟩:=hrow 0 a rfl
 obtain⟨g',e,hg1⟩:=hrow 1 c rfl
 cases e
 simp only[length_append]at hlen
 have hlen2:([32,45,62,32]:Nm).length=4:=rfl
 refine⟨g,cap,(h.root hi).mono ?_⟩
 rintro e w1⟨rfl,h1⟩
 refine⟨rfl,h1.isL hr hl,⟨(hcell _ _ _ h1).1,(hcell _ _ _ h1.drew).2,(hg0 _ _ _ h1.drew).2,(hcella _ _ _ h1.drew).1⟩,(h1.drew.root ha).mono ?_⟩
 rintro e w2⟨rfl,h2⟩
 refine⟨rfl,⟨(hcell _ _ _ h2).2,(hg0 _ _ _ h2).2,(hcella _ _ _ h2).1⟩,(writePart_any _ hA l w2 h2 (by omega)).mono ?_⟩
 rintro e w3⟨rfl,h3⟩
 have h3:=h3.out
 refine⟨rfl,⟨(hcell _ _ _ h3).2,(hg0 _ _ _ h3).2,(hcella _ _ _ h3).1⟩,(h3.text [32,45,62,32] (by simp only[length_append];omega)).mono ?_⟩
 rintro e w4⟨hk,h4⟩
 have h4:=h4.out
 refine⟨hk,⟨(hcell _ _ _ h4).2,(hg1 _ _ _ h4).2⟩,(hC _ w4 h4 (by simp only[length_append];omega)).mono ?_⟩
 rintro e w5⟨rfl,h5⟩
 refine⟨rfl,?_⟩
 rw[<- append_assoc,<- append_assoc]
 exact h5
theorem wty_arrow{a c:Nat}{s1 s2:Nm}{ls1 ls2:List Nat}(h:Ws ar ad X rk σ w0 b mb l ls w)(hi:i<σ.nodes.length)(hl:σ.isLetter (σ.root i)=false)(hnm:(σ.node (σ.root i)).name=arrowN)(hps:(σ.node (σ.root i)).parts=[a,c])
  (hA:WrC ar ad X rk σ w0 b mb 13 #[adV ad a] s1 ls ls1) (hC:WrC ar ad X rk σ w0 b mb 13 #[adV ad c] s2 ls1 ls2)
  (hlen:l.length+(brackets ((σ.node (σ.root a)).name==arrowN) s1++[32,45,62,32]++s2).length<=100000000000000) :
  Calls prog 13 #[ptrV b,adV ad i] w fun e w'=>e=.returned (.tuple #[])/\Hid (Ws ar ad X rk σ w0 b mb (l++(brackets ((σ.node (σ.root a)).name==arrowN) s1++[32,45,62,32]++s2)) ls2 w'):=by
 obtain⟨g,cap,hch⟩:=arrow_facts h hi hl hps hA hC hlen
 generalize hW:(fun w'=>Ws ar ad X rk σ w0 b mb (l++(brackets ((σ.node (σ.root a)).name==arrowN) s1++[32,45,62,32]++s2)) ls2 w')=W at *
 have hW2:∀w',Ws ar ad X rk σ w0 b mb (l++(brackets ((σ.node (σ.root a)).name==arrowN) s1++[32,45,62,32]++s2)) ls2 w'=W w':=fun w'=>by rw[<- hW]
 simp only[hW2]at hch ⊢
 have hb1:((bs (σ.node (σ.root i)).name).toList==[45,62])=true:=by rw[bs_lit,hnm];rfl
 have hb2:((bs (σ.node (σ.root a)).name).toList==[45,62])=((σ.node (σ.root a)).name==arrowN):=bs_lit _ _
 have HC:=hide hch
 clear hch hW hW2 h hl hA hC hlen hps hnm
 unfold adV ptrV at *
 generalize ((σ.node (σ.root a)).name==arrowN)=br at *
 generalize bs (σ.node (σ.root i)).name=nm1 at *
 generalize bs (σ.node (σ.root a)).name=nm2 at *
 generalize adA ad i=bi at *
 generalize adA ad a=ba at *
 generalize adA ad c=bc at *
 generalize adA ad (σ.root i)=ri at *
 generalize adA ad (σ.root a)=ra at *
 go_enter func13,ntmps13
 go_wp2_with fail
 refine(HC.out).mono ?_;rintro e w1⟨rfl,h1,⟨c0,c1,c2,c3⟩,h2⟩
 have H1:=hide h1
 have H2:=hide h2
 clear HC h1 h2
 go_wp2_with fail
 refine(H1.out).mono ?_;rintro e w1'⟨rfl,rfl⟩
 go_wp2_with fail
 go_region_held3 (fun w'=>w'.cell? ⟨ri,1,none⟩=some (.slice (some ⟨g,0,none⟩) 2 cap)/\w'.cell? ⟨g,0,none⟩=some (.pointer (some ⟨ba,0,none⟩))/\w'.cell? ⟨ra,0,none⟩=some (.string nm2)) (with_reducible exact⟨c1,c2,c3⟩)
  (first|(go_at_call 33;refine(H2.out).mono ?_;rintro e u2⟨rfl,⟨c1,c2,c3⟩,hp⟩;have HP:=hide hp;clear hp)|(go_at_call 38;refine(HP.out).mono ?_;rintro e u3⟨rfl,⟨c1,c2,c3⟩,hs⟩;have HS:=hide hs;clear hs))
 all_goals
  go_wp2_with fail
  refine(HS.out).mono ?_;rintro e u4⟨⟨kk,rfl⟩,⟨c1,c2⟩,hw⟩
  have HWR:=hide hw
  clear hw
  go_wp2_with fail
  refine(HWR.out).mono ?_;rintro e u5⟨rfl,HW⟩
  go_wp2
  go_end0
  exact⟨rfl,HW⟩
end
end
section
open Go.RowKit
section
variable {ar:Nm->Nat}{ad:List Nat}{X:Nat->Prop}{rk:Nat->Nat}{σ:TS}{w0 w w':World}{b mb i n:Nat}{l s:Nm}{ls ls':List Nat}
def WLd(ar:Nm->Nat)(ad:List Nat)(X:Nat->Prop)(rk:Nat->Nat)(σ:TS)(w0:World)(b mb:Nat)(g:List Nat->Nat->Option (Nm×List Nat))(ps:List Nat)(t:Nm)(ls':List Nat)(k:Nat)(u:World):Prop:=
 ∃lk lsk s2,wr.wrL σ g lsk (ps.drop k)=some (s2,ls')/\lk++s2=t/\Ws ar ad X rk σ w0 b mb lk lsk u
theorem drop_here{α:Type}{ps:List α}{k:Nat}(h:k<ps.length):∃p,ps[k]?=some p/\ps.drop k=p::ps.drop (k+1):=⟨ps[k],by simp[h],List.drop_eq_getElem_cons h⟩
theorem named_facts{nm t:Nm}(h:Ws ar ad X rk σ w0 b mb l ls w)(hi:i<σ.nodes.length)(hl:σ.isLetter (σ.root i)=false)(hnm:(σ.node (σ.root i)).name=nm)
  (hs:wr.wrL σ (wr σ n) ls (σ.node (σ.root i)).parts=some (s,ls')) (ht:l++(nm++s)=t) (hlen:t.length<=100000000000000)
  (hP:∀p∈(σ.node (σ.root i)).parts,∀(ls1:List Nat)(s1:Nm)(ls2:List Nat),wr σ n ls1 p=some (s1,ls2)->ls2.length<=ls'.length->WrC ar ad X rk σ w0 b mb 13 #[adV ad p] s1 ls1 ls2) :
  ∃a m c,m<=9223372036854775807/\Calls prog 33 #[adV ad i] w fun e w1=>e=.returned (adV ad (σ.root i))/\Calls prog 34 #[adV ad (σ.root i)] w1 (fun e w'=>e=.returned (.bool false)/\w'=w1) /\
   (w1.cell? ⟨adA ad (σ.root i),0,none⟩=some (.string (bs nm))/\w1.drew.cell? ⟨adA ad (σ.root i),0,none⟩=some (.string (bs nm))) /\
   Calls prog 35 #[ptrV b,.string (bs nm)] w1.drew fun e w2=>(∃k,e=.returned (.tuple #[.int .i64 k,.nilIface]))/\w2.cell? ⟨adA ad (σ.root i),0,none⟩=some (.string (bs nm))/\w2.cell? ⟨adA ad (σ.root i),1,none⟩=some (.slice a m c) /\
   ∃LD:Nat->World->Prop,Hid (LD 0 w2) /\
    (∀k u,LD k u->k<m->∃g bp,a=some ⟨g,0,none⟩/\g<u.heap.size/\u.cell? ⟨g,k,none⟩=some (ptrV bp)/\Calls prog 39 #[ptrV b,.int .u8 32] u fun e u1=>e=.returned .nilIface/\Calls prog 33 #[ptrV bp] u1 fun e u2=>∃rp a2 m2 c2,e=.returned (ptrV rp)/\u2.cell? ⟨rp,1,none⟩=some (.slice a2 m2 c2) /\
     ∃br,(decide ((0:Int)<(m2:Int))=br/\decide (0<m2)=br)/\Calls prog 38 #[ptrV b,ptrV bp,.bool br] u2 fun e u3=>e=.returned (.tuple #[])/\Hid (LD (k+1) u3)) /\
    ∀u,LD m u->Ws ar ad X rk σ w0 b mb t ls' u:=by
 have hr:=h.st.ok.root_lt hi
 obtain⟨a,m,c,hm,hmax,hcell,hrow⟩:=h.node hr
 have htl:l.length+(nm.length+s.length)=t.length:=by rw[<- ht];simp
 refine⟨a,m,c,hmax,(h.root hi).mono ?_⟩
 rintro e w1⟨rfl,h1⟩
 rw[hnm]at hcell
 refine⟨rfl,h1.isL hr hl,⟨(hcell _ _ _ h1).1,(hcell _ _ _ h1.drew).1⟩,(h1.drew.text nm (by omega)).mono ?_⟩
 rintro e w2⟨hk,h2⟩
 have h2:=h2.out
 refine⟨hk,(hcell _ _ _ h2).1,(hcell _ _ _ h2).2,WLd ar ad X rk σ w0 b mb (wr σ n) (σ.node (σ.root i)).parts t ls',hide ⟨l++nm,ls,s,hs,by rw[append_assoc];exact ht,h2⟩,?_,?_⟩
 ·rintro k u⟨lk,lsk,s2,e1,e2,hu⟩ hkm
  obtain⟨p,hp,hd⟩:=drop_here (ps:=(σ.node (σ.root i)).parts) (k:=k) (by omega)
  have hpm:=List.mem_of_getElem? hp
  have hpl:=h.st.ok.part_lt hr hpm
  have hrp:=h.st.ok.root_lt hpl
  obtain⟨a2,m2,c2,hm2,_,hcell2,_⟩:=h.node hrp
  obtain⟨g,rfl,hg⟩:=hrow k p hp
  rw[hd,wr.wrL]at e1
  cases hx:wr σ n lsk p with
  |none=>rw[hx]at e1;cases e1
  |some y=>
   obtain⟨s1,ls1⟩:=y
   rw[hx]at e1
   simp only at e1
   cases hy:wr.wrL σ (wr σ n) ls1 ((σ.node (σ.root i)).parts.drop (k+1))with
   |none=>rw[hy]at e1;cases e1
   |some z=>
    obtain⟨s3,ls3⟩:=z
    rw[hy]at e1
    obtain⟨rfl,rfl⟩:32::brackets (decide (0<(σ.node (σ.root p)).parts.length)) s1++s3=s2/\ls3=ls':=by simpa using e1
    have htl2:lk.length+(1+((brackets (decide (0<(σ.node (σ.root p)).parts.length)) s1).length+s3.length))=t.length:=by rw[<- e2];simp;omega
    have hmono:=wrL_mono (wr_mono n) _ _ _ _ hy
    refine⟨g,adA ad p,rfl,(hg _ _ _ hu).1,(hg _ _ _ hu).2,(hu.byte 32 (by omega)).mono ?_⟩
    rintro e u1⟨rfl,h3⟩
    have h3:=h3.out
    refine⟨rfl,(h3.root hpl).mono ?_⟩
    rintro e u2⟨rfl,h4⟩
    refine⟨_,a2,m2,c2,rfl,(hcell2 _ _ _ h4).2,decide (0<(σ.node (σ.root p)).parts.length),?_,(writePart_any _ (hP p hpm lsk s1 ls1 hx hmono) (lk++[32]) u2 h4 (by rw[length_append,List.length_singleton];omega)).mono ?_⟩
    ·rw[hm2];exact⟨by congr 1;exact propext ⟨fun h=>by omega,fun h=>by omega⟩,rfl⟩
    rintro e u3⟨rfl,h5⟩
    refine⟨rfl,hide ⟨_,ls1,s3,hy,?_,h5.out⟩⟩
    rw[<- e2]
    simp
 ·rintro u⟨lk,lsk,s2,e1,e2,hu⟩
  rw[List.drop_eq_nil_of_le (by omega),wr.wrL]at e1
  cases e1
  rw[append_nil]at e2
  subst e2
  exact hu
theorem wty_named{nm t:Nm}(h:Ws ar ad X rk σ w0 b mb l ls w)(hi:i<σ.nodes.length)(hl:σ.isLetter (σ.root i)=false)(hnm:(σ.node (σ.root i)).name=nm)(hna:nm≠arrowN)
  (hs:wr.wrL σ (wr σ n) ls (σ.node (σ.root i)).parts=some (s,ls')) (ht:l++(nm++s)=t) (hlen:t.length<=100000000000000)
  (hP:∀p∈(σ.node (σ.root i)).parts,∀(ls1:List Nat)(s1:Nm)(ls2:List Nat),wr σ n ls1 p=some (s1,ls2)->ls2.length<=ls'.length->WrC ar ad X rk σ w0 b mb 13 #[adV ad p] s1 ls1 ls2) :
  Calls prog 13 #[ptrV b,adV ad i] w fun e w'=>e=.returned (.tuple #[])/\Hid (Ws ar ad X rk σ w0 b mb t ls' w'):=by
 obtain⟨a,m,c,hmax,hch⟩:=named_facts h hi hl hnm hs ht hlen hP
 have hb1:((bs nm).toList==[45,62])=false:=by
  rw[bs_lit]
  simpa [arrowN]using hna
 generalize hW:(fun w'=>Ws ar ad X rk σ w0 b mb t ls' w')=W at *
 have hW2:∀w',Ws ar ad X rk σ w0 b mb t ls' w'=W w':=fun w'=>by rw[<- hW]
 simp only[hW2]at hch ⊢
 have HC:=hide hch
 clear hch hW hW2 h hl hP hlen ht hs hnm hna
 unfold adV ptrV at *
 generalize bs nm=nb at *
 generalize adA ad i=bi at *
 generalize adA ad (σ.root i)=ri at *
 go_enter func13,ntmps13
 go_wp2_with fail
 refine(HC.out).mono ?_;rintro e w1⟨rfl,h1,⟨c0,c0d⟩,h2⟩
 have H1:=hide h1
 have H2:=hide h2
 clear HC h1 h2
 go_wp2_with fail
 refine(H1.out).mono ?_;rintro e w1'⟨rfl,rfl⟩
 go_wp2_with fail
 go_region_held3 (fun w'=>w'.cell? ⟨ri,0,none⟩=some (.string nb)) (with_reducible exact c0d)
  (first|(go_at_call 35;refine(H2.out).mono ?_;rintro e u2⟨⟨kk,rfl⟩,c0d,c1,LD,HL,hs,he⟩;have HS:=hide hs;have HE:=hide he;clear hs he))
 all_goals
  go_wp2_with fail
  go_loopg [21] m (fun gk v wr=>∃k,v=.int .i64 (k:Nat)/\k+gk=m/\Hid (LD k wr))
  case atStart=>exact⟨0,rfl,by omega,HL⟩
  case round=>
   clear HL
   obtain⟨k,rfl,hk,HL⟩:=hrel
   by_cases hlt:k<m
   ·obtain⟨g,bp,rfl,f1,f2,hc⟩:=HS.out _ _ HL.out hlt
    have hlt3:(k:Int)<(m:Int):=by omega
    have HC:=hide hc
    clear hc HS HE HL
    go_wp2_with fail
    refine(HC.out).mono ?_;rintro e u3⟨rfl,hc⟩
    have HC:=hide hc
    clear hc
    go_wp2_with fail
    refine(HC.out).mono ?_;rintro e u4⟨rp,a2,m2,c2,rfl,f3,br,⟨hbr,hbr2⟩,hc⟩
    have HC:=hide hc
    clear hc
    go_wp2_with fail
    refine(HC.out).mono ?_;rintro e u5⟨rfl,HL⟩
    clear HC
    go_wp2_with fail
    go_roundg (m-(k+1))
    case rel=>exact⟨k+1,by simp,by omega,HL⟩
    case measure=>omega
   ·have hkm:k=m:=by omega
    subst hkm
    have hlt3:¬(k:Int)<(k:Int):=by omega
    have HW:=hide (HE.out _ HL.out)
    clear HS HE HL
    go_wp2
    go_end0
    exact⟨rfl,HW⟩
theorem wty_any(hok:σ.Ok ar)(h2:ar arrowN=2):∀(n i:Nat)(ls:List Nat)(s:Nm)(ls':List Nat),wr σ n ls i=some (s,ls')->i<σ.nodes.length->ls'.length<=259->WrC ar ad X rk σ w0 b mb 13 #[adV ad i] s ls ls':=by
 intro n
 induction n with
 |zero=>intro i ls s ls' h;cases h
 |succ n ih=>
  intro i ls s ls' h hi hls l w hW hlen
  have hr:=hok.root_lt hi
  rw[wr]at h
  by_cases hl:σ.isLetter (σ.root i)=true
  ·rw[if_pos hl]at h
   have hnum:s=letterText (numOf ls (σ.root i)).1/\ls'=(numOf ls (σ.root i)).2/\(numOf ls (σ.root i)).1<260/\ls.length<=259:=by
    unfold numOf
    cases hx:ls.idxOf? (σ.root i)with
    |some k=>
     rw[hx]at h
     cases h
     have hk:k<ls.length:=by
      have:=List.idxOf?_eq_some_iff.1 hx
      obtain⟨h1,_⟩:=this
      exact h1
     exact⟨rfl,rfl,by show k<260;omega,hls⟩
    |none=>
     rw[hx]at h
     cases h
     rw[length_append,List.length_singleton]at hls
     exact⟨rfl,rfl,by show ls.length<260;omega,by omega⟩
   obtain⟨rfl,rfl,h3,h4⟩:=hnum
   exact wty_letter hW hi hl h3 (by omega) (by omega)
  ·have hl':σ.isLetter (σ.root i)=false:=by simpa using hl
   rw[if_neg hl]at h
   by_cases ha:(σ.node (σ.root i)).name=arrowN
   ·rw[if_pos ha]at h
    have hps2:(σ.node (σ.root i)).parts.length=2:=by
     have:=(hok.parts _ _ (TS.node_some hr)).2.2 (by rw[ha];decide)
     rw[ha,h2]at this
     exact this
    match hps:(σ.node (σ.root i)).parts,hps2 with
    |[a,c],_=>
     rw[hps]at h
     simp only at h
     have hal:a<σ.nodes.length:=hok.part_lt hr (by rw[hps];exact mem_cons_self ..)
     have hcl:c<σ.nodes.length:=hok.part_lt hr (by rw[hps];exact mem_cons_of_mem _ (mem_cons_self ..))
     cases hx:wr σ n ls a with
     |none=>rw[hx]at h;cases h
     |some y=>
      obtain⟨s1,ls1⟩:=y
      rw[hx]at h
      simp only at h
      cases hy:wr σ n ls1 c with
      |none=>rw[hy]at h;cases h
      |some z=>
       obtain⟨s2,ls2⟩:=z
       rw[hy]at h
       cases h
       have hm:=wr_mono _ _ _ _ _ hy
       exact wty_arrow hW hi hl' ha hps (ih a ls s1 ls1 hx hal (by omega)) (ih c ls1 s2 _ hy hcl hls) hlen
   ·rw[if_neg ha]at h
    cases hx:wr.wrL σ (wr σ n) ls (σ.node (σ.root i)).parts with
    |none=>rw[hx]at h;cases h
    |some y=>
     obtain⟨s1,ls1⟩:=y
     rw[hx]at h
     cases h
     exact wty_named hW hi hl' rfl ha hx rfl (by rw[length_append];exact hlen) (fun p hp ls1 s1 ls2 hw hle=>ih p ls1 s1 ls2 hw (hok.part_lt hr hp) (by omega))
end
end
section
open Go.RowKit
section
variable {ar:Nm->Nat}{ad:List Nat}{X:Nat->Prop}{rk:Nat->Nat}{σ:TS}{w0 w w':World}{i:Nat}{s:Nm}{ls':List Nat}
theorem Ws.start(h:StoM ar ad X rk σ w):Ws ar ad X rk σ w (w.heap.size+1) w.heap.size [] [] ((w.alloc (.map #[] 0)).alloc (.cells #[.pointer none,.slice none 0 0,.map (some w.heap.size)] tyWriter)):=by
 have hsz:(w.alloc (.map #[] 0)).heap.size=w.heap.size+1:=by simp
 have hb:((w.alloc (.map #[] 0)).alloc (.cells #[.pointer none,.slice none 0 0,.map (some w.heap.size)] tyWriter)).heap[w.heap.size+1]?=some (.cells #[.pointer none,.slice none 0 0,.map (some w.heap.size)] tyWriter (0,0)):=by
  rw[<- hsz];exact(MapKept.heap_alloc _ _).1
 have hold:∀k,k<w.heap.size->((w.alloc (.map #[] 0)).alloc (.cells #[.pointer none,.slice none 0 0,.map (some w.heap.size)] tyWriter)).heap[k]?=w.heap[k]?:=fun k hk=>by
  rw[Below.heap_alloc _ _ _ (by omega),Below.heap_alloc _ _ _ hk]
 refine⟨((Kn.refl _ w).alloc _).alloc _,(h.alloc _).alloc _,inl ⟨by omega,_,hb,World.ownsRow_nil _ _ _ _,by simp[Value.ownBlock]⟩,⟨_,(MapHas.made _ _ w).kept ?_,fun i _=>rfl,fun b hb=>(by cases hb),by simp⟩,le_refl _,h,fun k hk o _=>?_⟩
 ·exact Below.heap_alloc _ _ _ (by omega)
 ·simp[World.cell?,hold k (h.ad_lt hk)]
def AnsStr(ar:Nm->Nat)(ad:List Nat)(X:Nat->Prop)(rk:Nat->Nat)(σ:TS)(s:Nm)(w:World)(e:Ending)(w':World):Prop:=
 e=.returned (.string (bs s))/\StoM ar ad X rk σ w'/\Kn (·∈ad) w w'
theorem String_any(h:StoM ar ad X rk σ w)(h2:ar arrowN=2)(hi:i<σ.nodes.length)(hw:wr σ wkFuel [] i=some (s,ls'))(hls:ls'.length<=259)(hlen:s.length<=100000000000000)(hne:s≠[]) :
  Calls prog 8 #[adV ad i] w (AnsStr ar ad X rk σ s w):=by
 have hch:Calls prog 13 #[ptrV (w.heap.size+1),adV ad i] ((w.alloc (.map #[] 0)).alloc (.cells #[.pointer none,.slice none 0 0,.map (some w.heap.size)] tyWriter)) fun e w1=>e=.returned (.tuple #[])/\Calls prog 14 #[ptrV (w.heap.size+1)] w1 fun e w2=>e=.returned (.string (bs s))/\AnsStr ar ad X rk σ s w e w2:=by
  refine(wty_any h.ok h2 _ _ _ _ _ hw hi hls [] _ (Ws.start h) (by simpa using hlen)).mono ?_
  rintro e w1⟨rfl,h1⟩
  have h1:=h1.out
  rw[nil_append]at h1
  refine⟨rfl,(string_w s h1.bd hne).mono ?_⟩
  rintro e w2⟨rfl,h3⟩
  obtain⟨hB,c,hb⟩:=h1.bd.block
  exact⟨rfl,rfl,h1.st.fw h3 ⟨_,_,hb⟩,h1.kn.fw h3 hB⟩
 have HC:=hide hch
 clear hch h hw hlen hne hls hi h2
 generalize AnsStr ar ad X rk σ s w=Q at *
 unfold adV ptrV at *
 generalize adA ad i=bi at *
 generalize bs s=x at *
 have hmm:(Instr.makeMap tyNM none).run prog w=.ok (.map (some w.heap.size)) (w.alloc (.map #[] 0)):=rfl
 go_enter func8,ntmps8
 go_wp2_with fail
 refine(HC.out).mono ?_;rintro e w1⟨rfl,hc⟩
 have HC:=hide hc
 clear hc
 go_wp2_with fail
 refine(HC.out).mono ?_;rintro e w2⟨rfl,hq⟩
 go_wp2
 exact hq
end
end
section
section
variable {σ:TS}{T:List Nat->Nat->Bool}
theorem wkL_ls{n:Nat}(ih:∀{acc acc':List Nat}{i:Nat}{ls:List Nat}{s:Nm}{ls':List Nat},wk σ T n acc i=some (acc',true)->acc.length<=acc'.length/\(wr σ n ls i=some (s,ls')->ls'.length+acc.length<=ls.length+acc'.length)) :
  ∀(ps:List Nat) {acc acc':List Nat}{ls:List Nat}{s:Nm}{ls':List Nat},wk.wkL (wk σ T n) acc ps=some (acc',true)->acc.length<=acc'.length/\(wr.wrL σ (wr σ n) ls ps=some (s,ls')->ls'.length+acc.length<=ls.length+acc'.length):=by
 intro ps
 induction ps with
 |nil=>
  intro acc acc' ls s ls' h
  rw[wk.wkL]at h
  cases h
  refine⟨le_refl _,fun hs=>?_⟩
  rw[wr.wrL]at hs
  cases hs
  exact le_refl _
 |cons p r ihr=>
  intro acc acc' ls s ls' hw
  rw[wk.wkL]at hw
  cases hg:wk σ T n acc p with
  |none=>rw[hg]at hw;cases hw
  |some y=>
   obtain⟨a1,b1⟩:=y
   rw[hg]at hw
   cases b1 with
   |false=>cases hw
   |true=>
    have h1:=(ih (ls:=ls) (s:=s) (ls':=ls') hg).1
    have h4:=(ihr (ls:=ls) (s:=s) (ls':=ls') hw).1
    refine⟨by omega,fun hs=>?_⟩
    rw[wr.wrL]at hs
    cases hx:wr σ n ls p with
    |none=>rw[hx]at hs;cases hs
    |some y=>
     obtain⟨s1,ls1⟩:=y
     rw[hx]at hs
     simp only at hs
     cases hy:wr.wrL σ (wr σ n) ls1 r with
     |none=>rw[hy]at hs;cases hs
     |some z=>
      obtain⟨s2,ls2⟩:=z
      rw[hy]at hs
      cases hs
      have e1:=(ih hg).2 hx
      have e2:=(ihr hw).2 hy
      omega
theorem wr_ls:∀{n:Nat}{acc acc':List Nat}{i:Nat}{ls:List Nat}{s:Nm}{ls':List Nat},wk σ T n acc i=some (acc',true)->acc.length<=acc'.length/\(wr σ n ls i=some (s,ls')->ls'.length+acc.length<=ls.length+acc'.length):=by
 intro n
 induction n with
 |zero=>intro acc acc' i ls s ls' h;cases h
 |succ n ih=>
  intro acc acc' i ls s ls' hw
  rw[wk]at hw
  split at hw
  ·have h1:=(wkL_ls (fun {acc acc' i ls s ls'} a=>ih a) (ls:=ls) (s:=s) (ls':=ls') _ hw).1
   rw[length_append,List.length_singleton]at h1
   refine⟨by omega,fun hs=>?_⟩
   rw[wr]at hs
   split at hs
   ·split at hs<;>cases hs
    ·omega
    ·rw[length_append,List.length_singleton];omega
   ·split at hs
    ·split at hs
     ·rename_i a b r hps
      rw[hps]at hw
      cases hx:wr σ n ls a with
      |none=>rw[hx]at hs;cases hs
      |some y=>
       obtain⟨s1,ls1⟩:=y
       rw[hx]at hs
       simp only at hs
       cases hy:wr σ n ls1 b with
       |none=>rw[hy]at hs;cases hs
       |some z=>
        obtain⟨s2,ls2⟩:=z
        rw[hy]at hs
        cases hs
        rw[wk.wkL]at hw
        cases hg:wk σ T n (acc++[σ.root i]) a with
        |none=>rw[hg]at hw;cases hw
        |some y=>
         obtain⟨a1,b1⟩:=y
         rw[hg]at hw
         cases b1 with
         |false=>cases hw
         |true=>
          simp only at hw
          rw[wk.wkL]at hw
          cases hg2:wk σ T n a1 b with
          |none=>rw[hg2]at hw;cases hw
          |some y=>
           obtain⟨a2,b2⟩:=y
           rw[hg2]at hw
           cases b2 with
           |false=>cases hw
           |true=>
            simp only at hw
            have q1:=(ih hg).2 hx
            have q2:=(ih hg2).2 hy
            have q3:=(wkL_ls (fun {acc acc' i ls s ls'} a=>ih a) (ls:=ls) (s:=s1) (ls':=ls1) r hw).1
            rw[length_append,List.length_singleton]at q1
            omega
     ·cases hs
    ·cases hx:wr.wrL σ (wr σ n) ls (σ.node (σ.root i)).parts with
     |none=>rw[hx]at hs;cases hs
     |some y=>
      obtain⟨s1,ls1⟩:=y
      rw[hx]at hs
      cases hs
      have:=(wkL_ls (fun {acc acc' i ls s ls'} a=>ih a) _ hw).2 hx
      rw[length_append,List.length_singleton]at this
      omega
  ·cases hw
theorem wr_ne{n:Nat}{ls ls':List Nat}{i:Nat}{s:Nm}(h:wr σ n ls i=some (s,ls')):s≠[]:=by
 cases n with
 |zero=>cases h
 |succ n=>
  rw[wr]at h
  split at h
  ·split at h<;>cases h<;>simp[letterText]
  ·rename_i hl
   split at h
   ·split at h
    ·split at h
     ·cases h
     ·split at h
      ·cases h
      ·cases h;simp
    ·cases h
   ·split at h
    ·cases h
    ·cases h
     intro e
     have:=(List.append_eq_nil_iff.1 e).1
     exact hl (by unfold TS.isLetter;simpa using this)
theorem text_all{M i:Nat}(hok:σ.Rg)(har:Arrows σ)(hM:∀j,j<σ.nodes.length->(σ.node j).name.length<=M\/maxSize<(σ.node j).parts.length)(hi:i<σ.nodes.length)(hf:σ.fits i=true) :
  ∃ls,wr σ wkFuel [] i=some (σ.text i,ls)/\ls.length<=200/\(σ.text i).length<=200*(M+40)/\σ.text i≠[]:=by
 obtain⟨ls,h⟩:=TS.text_fits hok har hi hf
 obtain⟨a,ha⟩:=σ.fits_wk i
 rw[hf]at ha
 have h1:=(wr_len hok hM (ls:=[]) (s:=σ.text i) (ls':=ls) hi (by decide) ha).2.1
 have h2:=(wr_ls (ls:=[]) ha).2 h
 refine⟨ls,h,?_,text_len hok hM hi hf h,wr_ne h⟩
 simp only[length_nil]at h2
 have:maxSize=200:=rfl
 omega
end
end
section
open Go.RowKit
theorem step_append_run{ops:Array Oper}{o:Oper}{a:Act}{w w':World}{K:Act->World->Prop}{Q:Exit->Act->World->Prop}{E:Prop}{v' vs vx:Value}(hgd:o.guard=none)(s x:Operand)(ts:Array TypeId)
  (ho:o.op=.call { callee:=.builtin .append,args:=#[s,x],argTypes:=ts }) (hs:a.eval s=vs) (hx:a.eval x=vx) (hr:(Builtin.append_ ts o.type #[vs,vx]).run prog w=.ok v' w') (h:K (a.put o.dst v') w') :
  if Region.wanted o (yielded ops a.tmps)=true then Oper.wp prog o a w K Q else E:=by
 have hw:Region.wanted o (yielded ops a.tmps)=true:=by simp[Region.wanted,hgd]
 rw[if_pos hw]
 unfold Oper.wp execOp
 simp only[ho,resolve,invoke,builtin,Sem.run_bind,Sem.run_pure,Result.andThen_ok,List.map_toArray,map_cons,List.map_nil,hs,hx,hr]
 exact h
theorem readD_binds:∀(l:List Nd)(i:Nat)(p:PS),(readD i p l).2.binds.length<=p.binds.length+l.length/\∀b∈(readD i p l).2.binds,b∈p.binds\/∃nd∈l,b.1=nd.txt:=by
 have hd:∀(p:PS)(nd:Nd),∀b∈(declare p nd).2.binds,b∈p.binds\/b.1=nd.txt:=by
  intro p nd b hb
  unfold declare at hb
  simp only at hb
  split at hb
  ·exact inl hb
  ·split at hb
   ·exact inl hb
   ·split at hb
    ·exact inl hb
    ·split at hb
     ·exact inl hb
     ·dsimp only at hb
      rcases mem_append.1 hb with hb|hb
      ·exact inl hb
      ·rw[mem_singleton.1 hb];exact inr rfl
 intro l
 induction l with
 |nil=>intro i p;exact⟨le_refl _,fun b hb=>inl hb⟩
 |cons nd r ih=>
  intro i p
  have h1:(declare p nd).2.binds.length<=p.binds.length+1:=declare_binds (e:=(declare p nd).1) rfl
  rw[readD_cons]
  split
  ·refine⟨by rw[length_cons];dsimp only;omega,fun b hb=>?_⟩
   rcases hd p nd b hb with h|h
   ·exact inl h
   ·exact inr ⟨nd,mem_cons_self ..,h⟩
  ·obtain⟨h2,h3⟩:=ih (i+1) (declare p nd).2
   refine⟨by rw[length_cons];omega,fun b hb=>?_⟩
   rcases h3 b hb with h|⟨x,hx,h⟩
   ·rcases hd p nd b h with h|h
    ·exact inl h
    ·exact inr ⟨nd,mem_cons_self ..,h⟩
   ·exact inr ⟨x,mem_cons_of_mem _ hx,h⟩
theorem arOf_names{l:List Nd}(h:∀d∈l,DeclFine d)(nm:Nm):nm.length<=100000000\/maxSize<arOf l nm:=by
 by_cases h1:nm=arrowN
 ·subst h1;exact inl (by decide)
 by_cases h2:nm=refN
 ·subst h2;exact inl (by decide)
 by_cases h3:nm=intN\/nm=boolN\/nm=unitN
 ·rcases h3 with rfl|rfl|rfl<;>exact inl (by decide)
 cases hf:l.find? (fun d=>d.k==18 && d.txt==nm)with
 |none=>
  right
  unfold arOf
  rw[if_neg h1,if_neg h2,if_neg h3,hf]
  decide
 |some d=>
  left
  have hm:=List.mem_of_find?_eq_some hf
  have hk:=List.find?_some hf
  simp only[Bool.and_eq_true,beq_iff_eq]at hk
  rw[<- hk.2]
  exact(h d hm).ok.text
section
variable {w u u':World}{ad:List Nat}{rk:Nat->Nat}{p:PS}{bv v:Value}{k:Nat}{ar:Nm->Nat}
structure TyL(ar:Nm->Nat)(ad:List Nat)(rk:Nat->Nat)(p:PS)(bv:Value)(w:World)(k:Nat)(v:Value)(u:World):Prop where
 st:StoM ar ad (fun _=>False) rk p.sto u
 bg:u.ownsRow 0 tyBg 2 bv p.binds.length (bgCells ad p.binds)
 ln:u.ownsRow w.heap.size tyStr 1 v k (((typeLines p).take k).map strV)
 bw:Below w.heap.size w u
def TxtOk(p:PS):Prop:=∀b∈p.binds,b.2<p.sto.nodes.length/\b.1.length<=100000000/\∃ls,wr p.sto wkFuel [] b.2=some (p.sto.text b.2,ls)/\ls.length<=200/\(p.sto.text b.2).length<=100000000000/\p.sto.text b.2≠[]
theorem lines_take{p:PS}{k:Nat}{b:Nm×Nat}(hb:p.binds[k]?=some b):(typeLines p).take (k+1)=(typeLines p).take k++[b.1++[32,58,32]++p.sto.text b.2]:=by
 unfold typeLines
 rw[List.take_add_one,List.getElem?_map,hb]
 rfl
theorem round_facts(h:TyL ar ad rk p bv w k v u)(hlo:∀b∈ad,w.heap.size<=b)(hT:TxtOk p)(h2:ar arrowN=2)(hk:k<p.binds.length)(hn:p.binds.length<=100000){a:Option Addr}{m c:Nat}(hbv:bv=.slice a m c) :
  ∃g tx bt,a=some ⟨g,0,none⟩/\u.cell? ⟨g,k*2,none⟩=some (.string tx)/\u.cell? ⟨g,k*2+1,none⟩=some (ptrV bt)/\g<u.heap.size/\tx.size<=100000000 /\
   Calls prog 8 #[ptrV bt] (u.alloc (.cells #[.string tx,ptrV bt] tyBg)).drew fun e u1=>∃sx,e=.returned (.string sx)/\sx.size<=100000000000/\(u1.cell? ⟨u.heap.size,0,none⟩=some (.string tx)/\u1.cell? ⟨u.heap.size,1,none⟩=some (ptrV bt)) /\
    ((u1.alloc (.cells #[.string (tx++⟨#[32,58,32]⟩++sx)] tyStr)).cell? ⟨u.heap.size,0,none⟩=some (.string tx)/\(u1.alloc (.cells #[.string (tx++⟨#[32,58,32]⟩++sx)] tyStr)).cell? ⟨u.heap.size,1,none⟩=some (ptrV bt)) /\
    ∃v' u2,(Builtin.append_ #[22,22] 22 #[v,.slice (some ⟨u1.heap.size,0,none⟩) 1 1]).run prog (u1.alloc (.cells #[.string (tx++⟨#[32,58,32]⟩++sx)] tyStr))=.ok v' u2/\(u2.cell? ⟨u.heap.size,0,none⟩=some (.string tx)/\u2.cell? ⟨u.heap.size,1,none⟩=some (ptrV bt))/\Hid (TyL ar ad rk p bv w (k+1) v' u2):=by
 have hb:p.binds[k]?=some p.binds[k]:=List.getElem?_eq_getElem hk
 have hmem:=List.mem_of_getElem? hb
 generalize p.binds[k]=b at hb hmem
 obtain⟨nm,t⟩:=b
 obtain⟨ht,hnm,ls,hw,hls,htl,hne⟩:=hT _ hmem
 dsimp only at ht hnm hw htl hne
 subst hbv
 obtain⟨g,hg⟩:∃g,a=some ⟨g,0,none⟩:=by
  rcases ownsRow_forms h.bg with⟨_,h0⟩|⟨g,cap,e⟩
  ·omega
  ·cases e;exact⟨g,rfl⟩
 subst hg
 obtain⟨b1,b2⟩:=bgCells_at (ad:=ad) hb
 have hm:m=p.binds.length:=by
  rcases ownsRow_forms h.bg with⟨e,_⟩|⟨g,cap,e⟩
  ·cases e
  ·cases e;rfl
 subst hm
 have hc0:u.cell? ⟨g,k*2,none⟩=some (.string (bs nm)):=by rw[h.bg.cellAt (k*2) (by omega),b1]
 have hc1:u.cell? ⟨g,k*2+1,none⟩=some (adV ad t):=by rw[h.bg.cellAt (k*2+1) (by omega),b2]
 refine⟨g,bs nm,adA ad t,rfl,hc0,hc1,(h.bg.lt g rfl).2,by rw[bs_size];exact hnm,?_⟩
 have hst:StoM ar ad (fun _=>False) rk p.sto (u.alloc (.cells #[.string (bs nm),ptrV (adA ad t)] tyBg)).drew:=(h.st.alloc _).kept (fun _ _=>rfl) (fun _ _ _ _ _=>rfl)
 refine(String_any hst h2 ht hw (by omega) (by omega) hne).mono ?_
 rintro e u1⟨rfl,h3,h4⟩
 have hsz0:=h.bw.size
 have hWb:(u.alloc (.cells #[.string (bs nm),ptrV (adA ad t)] tyBg)).heap[u.heap.size]?=some (.cells #[.string (bs nm),ptrV (adA ad t)] tyBg (0,0)):=(MapKept.heap_alloc _ _).1
 have hsz1:u.heap.size+1<=u1.heap.size:=by have:=h4.size;simpa using this
 have hkeep:∀(q:Nat)(cc:Array Value)(ty:TypeId)(f:Nat×Nat),ty≠tyType->(u.alloc (.cells #[.string (bs nm),ptrV (adA ad t)] tyBg)).heap[q]?=some (.cells cc ty f)->u1.heap[q]?=some (.cells cc ty f):=fun q cc ty f hty hq=>by
  rw[h4.block q (lt_of_heap hq) (hst.not_mem (show (u.alloc (.cells #[.string (bs nm),ptrV (adA ad t)] tyBg)).drew.heap[q]?=_ from hq) (fun c' f' e=>by cases e;exact hty rfl))]
  exact hq
 have hold:∀(q:Nat)(cc:Array Value)(ty:TypeId)(f:Nat×Nat),ty≠tyType->u.heap[q]?=some (.cells cc ty f)->u1.heap[q]?=some (.cells cc ty f):=fun q cc ty f hty hq=>hkeep q cc ty f hty (by rw[Below.heap_alloc _ _ _ (lt_of_heap hq)];exact hq)
 have hW1:=hkeep _ _ _ _ (by decide) hWb
 have hbw1:Below w.heap.size w u1:=by
  refine h.bw.trans ⟨?_,?_,?_,by omega,fun q hq=>?_⟩
  ·exact h4.os
  ·exact h4.tape
  ·exact h4.output
  ·rw[h4.block q (by simp;omega) (fun hm=>by have:=hlo q hm;omega)]
   exact Below.heap_alloc _ _ _ (by omega)
 have hln1:u1.ownsRow w.heap.size tyStr 1 v ((typeLines p).take k).length (((typeLines p).take k).map strV):=by
  have hkl:((typeLines p).take k).length=k:=by rw[List.length_take];unfold typeLines;rw[length_map];omega
  rw[hkl]
  exact ownsRow_kept h.ln fun q cc f _ hq=>by rw[hold q cc _ f (by decide) hq,hq]
 have hbg1:u1.ownsRow 0 tyBg 2 (.slice (some ⟨g,0,none⟩) p.binds.length c) p.binds.length (bgCells ad p.binds):=ownsRow_kept h.bg fun q cc f _ hq=>by rw[hold q cc _ f (by decide) hq,hq]
 have hx:bs nm++⟨#[32,58,32]⟩++bs (p.sto.text t)=bs (nm++[32,58,32]++p.sto.text t):=by
  show bs nm++bs [32,58,32]++bs (p.sto.text t)=_
  rw[bs_app,bs_app]
 refine⟨bs (p.sto.text t),rfl,by rw[bs_size];exact htl,⟨by simp[World.cell?,hW1],by simp[World.cell?,hW1]⟩,?_,?_⟩
 ·have:=Below.heap_alloc u1 (.cells #[.string (bs nm++⟨#[32,58,32]⟩++bs (p.sto.text t))] tyStr) u.heap.size (by omega)
  exact⟨by simp[World.cell?,this,hW1],by simp[World.cell?,this,hW1]⟩
 rw[hx]
 obtain⟨v',u2,hrun,hown',hgrow⟩:=run_append_st (ty:=22) (nm++[32,58,32]++p.sto.text t) hln1 (by rw[List.length_take];omega) (by omega)
 have hkl:((typeLines p).take k).length=k:=by rw[List.length_take];unfold typeLines;rw[length_map];omega
 have hgk:∀(q:Nat)(cc:Array Value)(ty:TypeId)(f:Nat×Nat),ty≠tyStr->u1.heap[q]?=some (.cells cc ty f)->u2.heap[q]?=some (.cells cc ty f):=fun q cc ty f hty hq=>by
  have hq1:(u1.alloc (.cells #[.string (bs (nm++[32,58,32]++p.sto.text t))] tyStr)).heap[q]?=some (.cells cc ty f):=by rw[Below.heap_alloc _ _ _ (lt_of_heap hq)];exact hq
  rw[hgrow.block q (lt_of_heap hq1) (fun e=>?_)]
  ·exact hq1
  ·rcases hln1.2 with⟨rfl,_⟩|⟨g2,cap2,cur2,rfl,_,hg2,_⟩
   ·simp[Value.ownBlock]at e
   ·simp only[Value.ownBlock,Option.some.injEq]at e
    subst e
    rw[hq]at hg2
    cases hg2
    exact hty rfl
 have hW2:=hgk _ _ _ _ (by decide) hW1
 refine⟨v',u2,hrun,⟨by simp[World.cell?,hW2],by simp[World.cell?,hW2]⟩,hide ⟨?_,?_,?_,?_⟩⟩
 ·refine h3.kept (fun q hq=>?_) (fun q cc f _ hq=>?_)
  ·obtain⟨cc,f,hc⟩:=h3.isT hq
   rw[hc];exact hgk _ _ _ _ (by decide) hc
  ·rw[hq];exact hgk _ _ _ _ (by decide) hq
 ·exact ownsRow_kept hbg1 fun q cc f _ hq=>by rw[hgk q cc _ f (by decide) hq,hq]
 ·rw[lines_take hb]
  have:((typeLines p).take k++[nm++[32,58,32]++p.sto.text t]).length=k+1:=by rw[length_append,hkl];rfl
  rw[this]at hown'
  exact hown'
 ·exact(hbw1.alloc (by omega) _).grown hgrow (by simp;omega) (fun q hq=>(hln1.lt q hq).1)
end
end
section
open Go.RowKit
def typesA(D:Toks->Option Tr)(l:List UInt8):List Nm×Nat×Nat:=
 if (progAD D l).2.2≠0 then([],(progAD D l).2.1,(progAD D l).2.2)
 else if (readD 0 ahead (declsOf D l)).1.2≠0 then([],(readD 0 ahead (declsOf D l)).1.1,(readD 0 ahead (declsOf D l)).1.2)
 else(typeLines (readD 0 ahead (declsOf D l)).2,0,0)
def TyA(D:Toks->Option Tr)(l:List UInt8)(w:World)(e:Ending)(w':World):Prop:=
 Below w.heap.size w w'/\((progAD D l).2.2=0->∀nd∈declsOf D l,DeclFine nd)/\∃v,e=.returned (.tuple #[v,.int .i64 (typesA D l).2.1,.int .i64 (typesA D l).2.2])/\w'.ownsRow w.heap.size tyStr 1 v (typesA D l).1.length ((typesA D l).1.map strV)
theorem txt_ok{D:Toks->Option Tr}{l:List UInt8}{ad:List Nat}{rk:Nat->Nat}{tb pb:Nat}{dv bv:Value}{w:World}(hf:∀nd∈declsOf D l,DeclFine nd)(h0:(readD 0 ahead (declsOf D l)).1=(0,0))(h:PsM (arOf (declsOf D l)) ad rk (readD 0 ahead (declsOf D l)).2 tb pb dv bv w):TxtOk (readD 0 ahead (declsOf D l)).2:=by
 obtain⟨hok,_,_⟩:=readD_ok (declsOf D l) 0 ahead ahead_ok (fun nd hnd=>(hf nd hnd).full) h0
 have hnm:=(readD_binds (declsOf D l) 0 ahead).2
 have har:=arOf_ok hf
 have hnames:=arOf_names hf
 generalize (readD 0 ahead (declsOf D l)).2=p at *
 generalize arOf (declsOf D l)=ar at *
 have hparts:=h.sto.ok.parts
 intro b hb
 have hlt:b.2<p.sto.nodes.length:=by rw[<- h.sto.len];exact h.lt b hb
 obtain⟨ls,h1,h2,h3,h4⟩:=text_all (σ:=p.sto) (M:=100000000) hok.rg (fun i hi hn=>by
  have:=(hparts i _ (TS.node_some hi)).2.2 (by rw[hn];decide)
  rw[hn,har.arrow]at this
  exact this) (fun j hj=>by
  by_cases hn:(p.sto.node j).name=[]
  ·left;rw[hn];exact zero_le _
  ·rw[(hparts j _ (TS.node_some hj)).2.2 hn]
   exact hnames _) hlt (hok.binds b hb).2
 refine⟨hlt,?_,ls,h1,h2,by omega,h4⟩
 rcases hnm b hb with h|⟨nd,hnd,e⟩
 ·cases h
 ·rw[e];exact(hf nd hnd).ok.text
theorem cells_bg(u:World)(x y:Value):(u.alloc (.cells #[x,y] tyBg)).drew.cell? ⟨u.heap.size,0,none⟩=some x/\(u.alloc (.cells #[x,y] tyBg)).drew.cell? ⟨u.heap.size,1,none⟩=some y:=by
 have h:(u.alloc (.cells #[x,y] tyBg)).drew.heap[u.heap.size]?=some (.cells #[x,y] tyBg (0,0)):=(MapKept.heap_alloc _ _).1
 exact⟨by simp only[World.cell?,h];rfl,by simp only[World.cell?,h];rfl⟩
end
end Go.Proofs.YtbkiipiocpnnnaaGreatDoor
