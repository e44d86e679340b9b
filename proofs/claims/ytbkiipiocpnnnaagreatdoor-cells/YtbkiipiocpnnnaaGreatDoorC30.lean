import Derived.Test.YtbkiipiocpnnnaaGreatDoorC29
set_option linter.all false
set_option maxHeartbeats 40000000
set_option maxRecDepth 100000
open Go.Proofs.Tryz
open Option (map_eq_some_iff)
open Nat (le_refl le_trans lt_of_lt_of_le lt_succ_self)
open List (length_append length_cons length_nil)
namespace Go.Proofs.YtbkiipiocpnnnaaGreatDoor
section
open Go.RowKit
theorem Run_of{txt s so:ByteArray}{n:Nat}{a b:Int}{w:World}(hn:n<=4000)
  (hR:∀v,Calls prog 7 #[.string txt] v fun e u=>∃pb,e=.returned (.tuple #[ptrV pb,.int .i64 0,.int .i64 0])/\Below v.heap.size v u/\∀u2,Kn (fun _=>False) u u2->Calls prog 9 #[ptrV pb,.string s,.int .i64 (n:Nat)] u2 fun e u3=>e=.returned (.agg #[.string so,.int .i64 a,.int .i64 b])/\Below u2.heap.size u2 u3) :
  Calls prog 6 #[.string txt,.string s,.int .i64 (n:Nat)] w fun e w'=>e=.returned (.tuple #[.agg #[.string so,.int .i64 a,.int .i64 b],.int .i64 0,.int .i64 0])/\Below w.heap.size w w':=by
 have a1:=al1 w (.cells #[.string ⟨#[]⟩,.int .i64 0,.int .i64 0] 28)
 have hb0:Below w.heap.size w (w.alloc (.cells #[.string ⟨#[]⟩,.int .i64 0,.int .i64 0] 28)):=(Below.refl _ _).alloc (le_refl _) _
 generalize hw1:w.alloc (.cells #[.string ⟨#[]⟩,.int .i64 0,.int .i64 0] 28)=w1 at *
 have hR1:Calls prog 7 #[.string txt] w1 fun e u=>∃pb,e=.returned (.tuple #[ptrV pb,.int .i64 0,.int .i64 0])/\Hid (∀u2,Kn (fun _=>False) u u2->Calls prog 9 #[ptrV pb,.string s,.int .i64 (n:Nat)] u2 fun e u3=>e=.returned (.agg #[.string so,.int .i64 a,.int .i64 b])/\((u3.cell? ⟨w.heap.size,0,none⟩=some (.string ⟨#[]⟩)/\u3.cell? ⟨w.heap.size,1,none⟩=some (.int .i64 0)/\u3.cell? ⟨w.heap.size,2,none⟩=some (.int .i64 0))/\(u3.frozen? ⟨w.heap.size,0,none⟩=false/\u3.frozen? ⟨w.heap.size,1,none⟩=false/\u3.frozen? ⟨w.heap.size,2,none⟩=false))/\Hid (Below w.heap.size w u3)):=(hR w1).mono (by
  rintro e u⟨pb,rfl,hb,hc⟩
  refine⟨pb,rfl,fun u2 hu2=>(hc u2 hu2).mono ?_⟩
  rintro e u3⟨rfl,hk⟩
  have h1:u.heap[w.heap.size]?=some (.cells #[.string ⟨#[]⟩,.int .i64 0,.int .i64 0] 28 (0,0)):=(hb.block _ (lt_of_heap a1)).trans a1
  have h2:u2.heap[w.heap.size]?=some (.cells #[.string ⟨#[]⟩,.int .i64 0,.int .i64 0] 28 (0,0)):=(hu2.block _ (lt_of_heap h1) id).trans h1
  have h3:=(hk.block _ (lt_of_heap h2)).trans h2
  have hb1:Below w.heap.size w u:=hb0.trans (hb.mono hb0.size)
  have hb2:Below w.heap.size w u2:=hb1.trans ⟨hu2.os,hu2.tape,hu2.output,hu2.size,fun k hk=>hu2.block k (lt_of_lt_of_le hk hb1.size) id⟩
  have hb3:Below w.heap.size w u3:=hb2.trans (hk.mono hb2.size)
  exact⟨rfl,⟨⟨(cell_of h3 0).trans rfl,(cell_of h3 1).trans rfl,(cell_of h3 2).trans rfl⟩,froz_of h3 0,froz_of h3 1,froz_of h3 2⟩,hide hb3⟩)
 have HR:=hide hR1
 have e0:((0:Int) != 0)=false:=by decide
 have h1:¬((n:Int)<0):=by omega
 have h2:¬((4000:Int)<(n:Int)):=by omega
 have h3:decide ((n:Int)<0)=false:=by simp
 have h4:decide ((n:Int)>4000)=false:=by simp;omega
 clear hR hR1 a1 hb0
 unfold ptrV at *
 go_enter func6,ntmps6
 go_wp2_with fail
 refine(HR.out).mono ?_
 rintro e u⟨pb,rfl,HC⟩
 clear HR
 go_wp2_with fail
 refine(HC.out _ (Kn.refl _ _)).mono ?_
 rintro e u3⟨rfl,⟨⟨r0,r1,r2⟩,f0,f1,f2⟩,HB⟩
 clear HC
 go_wp2
 refine bodyPost_ret (v:=.tuple #[.agg #[.string so,.int .i64 a,.int .i64 b],.int .i64 0,.int .i64 0]) (by simp[results,results6,go_sem,r0,r1,r2]) rfl ⟨rfl,?_⟩
 exact(((HB.out).setCell (le_refl _) _).setCell (le_refl _) _).setCell (le_refl _) _
end
section
theorem only_sz{k:Nat}:∀(rows:List Nd),Nd.sz.szs (only k rows)<=Nd.sz.szs rows:=by
 intro rows
 induction rows with
 |nil=>simp[only]
 |cons x r ih=>
  unfold only at *
  rw[List.filter_cons]
  split
  ·rw[Nd.sz.szs,Nd.sz.szs];omega
  ·rw[Nd.sz.szs];omega
section
variable {g:Env->Nat->Nd->TS->Option (Nat×TS)}
theorem exX_given(hg:∀ρ d a σ t σ',g ρ d a σ=some (t,σ')->σ'.given.length<=σ.given.length+a.sz){ρ:Env}{d:Nat}{p:Nd}{want:Nat}{σ σ':TS}(h:exX g ρ d p want σ=some σ'):σ'.given.length<=σ.given.length+p.sz:=by
 unfold exX at h
 split at h
 ·rename_i t s1 hs
  have:=hg _ _ _ _ _ _ hs
  rw[unify_given h];exact this
 ·cases h
theorem boundT_given(hg:∀ρ d a σ t σ',g ρ d a σ=some (t,σ')->σ'.given.length<=σ.given.length+a.sz){ρ:Env}{d:Nat}{isRec:Bool}{txt:Nm}{a:Nd}{σ:TS}{t:Nat}{σ':TS}(h:boundT g ρ d isRec txt a σ=some (t,σ')):σ'.given.length<=σ.given.length+a.sz:=by
 unfold boundT at h
 dsimp only at h
 split at h
 ·rename_i t1 s1 hs
  split at h
  ·cases h
   rw[openAll_given]
   split at hs
   ·split at hs
    ·rename_i t2 s2 hs2
     obtain⟨s3,h3,h4⟩:=map_eq_some_iff.1 hs
     cases h4
     rw[unify_given h3]
     have:=hg _ _ _ _ _ _ hs2
     exact this
    ·cases hs
   ·exact hg _ _ _ _ _ _ hs
  ·cases h
 ·cases h
theorem rowsT_given(hg:∀ρ d a σ t σ',g ρ d a σ=some (t,σ')->σ'.given.length<=σ.given.length+a.sz){ρ:Env}{d subj ans:Nat}:∀(rows:List Nd)(σ σ':TS),rowsT g ρ d subj ans rows σ=some σ'->σ'.given.length<=σ.given.length+Nd.sz.szs rows:=by
 intro rows
 induction rows with
 |nil=>intro σ σ' h;rw[rowsT]at h;cases h;simp
 |cons r rest ih=>
  intro σ σ' h
  obtain⟨k,txt,ps⟩:=r
  match ps,h with
  |[p,e],h=>
   rw[rowsT]at h
   split at h
   ·rename_i σ1 vs h1
    have q1:σ1.given.length<=σ.given.length+p.sz:=patX_given (fun s t s'=>patT_given _ p s t s') h1
    split at h
    ·rename_i σ2 h2
     have q2:=exX_given hg h2
     have q3:=ih _ _ h
     rw[Nd.sz.szs,Nd.sz,Nd.sz.szs,Nd.sz.szs,Nd.sz.szs]
     omega
    ·cases h
   ·cases h
  |[],h=>cases h
  |[_],h=>cases h
  |_::_::_::_,h=>cases h
theorem formT_given(hg:∀ρ d a σ t σ',g ρ d a σ=some (t,σ')->σ'.given.length<=σ.given.length+a.sz){ρ:Env}{d:Nat}{nd:Nd}{σ:TS}{t:Nat}{σ':TS}(h:formT g ρ d nd σ=some (t,σ')):σ'.given.length+1<=σ.given.length+nd.sz:=by
 obtain⟨k,txt,ps⟩:=nd
 rw[Nd.sz]
 unfold formT at h
 dsimp only at h
 split at h
 ·cases h;simp[TS.named,TS.new]
 ·cases h;simp[TS.named,TS.new]
 ·cases h;simp[TS.named,TS.new]
 ·split at h
  ·split at h
   ·unfold TS.inst at h
    obtain⟨r,h1,h2⟩:=map_eq_some_iff.1 h
    cases h2
    rw[(inst_ext h1).given];omega
   ·cases h
  ·cases h
 ·have h1:=conT_given (get:=id) (put:=fun _ τ=>τ) (fun _ _=>rfl) (fun p _ want s s' hx=>exX_given hg hx) h
  have h1:σ'.given.length<=σ.given.length+Nd.sz.szs _:=h1
  omega
 ·split at h
  ·rename_i a t1 s1 hs
   cases h
   have:=hg _ _ _ _ _ _ hs
   simp only[TS.named,TS.letter,TS.new]at *
   rw[Nd.sz.szs,Nd.sz.szs]
   omega
  ·cases h
 ·split at h
  ·rename_i a b f σ1 h1
   split at h
   ·rename_i x σ2 h2
    obtain⟨s,h3,h4⟩:=map_eq_some_iff.1 h
    cases h4
    have q1:=hg _ _ _ _ _ _ h1
    have q2:=hg _ _ _ _ _ _ h2
    have q3:=unify_given h3
    simp only[TS.named,TS.letter,TS.new]at q3
    rw[q3,Nd.sz.szs,Nd.sz.szs,Nd.sz.szs]
    omega
   ·cases h
  ·cases h
 ·split at h
  ·rename_i a b t1 σ1 h1
   have q1:=boundT_given hg h1
   have q2:=hg _ _ _ _ _ _ h
   rw[Nd.sz.szs,Nd.sz.szs,Nd.sz.szs]
   omega
  ·cases h
 ·split at h
  ·rename_i a b t1 σ1 h1
   have q1:=boundT_given hg h1
   have q2:=hg _ _ _ _ _ _ h
   rw[Nd.sz.szs,Nd.sz.szs,Nd.sz.szs]
   omega
  ·cases h
 ·split at h
  ·rename_i c a b σ1 h1
   split at h
   ·rename_i t2 σ2 h2
    obtain⟨s,h3,h4⟩:=map_eq_some_iff.1 h
    cases h4
    have q1:=exX_given hg h1
    have q2:=hg _ _ _ _ _ _ h2
    have q3:=exX_given hg h3
    simp only[TS.named,TS.new]at q1
    rw[Nd.sz.szs,Nd.sz.szs,Nd.sz.szs,Nd.sz.szs]
    omega
   ·cases h
  ·cases h
 ·split at h
  ·rename_i a b σ1 h1
   have q1:=exX_given hg h1
   have q2:=hg _ _ _ _ _ _ h
   simp only[TS.named,TS.new]at q1
   rw[Nd.sz.szs,Nd.sz.szs,Nd.sz.szs]
   omega
  ·cases h
 ·split at h
  ·rename_i a b c σ1 h1
   split at h
   ·rename_i v σ2 h2
    split at h
    ·rename_i σ3 h3
     cases h
     have q1:=hg _ _ _ _ _ _ h1
     have q2:=hg _ _ _ _ _ _ h2
     have q3:=unify_given h3
     simp only[TS.named,TS.new]at q3 ⊢
     rw[q3,Nd.sz.szs,Nd.sz.szs,Nd.sz.szs]
     omega
    ·cases h
   ·cases h
  ·cases h
 ·obtain⟨s,h3,h4⟩:=map_eq_some_iff.1 h
  cases h4
  have q1:=exX_given hg h3
  simp only[TS.named,TS.letter,TS.new]at q1
  rw[Nd.sz.szs,Nd.sz.szs]
  omega
 ·split at h
  ·rename_i t1 σ1 h1
   obtain⟨s,h3,h4⟩:=map_eq_some_iff.1 h
   cases h4
   have q1:=hg _ _ _ _ _ _ h1
   have q2:=le_trans (rowsT_given hg _ _ _ h3) (Nat.add_le_add_left (only_sz _) _)
   simp only[TS.letter,TS.new]at q2
   rw[Nd.sz.szs]
   omega
  ·cases h
 ·split at h
  ·rename_i a b _ _ σ1 h1
   split at h
   ·rename_i σ2 h2
    cases h
    have q1:=exX_given hg h1
    have q2:=exX_given hg h2
    simp only[TS.named,TS.new]at q1 q2 ⊢
    rw[Nd.sz.szs,Nd.sz.szs,Nd.sz.szs]
    omega
   ·cases h
  ·cases h
 ·cases h
end
theorem exT_given:∀(n:Nat)(ρ:Env)(d:Nat)(nd:Nd)(σ:TS)(t:Nat)(σ':TS),exT n ρ d nd σ=some (t,σ')->σ'.given.length<=σ.given.length+nd.sz:=by
 intro n
 induction n with
 |zero=>intro ρ d nd σ t σ' h;cases h
 |succ n ih=>
  intro ρ d nd σ t σ' h
  rw[exT]at h
  split at h
  ·rename_i t1 s1 hs
   cases h
   have:=formT_given ih hs
   simp only[TS.give,length_append,length_cons,length_nil]
   omega
  ·cases h
end
section
open Go.RowKit
def PtSh(p:Nd):Prop:=∀x∈p.all,x.txt.length<=100000000/\x.ps.length<=1000000/\(x.k<=4\/x.k=14)/\(x.k≠14->x.ps=[])
def XSh:Nat->Nd->Prop
 |0,_=>True
 |m+1,.mk k txt ps=>txt.length<=100000000/\ps.length<=1000000 /\
  match k,ps with
  |0,_=>True
  |1,_=>True
  |2,_=>True
  |3,_=>True
  |14,ps=>∀p∈ps,XSh m p
  |5,[a]=>XSh m a
  |12,[a]=>XSh m a
  |6,[a,b]=>XSh m a/\XSh m b
  |7,[a,b]=>XSh m a/\XSh m b
  |9,[a,b]=>XSh m a/\XSh m b
  |10,[a,b]=>XSh m a/\XSh m b
  |11,[a,b]=>XSh m a/\XSh m b
  |13,[a,b]=>XSh m a/\XSh m b
  |8,[c,a,b]=>XSh m c/\XSh m a/\XSh m b
  |15,a::rows=>XSh m a/\a.k<=15/\∀r∈rows,∃t p e,r=.mk 16 t [p,e]/\PtSh p/\XSh m e
  |_,_=>False
structure EnvB(ar:Nm->Nat)(ρ:Env):Prop where
 con:∀c m,ρ.get (1,c)=some m->ConIn ar m m.vr.parts.length
 var:∀x m,ρ.get (0,x)=some m->∃t,m.scheme=some t
theorem EnvB.bind{ar:Nm->Nat}{ρ:Env}(h:EnvB ar ρ)(x:Nm)(t:Nat):EnvB ar (((0,x),Mg.var t)::ρ):=by
 refine⟨fun c m hc=>?_,fun y m hy=>?_⟩
 ·rw[get_cons_ne (by simp)]at hc;exact h.con c m hc
 ·rw[Env.get]at hy
  split at hy
  ·cases hy;exact⟨t,rfl⟩
  ·exact h.var y m hy
end
section
open Go.RowKit
section
variable {ar:Nm->Nat}{ad:List Nat}{Y:Nat->Prop}{rk:Nat->Nat}{σ:TS}{ρ:Env}{tb yb d:Nat}{gv:Value}{w w':World}{nb:Nat}{txt:Nm}
theorem form_seq{g cap ba bb:Nat}{oa:Option TS}{ob:TS->Option (Nat×TS)}(h0:ar unitN=0)(h:YM ar ad Y rk σ ρ tb yb d gv w)(hp:PtAt nb 9 txt g cap [ba,bb] w)
  (hA:∀u,Kn (Dm ad tb yb gv) w u->YM ar (ad++[w.heap.size]) Y rk (σ.named unitN []).2 ρ tb yb d gv u->Calls prog 94 #[ptrV yb,ptrV ba,adV (ad++[w.heap.size]) σ.nodes.length] u (AnEx ar (ad++[w.heap.size]) Y ρ tb yb d gv oa u))
  (hB:∀u σ' l rk' gv',Kn (Dm ad tb yb gv) w u->oa=some σ'->YM ar (ad++l) Y rk' σ' ρ tb yb d gv' u->Calls prog 139 #[ptrV yb,ptrV bb] u (AnTy ar (ad++l) Y ρ tb yb d gv' (ob σ') u)) :
  Calls prog 187 #[ptrV yb,ptrV nb] w (AnTy ar ad Y ρ tb yb d gv (oa.bind ob) w):=by
 have hc0:=seq_chain h0 h hp hA hB w.drew (Kn.drewF w) rfl
 obtain⟨ck,_,_,_⟩:=hp.cells
 have HCH:=hide hc0
 clear hc0 h0 h hp hA hB
 generalize AnTy ar ad Y ρ tb yb d gv (oa.bind ob) w=Q at *
 unfold noTy noTypeV Two ptrV at *
 go_enter func187,ntmps187
 go_wp2_with fail
 obtain⟨⟨c1a,c2a,c3a⟩,hu⟩:=HCH.out
 have HU:=hide hu
 clear hu HCH
 go_region_held2 (fun w'=>w'.cell? ⟨nb,2,none⟩=some (.slice (some ⟨g,0,none⟩) 2 cap)/\w'.cell? ⟨g,0,none⟩=some (.pointer (some ⟨ba,0,none⟩))/\w'.cell? ⟨g,1,none⟩=some (.pointer (some ⟨bb,0,none⟩))) (exact⟨c1a,c2a,c3a⟩) (first|(go_at_call 28;refine(HU.out).mono ?_;rintro e u1⟨rfl,⟨c1a,c2a,c3a⟩,hc⟩;have HC:=hide hc;clear hc)|(go_at_call 94;refine(HC.out).mono ?_;rintro e u2 (⟨rfl,hp⟩|⟨rfl,⟨c1a,c2a,c3a⟩,hc⟩);(focus (exact⟨rfl,hp⟩));have HE:=hide hc;clear hc))
 all_goals
  go_wp2_with fail
  refine(HE.out).mono ?_;rintro e u3 (⟨rfl,hp⟩|⟨b,rfl,hq⟩)
  ·exact⟨rfl,hp⟩
  ·have HG:=hide hq
   clear hq HE
   go_wp2
   exact HG.out
end
end
section
open Go.RowKit
section
variable {ar:Nm->Nat}{ad:List Nat}{Y:Nat->Prop}{rk:Nat->Nat}{σ:TS}{ρ:Env}{tb yb d:Nat}{gv:Value}{w w':World}{nb:Nat}{txt:Nm}
theorem form_if{g cap ba bb bc:Nat}{oa:Option TS}{ob:TS->Option (Nat×TS)}{oc:Nat->TS->Option TS}(h0:ar boolN=0)(h:YM ar ad Y rk σ ρ tb yb d gv w)(hp:PtAt nb 8 txt g cap [ba,bb,bc] w)
  (hA:∀u,Kn (Dm ad tb yb gv) w u->YM ar (ad++[w.heap.size]) Y rk (σ.named boolN []).2 ρ tb yb d gv u->Calls prog 94 #[ptrV yb,ptrV ba,adV (ad++[w.heap.size]) σ.nodes.length] u (AnEx ar (ad++[w.heap.size]) Y ρ tb yb d gv oa u))
  (hB:∀u σ' l rk' gv',Kn (Dm ad tb yb gv) w u->oa=some σ'->YM ar (ad++l) Y rk' σ' ρ tb yb d gv' u->Calls prog 139 #[ptrV yb,ptrV bb] u (AnTy ar (ad++l) Y ρ tb yb d gv' (ob σ') u))
  (hC:∀u t σ0 σ' l rk' gv',Kn (Dm ad tb yb gv) w u->oa=some σ0->ob σ0=some (t,σ')->t<σ'.nodes.length->YM ar (ad++l) Y rk' σ' ρ tb yb d gv' u->Calls prog 94 #[ptrV yb,ptrV bc,adV (ad++l) t] u (AnEx ar (ad++l) Y ρ tb yb d gv' (oc t σ') u)) :
  Calls prog 187 #[ptrV yb,ptrV nb] w (AnTy ar ad Y ρ tb yb d gv (ifO oa ob oc) w):=by
 have hc0:=if_chain h0 h hp hA hB hC w.drew (Kn.drewF w) rfl
 obtain⟨ck,_,_,_⟩:=hp.cells
 have HCH:=hide hc0
 clear hc0 h0 h hp hA hB hC
 generalize AnTy ar ad Y ρ tb yb d gv (ifO oa ob oc) w=Q at *
 unfold noTy noTypeV Three ptrV at *
 go_enter func187,ntmps187
 go_wp2_with fail
 obtain⟨⟨c1a,c2a,c3a,c4a⟩,hu⟩:=HCH.out
 have HU:=hide hu
 clear hu HCH
 go_region_held2 (fun w'=>w'.cell? ⟨nb,2,none⟩=some (.slice (some ⟨g,0,none⟩) 3 cap)/\w'.cell? ⟨g,0,none⟩=some (.pointer (some ⟨ba,0,none⟩))/\w'.cell? ⟨g,1,none⟩=some (.pointer (some ⟨bb,0,none⟩))/\w'.cell? ⟨g,2,none⟩=some (.pointer (some ⟨bc,0,none⟩))) (exact⟨c1a,c2a,c3a,c4a⟩) (first|(go_at_call 244;refine(HU.out).mono ?_;rintro e u1⟨rfl,⟨c1a,c2a,c3a,c4a⟩,hc⟩;have HC:=hide hc;clear hc)|(go_at_call 94;refine(HC.out).mono ?_;rintro e u2 (⟨rfl,hp⟩|⟨rfl,⟨c1a,c2a,c3a,c4a⟩,hc⟩);(focus (exact⟨rfl,hp⟩));have HE:=hide hc;clear hc))
 all_goals
  go_wp2_with fail
  refine(HE.out).mono ?_;rintro e u3 (⟨rfl,hp⟩|⟨b,rfl,⟨c1a,c2a,c3a,c4a⟩,hq⟩)
  ·exact⟨rfl,hp⟩
  ·have HX:=hide hq
   clear hq HE
   go_wp2_with fail
   refine(HX.out).mono ?_;rintro e u4 (⟨rfl,hp⟩|⟨rfl,hq⟩)
   ·exact⟨rfl,hp⟩
   ·have HG:=hide hq
    clear hq HX
    go_wp2
    exact HG.out
end
end
section
open Go.RowKit
section
variable {ar:Nm->Nat}{ad:List Nat}{Y:Nat->Prop}{rk:Nat->Nat}{σ:TS}{ρ:Env}{tb yb d:Nat}{gv:Value}{w w':World}{nb:Nat}{txt:Nm}
theorem form_set(har:∀nm,ar nm<=1000000){g cap ba bb:Nat}{oa:Option (Nat×TS)}{ob:TS->Option (Nat×TS)}(h0:ar unitN=0)(hr:ar refN=1)(h:YM ar ad Y rk σ ρ tb yb d gv w)(hp:PtAt nb 10 txt g cap [ba,bb] w)
  (hA:∀u,Kn (Dm ad tb yb gv) w u->YM ar ad Y rk σ ρ tb yb d gv u->Calls prog 139 #[ptrV yb,ptrV ba] u (AnTy ar ad Y ρ tb yb d gv oa u))
  (hB:∀u t σ' l rk' gv',Kn (Dm ad tb yb gv) w u->oa=some (t,σ')->YM ar (ad++l) Y rk' σ' ρ tb yb d gv' u->Calls prog 139 #[ptrV yb,ptrV bb] u (AnTy ar (ad++l) Y ρ tb yb d gv' (ob σ') u)) :
  Calls prog 187 #[ptrV yb,ptrV nb] w (AnTy ar ad Y ρ tb yb d gv (setO oa ob) w):=by
 obtain⟨⟨c1,c2,c3⟩,hc0⟩:=set_chain har h0 hr h hp hA hB
 obtain⟨ck,_,_,_⟩:=hp.cells
 have HCH:=hide hc0
 have HN:=hide need_any
 have HDR:=hide (fun u:World=>Kn.refl (fun _=>False) u)
 clear hc0 h0 hr har h hp hA hB
 generalize AnTy ar ad Y ρ tb yb d gv (setO oa ob) w=Q at *
 unfold noTy noTypeV Two ptrV at *
 go_enter func187,ntmps187
 go_wp2_with fail
 refine(HCH.out).mono ?_;rintro e u2 (⟨rfl,hp⟩|⟨bf,rfl,hu⟩)
 ·exact⟨rfl,hp⟩
 obtain⟨⟨c1a,c2a,c3a⟩,hu⟩:=hu u2 (HDR.out u2)
 have HU:=hide hu
 clear hu HCH
 go_wp2_with fail
 refine(HU.out).mono ?_;rintro e u3 (⟨rfl,hp⟩|⟨bx,rfl,⟨c1b,c2b,c3b⟩,hc⟩)
 ·exact⟨rfl,hp⟩
 have HC:=hide hc
 clear hc HU
 go_wp2_with fail
 refine(HC.out).mono ?_;rintro e u4⟨bc,rfl,_,hc⟩
 have HX:=hide hc
 clear hc HC
 go_wp2_with fail
 refine(HX.out).mono ?_;rintro e u5⟨v,rfl,_,hno,hyes⟩
 have HNO:=hide hno
 have HYES:=hide hyes
 clear hno hyes HX
 go_wp2_with fail
 refine(HN.out _ _).mono ?_;rintro e u6⟨rfl,⟨hv,rfl⟩|⟨hv,rfl⟩⟩
 ·exact⟨rfl,HNO.out hv⟩
 have HE:=hide (HYES.out hv)
 clear HNO HYES
 go_wp2_with fail
 refine(HE.out).mono ?_;rintro e u7⟨b,rfl,hq⟩
 have HG:=hide hq
 clear hq HE
 go_wp2
 exact HG.out
end
end
section
open Go.RowKit
section
variable {ar:Nm->Nat}{ad:List Nat}{Y:Nat->Prop}{rk:Nat->Nat}{σ:TS}{ρ:Env}{tb yb d:Nat}{gv:Value}{w w':World}{nb:Nat}{txt:Nm}
theorem form_fetch{g cap ba:Nat}{oa:Option TS}(hr:ar refN=1)(h:YM ar ad Y rk σ ρ tb yb d gv w)(hp:PtAt nb 12 txt g cap [ba] w)
  (hA:∀u l,Kn (Dm ad tb yb gv) w u->YM ar (ad++l) Y rk ((σ.letter d).2.named refN [σ.nodes.length]).2 ρ tb yb d gv u->Calls prog 94 #[ptrV yb,ptrV ba,adV (ad++l) (σ.nodes.length+1)] u (AnEx ar (ad++l) Y ρ tb yb d gv oa u)) :
  Calls prog 187 #[ptrV yb,ptrV nb] w (AnTy ar ad Y ρ tb yb d gv (fetchO σ.nodes.length oa) w):=by
 have hc0:=fetch_chain hr h hp hA
 obtain⟨ck,_,_,_⟩:=hp.cells
 have HCH:=hide hc0
 have HDR:=hide Kn.drewF
 clear hc0 hr h hp hA
 generalize AnTy ar ad Y ρ tb yb d gv (fetchO σ.nodes.length oa) w=Q at *
 unfold noTy noTypeV One ptrV at *
 go_enter func187,ntmps187
 go_wp2_with fail
 refine(HCH.out).mono ?_;rintro e u1⟨rfl,hu⟩
 obtain⟨⟨c1a,c2a⟩,hu⟩:=hu _ (HDR.out u1)
 have HU:=hide hu
 clear hu HCH
 go_wp2_with fail
 go_region_held2 (fun w'=>w'.cell? ⟨nb,2,none⟩=some (.slice (some ⟨g,0,none⟩) 1 cap)/\w'.cell? ⟨g,0,none⟩=some (.pointer (some ⟨ba,0,none⟩))) (exact⟨c1a,c2a⟩) (first|(go_at_call 29;refine(HU.out).mono ?_;rintro e u4⟨bc,rfl,⟨c1a,c2a⟩,hc⟩;have HC:=hide hc;clear hc)|(go_at_call 94;refine(HC.out).mono ?_;rintro e u2 (⟨rfl,hp⟩|⟨rfl,⟨c1a,c2a⟩,hc⟩);(focus (exact⟨rfl,hp⟩));have HG:=hide hc;clear hc))
 all_goals
  go_wp2
  exact HG.out
end
end
section
open Go.RowKit
section
variable {g:Env->Nat->Nd->TS->Option (Nat×TS)}{ρ:Env}{d:Nat}{txt:Nm}{σ:TS}
theorem exX_uni{p:Nd}{want:Nat}:exX g ρ d p want σ=uniO (g ρ d p σ) want:=by
 unfold exX uniO
 cases g ρ d p σ with
 |none=>rfl
 |some r=>rfl
theorem formT_fun{a:Nd}:formT g ρ d (.mk 5 txt [a]) σ=funO σ.nodes.length (g (((0,txt),Mg.var σ.nodes.length)::ρ) d a (σ.letter d).2):=by
 rw[show formT g ρ d (.mk 5 txt [a]) σ=(match g (((0,txt),Mg.var σ.nodes.length)::ρ) d a (σ.letter d).2 with|some (t,σ')=>some (σ'.named arrowN [σ.nodes.length,t])|none=>none)from rfl]
 unfold funO
 cases g (((0,txt),Mg.var σ.nodes.length)::ρ) d a (σ.letter d).2 with
 |none=>rfl
 |some r=>rfl
theorem formT_app{a b:Nd}:formT g ρ d (.mk 13 txt [a,b]) σ=appAll d (g ρ d a σ) (fun s=>g ρ d b s):=by
 rw[show formT g ρ d (.mk 13 txt [a,b]) σ=(match g ρ d a σ with|some (f,σ1)=>(match g ρ d b σ1 with|some (x,σ2)=>appO d f x σ2|none=>none)|none=>none)from rfl]
 unfold appAll
 cases g ρ d a σ with
 |none=>rfl
 |some r=>
  rw[Option.bind_some]
  dsimp only
  cases g ρ d b r.2 with
  |none=>rfl
  |some q=>rfl
theorem boundT_let{a:Nd}:boundT g ρ d false txt a σ=boundO d (g ρ (if isValue (a.ht+1) a then d+1 else d) a σ):=by
 rw[show boundT g ρ d false txt a σ=(match g ρ (if isValue (a.ht+1) a then d+1 else d) a σ with|some (t,σ')=>if σ'.fits t then some (t,σ'.openAll d t)else none|none=>none)from rfl]
 unfold boundO
 cases g ρ (if isValue (a.ht+1) a then d+1 else d) a σ with
 |none=>rfl
 |some r=>rfl
theorem boundT_rec{a:Nd}:boundT g ρ d true txt a σ=boundO d (recO σ.nodes.length (g (((0,txt),Mg.var σ.nodes.length)::ρ) (if isValue (a.ht+1) a then d+1 else d) a (σ.letter (if isValue (a.ht+1) a then d+1 else d)).2)):=by
 rw[show boundT g ρ d true txt a σ=(match (match g (((0,txt),Mg.var σ.nodes.length)::ρ) (if isValue (a.ht+1) a then d+1 else d) a (σ.letter (if isValue (a.ht+1) a then d+1 else d)).2 with|some (t,σ')=>(σ'.unify σ.nodes.length t).map fun s=>(σ.nodes.length,s)|none=>none)with|some (t,σ')=>if σ'.fits t then some (t,σ'.openAll d t)else none|none=>none)from rfl]
 unfold boundO recO
 cases g (((0,txt),Mg.var σ.nodes.length)::ρ) (if isValue (a.ht+1) a then d+1 else d) a (σ.letter (if isValue (a.ht+1) a then d+1 else d)).2 with
 |none=>rfl
 |some r=>
  rw[Option.bind_some]
  dsimp only
  cases r.2.unify σ.nodes.length r.1 with
  |none=>rfl
  |some s=>rfl
theorem formT_let{a b:Nd}:formT g ρ d (.mk 6 txt [a,b]) σ=letO (boundO d (g ρ (if isValue (a.ht+1) a then d+1 else d) a σ)) (fun t s=>g (((0,txt),Mg.var t)::ρ) d b s):=by
 rw[show formT g ρ d (.mk 6 txt [a,b]) σ=(match boundT g ρ d false txt a σ with|some (t,σ')=>g (((0,txt),Mg.var t)::ρ) d b σ'|none=>none)from rfl,<- boundT_let (txt:=txt)]
 unfold letO
 cases boundT g ρ d false txt a σ with
 |none=>rfl
 |some r=>rfl
theorem formT_rec{a b:Nd}:formT g ρ d (.mk 7 txt [a,b]) σ=letO (boundO d (recO σ.nodes.length (g (((0,txt),Mg.var σ.nodes.length)::ρ) (if isValue (a.ht+1) a then d+1 else d) a (σ.letter (if isValue (a.ht+1) a then d+1 else d)).2))) (fun t s=>g (((0,txt),Mg.var t)::ρ) d b s):=by
 rw[show formT g ρ d (.mk 7 txt [a,b]) σ=(match boundT g ρ d true txt a σ with|some (t,σ')=>g (((0,txt),Mg.var t)::ρ) d b σ'|none=>none)from rfl,<- boundT_rec]
 unfold letO
 cases boundT g ρ d true txt a σ with
 |none=>rfl
 |some r=>rfl
theorem formT_if{c a b:Nd}:formT g ρ d (.mk 8 txt [c,a,b]) σ=ifO (exX g ρ d c σ.nodes.length (σ.named boolN []).2) (fun s=>g ρ d a s) (fun t s=>exX g ρ d b t s):=by
 rw[show formT g ρ d (.mk 8 txt [c,a,b]) σ=(match exX g ρ d c σ.nodes.length (σ.named boolN []).2 with|some σ1=>(match g ρ d a σ1 with|some (t,σ2)=>(exX g ρ d b t σ2).map fun s=>(t,s)|none=>none)|none=>none)from rfl]
 unfold ifO
 cases exX g ρ d c σ.nodes.length (σ.named boolN []).2 with
 |none=>rfl
 |some s=>
  rw[Option.bind_some]
  dsimp only
  cases g ρ d a s with
  |none=>rfl
  |some r=>rfl
theorem formT_seq{a b:Nd}:formT g ρ d (.mk 9 txt [a,b]) σ=(exX g ρ d a σ.nodes.length (σ.named unitN []).2).bind (fun s=>g ρ d b s):=by
 rw[show formT g ρ d (.mk 9 txt [a,b]) σ=(match exX g ρ d a σ.nodes.length (σ.named unitN []).2 with|some σ1=>g ρ d b σ1|none=>none)from rfl]
 cases exX g ρ d a σ.nodes.length (σ.named unitN []).2 with
 |none=>rfl
 |some s=>rfl
theorem formT_set{a b:Nd}:formT g ρ d (.mk 10 txt [a,b]) σ=setO (g ρ d a σ) (fun s=>g ρ d b s):=by
 rw[show formT g ρ d (.mk 10 txt [a,b]) σ=(match g ρ d a σ with|some (c,σ1)=>(match g ρ d b σ1 with|some (v,σ2)=>(match (σ2.named refN [v]).2.unify c σ2.nodes.length with|some σ3=>some (σ3.named unitN [])|none=>none)|none=>none)|none=>none)from rfl]
 unfold setO
 cases g ρ d a σ with
 |none=>rfl
 |some r=>
  rw[Option.bind_some]
  dsimp only
  cases g ρ d b r.2 with
  |none=>rfl
  |some q=>
   rw[Option.bind_some]
   dsimp only
   cases (q.2.named refN [q.1]).2.unify r.1 q.2.nodes.length with
   |none=>rfl
   |some s=>rfl
theorem formT_fetch{a:Nd}:formT g ρ d (.mk 12 txt [a]) σ=fetchO σ.nodes.length (exX g ρ d a (σ.nodes.length+1) ((σ.letter d).2.named refN [σ.nodes.length]).2):=rfl
theorem formT_calc{a b:Nd}:formT g ρ d (.mk 11 txt [a,b]) σ=calcO (decide (txt=[61]\/txt=[60])) (exX g ρ d a σ.nodes.length (σ.named intN []).2) (fun s=>exX g ρ d b s.nodes.length (s.named intN []).2):=by
 rw[show formT g ρ d (.mk 11 txt [a,b]) σ=(match exX g ρ d a σ.nodes.length (σ.named intN []).2 with|some σ1=>(match exX g ρ d b σ1.nodes.length (σ1.named intN []).2 with|some σ2=>some (σ2.named (if txt=[61]\/txt=[60]then boolN else intN) [])|none=>none)|none=>none)from rfl]
 unfold calcO
 cases exX g ρ d a σ.nodes.length (σ.named intN []).2 with
 |none=>rfl
 |some s=>
  rw[Option.bind_some]
  dsimp only
  cases exX g ρ d b s.nodes.length (s.named intN []).2 with
  |none=>rfl
  |some q=>
   by_cases h:txt=[61]\/txt=[60]
   ·simp[h]
   ·simp[h]
end
end
section
open Go.RowKit
section
variable {ar:Nm->Nat}{tb yb:Nat}
def ExIH(ar:Nm->Nat)(tb yb n:Nat)(p:Nd):Prop:=
 ∀(m m2:Nat),p.ht<m->p.ht<m2->∀(ρ:Env)(d b:Nat)(Y:Nat->Prop)(ad:List Nat)(rk:Nat->Nat)(σ:TS)(gv:Value)(u:World),NmOk m ρ p->XSh m2 p->EnvB ar ρ->d+n<=1000000->NMem u p b->YM ar ad Y rk σ ρ tb yb d gv u->σ.given.length+p.sz<=100000000 ->
  Calls prog 139 #[ptrV yb,ptrV b] u (AnTy ar ad Y ρ tb yb d gv (exT n ρ d p σ) u)
variable {n m m2:Nat}{p:Nd}{ρ:Env}{d b:Nat}{Y:Nat->Prop}{ad:List Nat}{rk:Nat->Nat}{σ:TS}{gv:Value}{u w:World}{txt:Nm}{nb:Nat}
theorem ExIH.want(hI:ExIH ar tb yb n p)(ha:ArOk ar)(q1:p.ht<m)(q2:p.ht<m2){want:Nat}(h1:NmOk m ρ p)(h2:XSh m2 p)(h3:EnvB ar ρ)(h4:d+n<=1000000)(h5:NMem u p b)(h:YM ar ad Y rk σ ρ tb yb d gv u)(h7:σ.given.length+p.sz<=100000000)(hw:want<σ.nodes.length) :
  Calls prog 94 #[ptrV yb,ptrV b,adV ad want] u (AnEx ar ad Y ρ tb yb d gv (exX (exT n) ρ d p want σ) u):=by
 rw[exX_uni]
 exact expect_of ha.le h hw (hI m m2 q1 q2 ρ d b Y ad rk σ gv u h1 h2 h3 h4 h5 h h7)
theorem ExIH.inside(hI:ExIH ar tb yb n p)(q1:p.ht<m)(q2:p.ht<m2){x:Nm}{t:Nat}(h1:NmOk m (((0,x),Mg.zero)::ρ) p)(h2:XSh m2 p)(h3:EnvB ar ρ)(h4:d+n<=1000000)(h5:NMem u p b)(h:YM ar ad Y rk σ ρ tb yb d gv u)(h7:σ.given.length+p.sz<=100000000)(ht:t<σ.nodes.length)(hx:okK (0,x)) :
  Calls prog 189 #[ptrV yb,.string (bs x),adV ad t,ptrV b] u (AnTy ar ad Y ρ tb yb d gv (exT n (((0,x),Mg.var t)::ρ) d p σ) u):=
 within_any h ht hx fun u' hk hy=>hI m m2 q1 q2 _ d b Y ad rk σ gv u' (NmOk.knows _ _ _ _ ((Knows.refl ρ).bind x _ _) h1) h2 (h3.bind x t) h4 (h.tree hk h5) hy h7
theorem NMems.cons_inv{w:World}{p:Nd}{ps:List Nd}{bl:List Nat}(h:NMem.NMems w (p::ps) bl):∃b bl',bl=b::bl'/\NMem w p b/\NMem.NMems w ps bl':=by
 cases bl with
 |nil=>simp[NMem.NMems]at h
 |cons b bl'=>rw[NMem.NMems]at h;exact⟨b,bl',rfl,h.1,h.2⟩
theorem NMems.nil_inv{w:World}{bl:List Nat}(h:NMem.NMems w [] bl):bl=[]:=by
 cases bl with
 |nil=>rfl
 |cons b bl'=>simp[NMem.NMems]at h
theorem pt1{k:Nat}{a:Nd}(h:NMem w (.mk k txt [a]) nb):∃g cap ba,PtAt nb k txt g cap [ba] w/\NMem w a ba:=by
 obtain⟨g,cap,bl,h1,h2,_⟩:=h.pt (by simp)
 obtain⟨ba,l1,rfl,m1,h3⟩:=NMems.cons_inv h2
 obtain rfl:=NMems.nil_inv h3
 exact⟨g,cap,ba,h1,m1⟩
theorem pt2{k:Nat}{a b:Nd}(h:NMem w (.mk k txt [a,b]) nb):∃g cap ba bb,PtAt nb k txt g cap [ba,bb] w/\NMem w a ba/\NMem w b bb:=by
 obtain⟨g,cap,bl,h1,h2,_⟩:=h.pt (by simp)
 obtain⟨ba,l1,rfl,m1,h3⟩:=NMems.cons_inv h2
 obtain⟨bb,l2,rfl,m2,h4⟩:=NMems.cons_inv h3
 obtain rfl:=NMems.nil_inv h4
 exact⟨g,cap,ba,bb,h1,m1,m2⟩
theorem pt3{k:Nat}{a b c:Nd}(h:NMem w (.mk k txt [a,b,c]) nb):∃g cap ba bb bc,PtAt nb k txt g cap [ba,bb,bc] w/\NMem w a ba/\NMem w b bb/\NMem w c bc:=by
 obtain⟨g,cap,bl,h1,h2,_⟩:=h.pt (by simp)
 obtain⟨ba,l1,rfl,m1,h3⟩:=NMems.cons_inv h2
 obtain⟨bb,l2,rfl,m2,h4⟩:=NMems.cons_inv h3
 obtain⟨bc,l3,rfl,m3,h5⟩:=NMems.cons_inv h4
 obtain rfl:=NMems.nil_inv h5
 exact⟨g,cap,ba,bb,bc,h1,m1,m2,m3⟩
theorem new_lt(σ:TS)(t:TN):σ.nodes.length<(σ.new t).2.nodes.length:=by rw[TS.new_len];omega
theorem bound_let{g cap ba:Nat}{bl:List Nat}{a:Nd}(hI:ExIH ar tb yb n a)(q1:a.ht<m)(q2:a.ht<m2)(h1:NmOk m ρ a)(h2:XSh m2 a)(h3:EnvB ar ρ)(h4:d+(n+1)<=1000000)(hp:PtAt nb 6 txt g cap (ba::bl) w)(h5:NMem w a ba)(h:YM ar ad Y rk σ ρ tb yb d gv w)(h7:σ.given.length+a.sz<=100000000) :
  Calls prog 95 #[ptrV yb,ptrV nb] w (AnTy ar ad Y ρ tb yb d gv (boundO d (exT n ρ (if isValue (a.ht+1) a then d+1 else d) a σ)) w):=by
 refine bound_of h hp (by omega) (lt_succ_self a.ht) h5 fun u hk hy=>?_
 refine value_let hy (h.pt hk hp) fun u' hk' hy'=>?_
 exact hI m m2 q1 q2 ρ _ ba Y ad rk σ gv u' h1 h2 h3 (by split<;>omega) (hy.tree hk' (h.tree hk h5)) hy' h7
theorem bound_rec{g cap ba:Nat}{bl:List Nat}{a:Nd}(ha:ArOk ar)(hI:ExIH ar tb yb n a)(q1:a.ht<m)(q2:a.ht<m2)(h1:NmOk m (((0,txt),Mg.zero)::ρ) a)(h2:XSh m2 a)(h3:EnvB ar ρ)(h4:d+(n+1)<=1000000)(hx:okK (0,txt))(hp:PtAt nb 7 txt g cap (ba::bl) w)(h5:NMem w a ba)(h:YM ar ad Y rk σ ρ tb yb d gv w)(h7:σ.given.length+a.sz<=100000000) :
  Calls prog 95 #[ptrV yb,ptrV nb] w (AnTy ar ad Y ρ tb yb d gv (boundO d (recO σ.nodes.length (exT n (((0,txt),Mg.var σ.nodes.length)::ρ) (if isValue (a.ht+1) a then d+1 else d) a (σ.letter (if isValue (a.ht+1) a then d+1 else d)).2))) w):=by
 refine bound_of h hp (by omega) (lt_succ_self a.ht) h5 fun u hk hy=>?_
 refine value_rec ha.le hy (h.pt hk hp) fun u' hk' hy'=>?_
 exact hI.inside q1 q2 h1 h2 h3 (by split<;>omega) (hy.tree hk' (h.tree hk h5)) hy' h7 (new_lt _ _) hx
theorem NmOk.sub{k:Nat}{ps:List Nd}(h:NmOk (m+1) ρ (.mk k txt ps))(hk:k=8\/k=9\/k=10\/k=11\/k=12\/k=13\/k=15):∀p∈ps,NmOk m ρ p:=by
 rcases hk with rfl|rfl|rfl|rfl|rfl|rfl|rfl<;>exact h
end
end
end Go.Proofs.YtbkiipiocpnnnaaGreatDoor
