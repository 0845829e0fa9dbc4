import PyProof.Rows.All
import Wide.All
import OpenK.AllK
import Wide.FinOn
import Lean
import PyProof.EqAt
import PyProof.EqKinds
import PyProof.TupleCall
import PySem.Challenge.RW_chairclans_k13_rows_and_windows_refused
set_option maxHeartbeats 4000000
local macro_rules|`(tactic|omega)=>`(tactic|first|omega +splitDisjunctions|(dsimp only;omega +splitDisjunctions))
noncomputable section
section
set_option Elab.async false
set_option linter.all false
set_option maxRecDepth 100000
namespace L2
open PySem PySem.Spec PyProof.Rows
abbrev Key:=Sum Int Str
def zct:Key→Value→Bool
  | .inl k,v=>Value.isInt k v
  | .inr x,v=>Value.isStrOf x v
def keyH (w:World):Key→Int
  | .inl k=>hashInt k
  | .inr x=>hashStr w x
theorem jF:∀ {k:Key} {v:Value},zct k v=true→(∃ i t,k=Sum.inl i∧v=Value.int i t)∨(∃ x t,k=Sum.inr x∧v=Value.str x t)
  | .inl i, v, h => by
    obtain⟨t,e⟩:=Value.isInt_shape (k:=i) (v:=v) h;exact .inl ⟨i,t,rfl,e⟩
  | .inr x, v, h => by
    obtain⟨t,e⟩:=Value.isStrOf_shape (x:=x) (v:=v) h;exact .inr ⟨x,t,rfl,e⟩
theorem zdH (a b:Int):decide ((Sum.inl a:Key)=Sum.inl b)=(a==b):=by
  by_cases e:a=b
  · subst e;simp
  · have h:¬(Sum.inl a:Key)=Sum.inl b:=fun q=>e (Sum.inl.inj q)
    rw [decide_eq_false h];exact(beq_eq_false_iff_ne.mpr e).symm
theorem zhv (a b:Str):decide ((Sum.inr a:Key)=Sum.inr b)=decide (a=b):=by
  by_cases e:a=b
  · subst e;simp
  · have h:¬(Sum.inr a:Key)=Sum.inr b:=fun q=>e (Sum.inr.inj q)
    rw [decide_eq_false h,decide_eq_false e]
theorem zhY (a:Int) (b:Str):decide ((Sum.inl a:Key)=Sum.inr b)=false:=decide_eq_false (fun q=>nomatch q)
theorem zik (a:Str) (b:Int):decide ((Sum.inr a:Key)=Sum.inl b)=false:=decide_eq_false (fun q=>nomatch q)
def zcN (prog:Program) (w:World):PySem.KeyKind prog w Key where
  is:=zct
  hash:=keyH w
  inj:=fun v a b ha hb=>by
    rcases jF ha with ⟨i,t,rfl,rfl⟩|⟨x,t,rfl,rfl⟩
    · rcases jF hb with ⟨j,u,rfl,e⟩|⟨y,u,rfl,e⟩
      · injection e with e1 _;rw [e1]
      · exact nomatch e
    · rcases jF hb with ⟨j,u,rfl,e⟩|⟨y,u,rfl,e⟩
      · exact nomatch e
      · injection e with e1 _;rw [e1]
  byValue:=fun k v h=>by
    rcases jF h with ⟨i,t,rfl,rfl⟩|⟨x,t,rfl,rfl⟩<;>rfl
  pyHash:=fun hv h=>by
    rcases jF hv with ⟨i,t,rfl,rfl⟩|⟨x,t,rfl,rfl⟩
    · exact wpAny_pyHash_int h
    · exact wpAny_pyHash_str h
  eqBool:=fun hu hv h=>by
    rcases jF hu with ⟨i,t,rfl,rfl⟩|⟨x,t,rfl,rfl⟩
    · rcases jF hv with ⟨j,u,rfl,rfl⟩|⟨y,u,rfl,rfl⟩
      · rw [zdH] at h;exact wpAny_eqBool_int h
      · rw [zhY] at h;exact SeqAt.EqAt.int_str i t y u _ _ _ _ h
    · rcases jF hv with ⟨j,u,rfl,rfl⟩|⟨y,u,rfl,rfl⟩
      · rw [zik] at h;exact SeqAt.EqAt.str_int x t j u _ _ _ _ h
      · rw [zhv] at h;exact wpAny_eqBool_str h
  «strs»:=fun k x t v h=>by
    rcases jF h with ⟨i,u,rfl,e⟩|⟨y,u,rfl,e⟩
    · exact nomatch e
    · injection e with e1 _
      subst e1;cases v<;>rfl
inductive V where
  | non|bl (b:Bool)|int (i:Int)|str (x:Str)|byt (b:Array UInt8)|flt (b:UInt64)|ref (a:Addr)|ty (n:String)
  deriving DecidableEq
def RelV:V→Value→Prop
  | .non,u=>u=Value.none
  | .bl b,u=>u=Value.bool b
  | .int i,u=>∃ t,u=Value.int i t
  | .str x,u=>∃ t,u=Value.str x t
  | .byt b,u=>∃ t,u=Value.bytes b t
  | .flt b,u=>∃ t,u=Value.float b t
  | .ref a,u=>u=Value.ref a
  | .ty n,u=>u=Value.type n
abbrev Vals:List V→List Value→Prop:=Paired RelV
theorem Vals.length {xs:List V} {us:List Value} (r:Vals xs us):xs.length=us.length:=Paired.length r
theorem Vals.get:∀ {xs:List V} {us:List Value} {i:Nat} {x:V},Vals xs us→xs[i]?=some x→∃ u,us[i]?=some u∧RelV x u
  | _,_,_,_,.nil,e=>by simp at e
  | _,_,0,_,.cons r _,e=>by simp at e;subst e;exact⟨_,rfl,r⟩
  | _, _, i + 1, x, .cons _ t, e => by
    obtain⟨u,h1,h2⟩:=Vals.get (i:=i) (x:=x) t (by simpa using e)
    exact⟨u,by simpa using h1,h2⟩
theorem Vals.set {x:V} {u:Value} (r:RelV x u):∀ {xs:List V} {us:List Value} (i:Nat),Vals xs us→Vals (xs.set i x) (us.set i u)
  | _,_,_,.nil=>.nil
  | _,_,0,.cons _ t=>.cons r t
  | _,_,i+1,.cons q t=>.cons q (Vals.set r i t)
theorem Vals.append:∀ {xs ys:List V} {us ws:List Value},Vals xs us→Vals ys ws→Vals (xs++ys) (us++ws)
  | _,_,_,_,.nil,s=>s
  | _,_,_,_,.cons r t,s=>.cons r (Vals.append t s)
theorem Vals.take:∀ {xs:List V} {us:List Value} (n:Nat),Vals xs us→Vals (xs.take n) (us.take n)
  | _,_,0,_=>.nil
  | _,_,_+1,.nil=>.nil
  | _,_,n+1,.cons r t=>.cons r (Vals.take n t)
theorem Vals.drop:∀ {xs:List V} {us:List Value} (n:Nat),Vals xs us→Vals (xs.drop n) (us.drop n)
  | _,_,0,r=>r
  | _,_,_+1,.nil=>.nil
  | _,_,n+1,.cons _ t=>Vals.drop n t
theorem Vals.none_of:∀ {xs:List V} {us:List Value} {i:Nat},Vals xs us→xs[i]?=none→us[i]?=none:=fun {xs us i} r e=>by
  have h1:=r.length;have h2:xs.length≤i:=List.getElem?_eq_none_iff.mp e;exact List.getElem?_eq_none_iff.mpr (by omega)
def RelO:Option V→Option Value→Prop
  | some v,some u=>RelV v u
  | none,none=>True
  | _,_=>False
def KV {κ : Type}:List (κ×V)→List (κ×Value)→Prop:=Paired fun(p:κ×V) (q:κ×Value)=>p.1=q.1∧RelV p.2 q.2
def kV:Key→V
  | .inl i=>.int i
  | .inr x=>.str x
inductive HO where
  | lst (xs:List V)
  | tup (xs:List V)
  | dK (kvs:List (Key×V))|dT (kvs:List (List Key×V))
  | set (S:Int→Bool) (n:Nat)
  | ins (C dx:Addr) (fs:List (Str×V))
  | own (x:Addr)
  | xd (fs:List (Str×V))
  | met (f x:Addr)
  | rng (lo hi:Int)
  | frz (o:Obj) (u:HO)
  | tbl (ps:Array Value)
  | ext (φ : Heap→Prop)
abbrev Hp:=Addr→Option HO
def upd (H:Hp) (a:Addr) (o:HO):Hp:=fun b=>if b=a then some o else H b
theorem zB {H:Hp} {a:Addr} {o:HO}:upd H a o a=some o:=by unfold upd;rw [if_pos rfl]
theorem zh {H:Hp} {a b:Addr} {o:HO} (h:b≠a):upd H a o b=H b:=by unfold upd;rw [if_neg h]
theorem zN {H:Hp} {a b:Addr} {o:HO} (h:H a=some o) (h':H b=none):a≠b:=by
  intro e;subst e;rw [h] at h';cases h'
section
variable (P:Program) (w:World)
def zX (H:Hp) (h:Heap) (a:Addr):HO→Prop
  | .lst xs=>xs.length≤sizeLine∧∃ (its:List Value) (n:Nat),Vals xs its∧h.get? a=some { cls:=.type "list", data:=.seq its.toArray n }
  | .tup xs=>xs.length≤sizeLine∧∃ its:List Value,Vals xs its∧IsTup h a its.toArray
  | .dK kvs=>kvs.length≤sizeLine∧(a==sysModules)=false∧∃ vs,KV kvs vs∧h.DictOf (zcN P w) a vs
  | .dT kvs => kvs.length ≤ sizeLine ∧ (a == sysModules) = false ∧ ∃ xs : List (List Key × Addr × Value),
      Paired (fun(p:List Key×V) (q:List Key×Addr×Value)=>p.1=q.1∧H q.2.1=some (.tup (p.1.map kV))∧RelV p.2 q.2.2) kvs xs∧
      ∃ o es ep,h.get? a=some o∧o.ExactDict∧o.data=.dict es ep∧es.toList=xs.map (entryOfKey (tupleKind (zcN P w)))∧(xs.map (·.1)).Nodup
  | .set S n=>h.SetOf (intKind P w) a S n
  | .ins C dx fs => H dx = some (.own a) ∧ fs.length ≤ 1000 ∧ dx ≠ a ∧ h.get? a = some (PySem.W.instObj C dx) ∧
      ∃ mA,h.Ns1 dx mA∧(∀ f,RelO (fs.lookup f) (mA f))∧PySem.Within mA (fs.map (·.1))
  | .own _=>∃ o,h.get? a=some o
  | .xd fs=>∃ mA,h.Ns1 a mA∧∀ f,RelO (fs.lookup f) (mA f)
  | .rng lo hi=>∃ t u v,h.get? a=some { cls:=.type "range", data:=.fields #[.int lo t,.int hi u,.int 1 v] }
  | .frz o u=>h.get? a=some o∧zX H h a u
  | .tbl ps=>h.get? a=some { cls:=.none,data:=.fields ps }
  | .met f x=>h.get? a=some (PySem.W.methodObj (.ref f) (.ref x))
  | .ext φ=>φ h∧(∃ o,h.get? a=some o)∧∀ h1 h2:Heap,φ h1→(∀ o,h1.get? a=some o→h2.get? a=some o)→φ h2
def HOk (H:Hp) (h:Heap):Prop:=∀ a o,H a=some o→zX P w H h a o
end
section
variable {P:Program} {w:World} {H H':Hp} {h h':Heap} {a:Addr} {o:HO}
theorem zX.lt (x:zX P w H h a o):a<h.objs.size:=by
  cases o with
  | lst xs=>obtain⟨_,_,_,_,e⟩:=x;exact Heap.lt_size e
  | tup xs=>obtain⟨_,_,_,p⟩:=x;exact p.lt
  | dK kvs=>obtain⟨_,_,_,_,o,_,_,e,_⟩:=x;exact Heap.lt_size e
  | dT kvs=>obtain⟨_,_,_,_,o,_,_,e,_⟩:=x;exact Heap.lt_size e
  | set S n=>obtain⟨o,_,_,_,e,_⟩:=x;exact Heap.lt_size e
  | ins C dx fs=>obtain⟨_,_,_,e,_⟩:=x;exact Heap.lt_size e
  | own y=>obtain⟨_,e⟩:=x;exact Heap.lt_size e
  | xd fs=>obtain⟨_,⟨_,_,_,e,_⟩,_⟩:=x;exact Heap.lt_size e
  | rng lo hi=>obtain⟨_,_,_,e⟩:=x;exact Heap.lt_size e
  | frz ob u=>obtain⟨e,_⟩:=x;exact Heap.lt_size e
  | tbl ps=>exact Heap.lt_size (show h.get? a=some _ from x)
  | met f y=>exact Heap.lt_size (show h.get? a=some _ from x)
  | ext φ=>obtain⟨_,⟨_,e⟩,_⟩:=x;exact Heap.lt_size e
theorem Paired.mapP {α β : Type} {F G:α→β→Prop}:∀ {l₁ : List α} {l₂ : List β},Paired F l₁ l₂→(∀ a b,F a b→G a b)→Paired G l₁ l₂
  | _,_,.nil,_=>.nil
  | _,_,.cons r t,f=>.cons (f _ _ r) (Paired.mapP t f)
theorem zX.stay (x:zX P w H h a o) (k:∀ b u,(b=a∨H b=some (.own a))→h.get? b=some u→h'.get? b=some u)
    (ho:∀ b,H b=some (.own a)→H' b=some (.own a)) (ht:∀ b xs,H b=some (.tup xs)→H' b=some (.tup xs)):zX P w H' h' a o:=by
  induction o with
  | lst xs=>obtain⟨z,its,n,r,e⟩:=x;exact⟨z,its,n,r,k _ _ (.inl rfl) e⟩
  | tup xs=>obtain⟨z,its,r,ob,e,c⟩:=x;exact⟨z,its,r,ob,k _ _ (.inl rfl) e,c⟩
  | dK kvs=>obtain⟨z,y,vs,r,ob,es,ep,e,c⟩:=x;exact⟨z,y,vs,r,ob,es,ep,k _ _ (.inl rfl) e,c⟩
  | dT kvs=>
    obtain⟨z,y,xs,r,ob,es,ep,e,c⟩:=x;exact⟨z,y,xs,Paired.mapP r fun p q z=>⟨z.1,ht _ _ z.2.1,z.2.2⟩,ob,es,ep,k _ _ (.inl rfl) e,c⟩
  | set S n=>obtain⟨ob,es,ep,t,e,c⟩:=x;exact⟨ob,es,ep,t,k _ _ (.inl rfl) e,c⟩
  | ins C dx fs=>
    obtain⟨d,z,ne,e,mA,⟨od,es,ep,e2,c⟩,r⟩:=x;exact⟨ho _ d,z,ne,k _ _ (.inl rfl) e,mA,⟨od,es,ep,k _ _ (.inr d) e2,c⟩,r⟩
  | own y=>obtain⟨ob,e⟩:=x;exact⟨ob,k _ _ (.inl rfl) e⟩
  | xd fs=>obtain⟨mA,⟨od,es,ep,e,c⟩,r⟩:=x;exact⟨mA,⟨od,es,ep,k _ _ (.inl rfl) e,c⟩,r⟩
  | rng lo hi=>obtain⟨t,u,v,e⟩:=x;exact⟨t,u,v,k _ _ (.inl rfl) e⟩
  | frz ob u ih=>obtain⟨e,q⟩:=x;exact⟨k _ _ (.inl rfl) e,ih q⟩
  | tbl ps=>
    have e:h.get? a=some { cls:=.none,data:=.fields ps }:=x;show h'.get? a=some { cls:=.none,data:=.fields ps };exact k a _ (.inl rfl) e
  | met f y=>
    have e:h.get? a=some (PySem.W.methodObj (.ref f) (.ref y)):=x;show h'.get? a=some (PySem.W.methodObj (.ref f) (.ref y));exact k a _ (.inl rfl) e
  | ext φ=>obtain⟨p,⟨o,e⟩,st⟩:=x;exact⟨st _ _ p fun o q=>k _ _ (.inl rfl) q,⟨o,k _ _ (.inl rfl) e⟩,st⟩
theorem HOk.lt (x:HOk P w H h) (e:H a=some o):a<h.objs.size:=(x a o e).lt
theorem HOk.fresh (x:HOk P w H h) (e:h.objs.size≤a):H a=none:=by
  cases q:H a with
  | none=>rfl
  | some u=>exact absurd (Nat.lt_of_lt_of_le (x.lt q) e) (Nat.lt_irrefl _)
theorem HOk.kept (x:HOk P w H h) (k:∀ b u,h.get? b=some u→h'.get? b=some u):HOk P w H h':=fun a o e=>
  (x a o e).stay (fun b u _ q=>k b u q) (fun _ q=>q) fun _ _ q=>q
theorem HOk.laid (x:HOk P w H h) (k:∀ b u,h.get? b=some u→h'.get? b=some u) (hp:h.objs.size≤a) (new:zX P w (upd H a o) h' a o):HOk P w (upd H a o) h':=fun b u e=>by
  have hn:=x.fresh hp
  by_cases hb:b=a
  · subst hb;rw [zB] at e;cases e;exact new
  · rw [zh hb] at e
    exact(x b u e).stay (fun c v _ q=>k c v q) (fun c q=>by rw [zh (zN q hn)];exact q) fun c xs q=>by rw [zh (zN q hn)];exact q
end
def Rd (H:Hp) (a:Addr) (u:HO):Prop:=H a=some u∨∃ o,H a=some (.frz o u)
theorem Rd.of {H:Hp} {a:Addr} {u:HO} (h:H a=some u):Rd H a u:=.inl h
theorem Rd.ok {P:Program} {w:World} {H:Hp} {h:Heap} {a:Addr} {u:HO} (r:Rd H a u) (x:HOk P w H h):zX P w H h a u:=by
  rcases r with r|⟨o,r⟩
  · exact x a u r
  · obtain⟨_,q⟩:=x a _ r
    exact q
def Mut:Option HO→Prop
  | some (.lst _)=>True
  | some (.dK _)=>True
  | some (.dT _)=>True
  | some (.set _ _)=>True
  | some (.ins _ _ _)=>True
  | some (.ext _)=>True
  | _=>False
section
variable {P:Program} {w:World} {H:Hp} {h h':Heap} {x e:Addr} {o':HO}
theorem HOk.write (ok:HOk P w H h) (mu:Mut (H x)) (he:e=x∨H e=some (.own x)) (k:∀ b u,b≠e→h.get? b=some u→h'.get? b=some u) (heo:∃ u,h'.get? e=some u)
    (new:zX P w (upd H x o') h' x o'):HOk P w (upd H x o') h':=fun b u q=>by
  have nown:∀ c y,H c=some (.own y)→c≠x:=fun c y r z=>by subst z;rw [r] at mu;exact mu
  have ntup:∀ c xs,H c=some (.tup xs)→c≠x:=fun c xs r z=>by subst z;rw [r] at mu;exact mu
  by_cases hb:b=x
  · subst hb;rw [zB] at q;cases q;exact new
  · rw [zh hb] at q
    by_cases hbe:b=e
    · have q':H b=some (.own x):=by
        rcases he with z|z
        · exact absurd (hbe.trans z) hb
        · rw [hbe];exact z
      rw [q] at q';cases q';obtain⟨v,hv⟩:=heo;exact⟨v,by rw [hbe];exact hv⟩
    · refine(ok b u q).stay (fun c v hc r=>k c v ?_ r) (fun c r=>by rw [zh (nown c b r)];exact r) fun c xs r=>by rw [zh (ntup c xs r)];exact r
      rcases hc with rfl|hc
      · exact hbe
      · rintro rfl
        rcases he with z|z
        · exact nown c b hc z
        · rw [hc] at z;cases z;exact hb rfl
end
structure Un (fs ex:List Addr) (H H':Hp) (h h':Heap):Prop where
  keep:∀ b o,h.get? b=some o→H b=none→b∉fs→b∉ex→h'.get? b=some o
  slot:∀ b o,h.get? b=some o→H b=none→b∈fs→b∉ex→∃ sl,h'.get? b=some { o with slots:=sl }
  free:∀ b o,h.get? b=some o→H b=none→b∉ex→H' b=none
  there:∀ b o,h.get? b=some o→b∉ex→∃ o',h'.get? b=some o'
  tups:∀ b xs,H b=some (.tup xs)→H' b=some (.tup xs)
  frzs:∀ b o u,H b=some (.frz o u)→H' b=some (.frz o u)
  tbls:∀ b ps,H b=some (.tbl ps)→∃ more,H' b=some (.tbl (ps++more))
section
variable {fs fs' ex ex':List Addr} {H H1 H2:Hp} {h h1 h2 h':Heap} {a x e:Addr} {o:HO}
theorem Un.any (u:Un fs ex H H1 h h1) {b:Addr} {ob:Obj} (q:h.get? b=some ob) (n:H b=none) (hx:b∉ex):∃ sl,h1.get? b=some { ob with slots:=sl }:=by
  by_cases hb:b∈fs
  · exact u.slot b ob q n hb hx
  · exact⟨ob.slots,u.keep b ob q n hb hx⟩
theorem Un.kept (k:∀ b u,h.get? b=some u→h'.get? b=some u):Un fs ex H H h h':=
  ⟨fun b ob q _ _ _=>k b ob q,fun b ob q _ _ _=>⟨ob.slots,k b ob q⟩,fun _ _ _ n _=>n,fun b ob q _=>⟨ob,k b ob q⟩,fun _ _ q=>q,fun _ _ _ q=>q,fun _ ps q=>⟨#[],by rw [q];simp⟩⟩
theorem Un.refl:Un fs ex H H h h:=Un.kept fun _ _ q=>q
theorem Un.laid (k:∀ b u,h.get? b=some u→h'.get? b=some u) (hp:h.objs.size≤a) (hn:H a=none):Un fs ex H (upd H a o) h h' where
  keep:=fun b u q _ _ _=>k b u q
  slot:=fun b u q _ _ _=>⟨u.slots,k b u q⟩
  free:=fun b u q n _=>by rw [zh (Nat.ne_of_lt (Nat.lt_of_lt_of_le (Heap.lt_size q) hp))];exact n
  there:=fun b u q _=>⟨u,k b u q⟩
  tups:=fun b xs q=>by rw [zh (zN q hn)];exact q
  frzs:=fun b u xs q=>by rw [zh (zN q hn)];exact q
  tbls:=fun b ps q=>⟨#[],by rw [zh (zN q hn),q];simp⟩
theorem Un.write (mu:Mut (H x)) (he:e=x∨H e=some (.own x)) (k:∀ b u,b≠e→h.get? b=some u→h'.get? b=some u) (heo:∃ u,h'.get? e=some u):Un fs ex H (upd H x o) h h':=by
  have hx:∀ b,H b=none→b≠x:=fun b n z=>by subst z;rw [n] at mu;exact mu
  have hb:∀ b,H b=none→b≠e:=fun b n z=>by
    subst z
    rcases he with r|r
    · exact hx b n r
    · rw [n] at r;cases r
  have hm:∀ b u,H b=some u→¬Mut (some u)→b≠x:=fun b u q nm z=>by subst z;rw [q] at mu;exact nm mu
  refine⟨fun b u q n _ _=>k b u (hb b n) q,fun b u q n _ _=>⟨u.slots,k b u (hb b n) q⟩,fun b u q n _=>by rw [zh (hx b n)];exact n,fun b u q _=>?_,
    fun b xs q=>by rw [zh (hm b _ q fun z=>z)];exact q,fun b u xs q=>by rw [zh (hm b _ q fun z=>z)];exact q,fun b ps q=>⟨#[],by rw [zh (hm b _ q fun z=>z),q];simp⟩⟩
  by_cases hbe:b=e
  · subst hbe;exact heo
  · exact⟨u,k b u hbe q⟩
theorem Un.mono (u:Un fs ex H H1 h h1) (hs:∀ b∈fs,b∈fs') (hx:∀ b∈ex,b∈ex'):Un fs' ex' H H1 h h1:=
  ⟨fun b ob q n hb he=>u.keep b ob q n (fun z=>hb (hs b z)) fun z=>he (hx b z),fun _ _ q n _ he=>u.any q n fun z=>he (hx _ z),fun b ob q n he=>u.free b ob q n fun z=>he (hx b z),fun b ob q he=>u.there b ob q fun z=>he (hx b z),u.tups,u.frzs,u.tbls⟩
end
def trk (h:Heap) (H:Hp):List Addr:=(List.range h.objs.size).filter fun a=>(H a).isSome
def hidT (h:Heap) (H:Hp):Heap:=PySem.W.hideAll h (trk h H)
theorem zg3 (h:Heap) (H:Hp):(hidT h H).objs.size=h.objs.size:=PySem.W.hideAll_size _ _
theorem ziB {h:Heap} {H:Hp} {b:Addr} {o:Obj} (e:h.get? b=some o) (n:H b=none):(hidT h H).get? b=some o:=
  PySem.W.hideAll_get _ e fun hm=>by
    have q:(H b).isSome=true:=(List.mem_filter.mp hm).2;rw [n] at q;simp at q
theorem zg6 {h:Heap} {H:Hp} {b:Addr} {o:Obj} (e:(hidT h H).get? b=some o):h.get? b=some o∧H b=none:=by
  have e':h.get? b=some o:=PySem.W.of_hideAll (trk h H) e;refine⟨e',?_⟩;cases q:H b with
  | none=>rfl
  | some x=>
    have hm:b∈trk h H:=List.mem_filter.mpr ⟨List.mem_range.mpr (Heap.lt_size e'),by simp [q]⟩
    have z:(hidT h H).get? b=none:=PySem.W.hideAll_none (trk h H) hm;rw [z] at e;cases e
def zek (g h:Heap) (L:Addr):List (Addr×Obj):=(List.range h.objs.size).filterMap fun a=>if a=L∨(g.get? a).isSome=true then none else(h.get? a).map fun o=>(a,o)
def rest (g h:Heap) (L d:Addr):List (Addr×Obj):=(zek g h L).filter fun p=>decide (p.1≠d)
structure Mod (K:PySem.W.Frag) (mg:Str→Option Value) (base:Heap):Prop where
  kin:K.In base
  glob:base.Ns mainGlobals mg
  blt:∃ mb,base.Ns builtinsNs mb∧∀ x:Str,x≠"__name__"→mb x=bootBuiltins x
  nolimit:base.NoLimit
structure Cx where
  prog:Program
  w:World
  K:PySem.W.Frag
  mg:Str→Option Value
  base:Heap
  A:Around
  N:List Str
  s₀ : Shared
  H₀ : Hp
  env:Env
  outer:List Env
  stack:List Env
  ex:List Addr
  fn:Str→Bool
  calm:Bool
  pn:List (Addr×Obj)
  xe:Value→Shared→Prop
def frs (l:List Env):List Addr:=l.filterMap (·.frame)
abbrev Cx.fs (X:Cx):List Addr:=frs X.outer
def Vis (sc:Scope) (x:Str):Prop:=sc.names.lookup x=some .local∨sc.names.lookup x=some .cell∨sc.names.lookup x=some .free
def Loc (sc:Scope) (x:Str):Prop:=sc.names.lookup x=some .local∨sc.names.lookup x=some .cell
def Look (env:Env) (h:Heap) (m:Str→Option Value) (x:Str) (u:Value):Prop:=
  (env.kindOf x=some .local∧m x=some u)∨((env.kindOf x=some .cell∨env.kindOf x=some .free)∧∃ c,env.cells.lookup x=some c∧h.IsCell c (some u))
structure Cx.Ok (X:Cx):Prop where
  mod:Mod X.K X.mg X.base
  kind:X.env.scope.kind=.function
  glob:X.env.globals=mainGlobals
  blt:X.env.builtins=builtinsNs
  above:X.s₀.heap.objs.size≤X.env.locals
  inj:∀ x y c,X.env.cells.lookup x=some c→X.env.cells.lookup y=some c→x=y
  has:∀ x,(X.env.kindOf x=some .cell∨X.env.kindOf x=some .free)→∃ c,X.env.cells.lookup x=some c
  cab:∀ x c,X.fn x=true→X.env.cells.lookup x=some c→X.s₀.heap.objs.size≤c
  hd:X.calm=true→X.A.handled=none
  frames:X.A.frames=some X.stack
  stk:X.stack=X.outer∨(X.stack=X.env::X.outer∧X.env.frame=some X.env.locals)
  exf:∀ b∈X.ex,b≠X.env.locals∧∀ x c,X.env.cells.lookup x=some c→c≠b
  bs:∀ b o,X.base.get? b=some o→X.s₀.heap.get? b=some o∧X.H₀ b=none
  bsz:X.base.objs.size≤X.s₀.heap.objs.size
  noex:∀ b o,X.base.get? b=some o→b∉X.ex
  exfs:∀ b∈X.ex,b∉X.fs
  funs:X.s₀.heap.FunFrames X.base X.outer
  frf:∀ b∈X.fs,X.H₀ b=none
structure Inv (X:Cx) (pins:List (Addr×Obj)) (σ : List (Option V)) (H:Hp) (s:Shared):Prop where
  ok:X.Ok
  os:s.os=X.s₀.os
  bare:AllBare s.gens
  base:Un X.fs X.ex X.H₀ H X.s₀.heap s.heap
  loc:∃ m,s.heap.Ns X.env.locals m∧∀ (i:Nat) (x:Str) (v:V),X.N[i]?=some x→σ[i]?=some (some v)→Vis X.env.scope x→∃ u,RelV v u∧Look X.env s.heap m x u
  cell:∀ x c,X.env.cells.lookup x=some c→∃ v,s.heap.IsCell c v
  free:H X.env.locals=none
  freeC:∀ x c,X.env.cells.lookup x=some c→H c=none
  pin:∀ p∈X.pn++pins,s.heap.get? p.1=some p.2∧H p.1=none∧p.1≠X.env.locals∧p.1∉X.fs∧∀ v,p.2.data≠.cell v
  hok:HOk X.prog X.w H s.heap
  len:σ.length=X.N.length
section
variable {X:Cx} {pins:List (Addr×Obj)} {σ : List (Option V)} {H H':Hp} {s:Shared} {h':Heap}
theorem Cx.Ok.nofr (ok:X.Ok) {b:Addr} {o:Obj} (e:X.base.get? b=some o):b∉X.fs:=fun hb=>by
  have:=(ok.funs.mem hb).1;rw [e] at this;cases this
theorem Inv.bs (I:Inv X pins σ H s):∀ b o,X.base.get? b=some o→s.heap.get? b=some o∧H b=none:=fun b o e=>
  ⟨I.base.keep b o (I.ok.bs b o e).1 (I.ok.bs b o e).2 (I.ok.nofr e) (I.ok.noex b o e),I.base.free b o (I.ok.bs b o e).1 (I.ok.bs b o e).2 (I.ok.noex b o e)⟩
theorem Inv.bk (I:Inv X pins σ H s):∀ b o,X.base.get? b=some o→s.heap.get? b=some o:=fun b o e=>(I.bs b o e).1
theorem Inv.mod (I:Inv X pins σ H s):Mod X.K X.mg X.base:=I.ok.mod
theorem Inv.kIn (I:Inv X pins σ H s):X.K.In s.heap:=I.ok.mod.kin.keeps I.bk
theorem Inv.nolimit (I:Inv X pins σ H s):s.heap.NoLimit:=I.ok.mod.nolimit.keeps I.bk
theorem Inv.fr (I:Inv X pins σ H s):∃ m,Fr X.base X.env.locals s.heap m:=
  let ⟨m,hn,_⟩:=I.loc
  ⟨m,hn,I.bk,Nat.le_trans I.ok.bsz I.ok.above⟩
theorem Inv.lt (I:Inv X pins σ H s):X.env.locals<s.heap.objs.size:=let ⟨_,hn,_⟩:=I.loc;hn.lt
theorem Inv.sz (I:Inv X pins σ H s):X.s₀.heap.objs.size≤s.heap.objs.size:=Nat.le_trans I.ok.above (Nat.le_of_lt I.lt)
theorem Inv.nofs (I:Inv X pins σ H s) {a:Addr} (h:s.heap.objs.size≤a):a∉X.fs:=fun hb=>by
  obtain⟨_,o,ho,_⟩:=I.ok.funs.mem hb;exact absurd (Nat.lt_of_lt_of_le (Heap.lt_size ho) (Nat.le_trans I.sz h)) (Nat.lt_irrefl _)
theorem Inv.cne (I:Inv X pins σ H s):∀ x c,X.env.cells.lookup x=some c→c≠X.env.locals:=fun x c e z=>by
  obtain⟨v,o,ho,hd⟩:=I.cell x c e;obtain⟨m,⟨o',es,ep,ho',hd',_⟩,_⟩:=I.loc;rw [z,ho'] at ho;cases ho;rw [hd'] at hd;cases hd
theorem Inv.funs (I:Inv X pins σ H s):s.heap.FunFrames X.base X.outer:=by
  have all:∀ (l:List Env),(∀ b∈frs l,b∈X.fs)→X.s₀.heap.FunFrames X.base l→s.heap.FunFrames X.base l:=by
    intro l
    induction l with
    | nil=>intro _ _;trivial
    | cons env r ih=>
      intro hs hl;obtain⟨hk,⟨L,o,hf,hn,ho,hd⟩,hr⟩:=hl;have hL:L∈X.fs:=hs L (by unfold frs;rw [List.filterMap_cons,hf];exact List.mem_cons_self)
      obtain⟨sl,e⟩:=I.base.slot L o ho (I.ok.frf L hL) hL fun z=>I.ok.exfs L z hL
      exact⟨hk,⟨L,_,hf,hn,e,hd⟩,ih (fun b hb=>hs b (by unfold frs;rw [List.filterMap_cons,hf];exact List.mem_cons_of_mem _ hb)) hr⟩
  exact all X.outer (fun _ hb=>hb) I.ok.funs
theorem Inv.stack (I:Inv X pins σ H s):s.heap.FunFrames X.base X.stack:=by
  rcases I.ok.stk with e|⟨e,hf⟩
  · rw [e];exact I.funs
  · rw [e]
    obtain⟨m,hn,_⟩:=I.loc;refine .cons (by rw [I.ok.kind];decide) hf hn ?_ I.funs
    exact Heap.get?_none_of_le (Nat.le_trans I.ok.bsz I.ok.above)
theorem Inv.stkSub (I:Inv X pins σ H s):∀ b∈frs X.stack,b∈X.env.locals::X.fs:=fun b hb=>by
  rcases I.ok.stk with e|⟨e,hf⟩
  · rw [e] at hb;exact List.mem_cons_of_mem _ hb
  · rw [e] at hb
    unfold frs at hb;rw [List.filterMap_cons,hf] at hb;exact hb
theorem Inv.stkFree (I:Inv X pins σ H s):∀ b∈frs X.stack,H b=none:=fun b hb=>by
  rcases List.mem_cons.mp (I.stkSub b hb) with e|hb
  · rw [e];exact I.free
  · obtain⟨_,o,ho,_⟩:=I.ok.funs.mem hb
    exact I.base.free b o ho (I.ok.frf b hb) fun z=>I.ok.exfs b z hb
theorem Inv.step {g':Array GenState} {t':Nat} {d':Drawn} {ch:List Addr} (I:Inv X pins σ H s)
    (hch:∀ b∈ch,(b∈X.ex∨X.s₀.heap.objs.size≤b)∧b≠X.env.locals∧(∀ x c,X.env.cells.lookup x=some c→c≠b)∧∀ p∈X.pn++pins,p.1≠b)
    (keep:∀ b o,b≠X.env.locals→b∉X.fs→b∉ch→s.heap.get? b=some o→H b=none→h'.get? b=some o)
    (slot:∀ b o,b≠X.env.locals→b∈X.fs→b∉ch→s.heap.get? b=some o→H b=none→∃ sl,h'.get? b=some { o with slots:=sl }) (free:∀ b o,b∉ch→s.heap.get? b=some o→H b=none→H' b=none)
    (there:∀ b o,b∉ch→s.heap.get? b=some o→∃ o',h'.get? b=some o')
    (tups:∀ b xs,H b=some (.tup xs)→H' b=some (.tup xs)) (frzs:∀ b o u,H b=some (.frz o u)→H' b=some (.frz o u)) (tbls:∀ b ps,H b=some (.tbl ps)→∃ more,H' b=some (.tbl (ps++more)))
    (ns:∀ m,s.heap.Ns X.env.locals m→h'.Ns X.env.locals m) (hok:HOk X.prog X.w H' h') (hg:AllBare g') :
    Inv X pins σ H' { s with heap:=h',gens:=g',drawn:=d',toks:=t' }:=by
  have neL:∀ b o,X.s₀.heap.get? b=some o→b≠X.env.locals:=fun b o e=>Nat.ne_of_lt (Nat.lt_of_lt_of_le (Heap.lt_size e) I.ok.above)
  have neC:∀ b o,X.s₀.heap.get? b=some o→b∉X.ex→b∉ch:=fun b o e hx hb=>by
    rcases(hch b hb).1 with z|z
    · exact hx z
    · exact absurd (Nat.lt_of_lt_of_le (Heap.lt_size e) z) (Nat.lt_irrefl _)
  have cellK:∀ x c,X.env.cells.lookup x=some c→∀ v,s.heap.IsCell c v→h'.IsCell c v:=fun x c e v ⟨o,ho,hd⟩=>by
    have nch:c∉ch:=fun z=>(hch c z).2.2.1 x c e rfl
    by_cases hc:c∈X.fs
    · obtain⟨sl,q⟩:=slot c o (I.cne x c e) hc nch ho (I.freeC x c e)
      exact⟨_,q,hd⟩
    · exact⟨o,keep c o (I.cne x c e) hc nch ho (I.freeC x c e),hd⟩
  refine⟨I.ok,I.os,hg,⟨fun b o e n hb hx=>?_,fun b o e n hb hx=>?_,fun b o e n hx=>?_,fun b o e hx=>?_,fun b xs e=>tups b xs (I.base.tups b xs e),fun b o xs e=>frzs b o xs (I.base.frzs b o xs e),fun b ps e=>?_⟩,?_,fun x c e=>?_,?_,fun x c e=>?_,fun p hp=>?_,hok,I.len⟩
  · exact keep b o (neL b o e) hb (neC b o e hx) (I.base.keep b o e n hb hx) (I.base.free b o e n hx)
  · obtain⟨sl,e1⟩:=I.base.slot b o e n hb hx
    obtain⟨sl',e2⟩:=slot b _ (neL b o e) hb (neC b o e hx) e1 (I.base.free b o e n hx);exact⟨sl',e2⟩
  · obtain⟨o',e1⟩:=I.base.there b o e hx
    exact free b o' (neC b o e hx) e1 (I.base.free b o e n hx)
  · obtain⟨o',e1⟩:=I.base.there b o e hx
    exact there b o' (neC b o e hx) e1
  · obtain⟨m1,e1⟩:=I.base.tbls b ps e
    obtain⟨m2,e2⟩:=tbls b _ e1;exact⟨m1++m2,by rw [e2,Array.append_assoc]⟩
  · obtain⟨m,hn,hl⟩:=I.loc
    refine⟨m,ns m hn,fun i x v e1 e2 e3=>?_⟩
    obtain⟨u,r,l⟩:=hl i x v e1 e2 e3;refine⟨u,r,?_⟩
    rcases l with l|⟨k,c,e,z⟩
    · exact .inl l
    · exact .inr ⟨k,c,e,cellK x c e _ z⟩
  · obtain⟨v,z⟩:=I.cell x c e
    exact⟨v,cellK x c e v z⟩
  · obtain⟨m,⟨o,_,_,ho,_⟩,_⟩:=I.loc
    exact free _ o (fun z=>(hch _ z).2.1 rfl) ho I.free
  · obtain⟨v,o,ho,hd⟩:=I.cell x c e
    exact free c o (fun z=>(hch c z).2.2.1 x c e rfl) ho (I.freeC x c e)
  · obtain⟨e,n,ne,nf,d⟩:=I.pin p hp
    have nch:p.1∉ch:=fun z=>(hch p.1 z).2.2.2 p hp rfl
    exact⟨keep p.1 p.2 ne nf nch e n,free p.1 p.2 nch e n,ne,nf,d⟩
theorem Inv.un {t':Nat} (I:Inv X pins σ H s) (u:Un X.fs [] H H' s.heap h') (hok:HOk X.prog X.w H' h'):Inv X pins σ H' { s with heap:=h',toks:=t' }:=by
  obtain⟨m,⟨o,es,ep,ho,r⟩,_⟩:=id I.loc;obtain⟨sl,hL⟩:=u.any ho I.free (by simp)
  exact I.step (g':=s.gens) (d':=s.drawn) (ch:=[]) (fun _ z=>nomatch z) (fun b o _ hb _ e n=>u.keep b o e n hb (by simp)) (fun b o _ hb _ e n=>u.slot b o e n hb (by simp)) (fun b o _ e n=>u.free b o e n (by simp)) (fun b o _ e=>u.there b o e (by simp)) u.tups u.frzs u.tbls (fun m' hm=>by
    obtain⟨o',es',ep',ho',r'⟩:=hm;rw [ho] at ho';cases ho';exact⟨_,es',ep',hL,r'⟩) hok I.bare
theorem Inv.call {g':Array GenState} {t':Nat} {d':Drawn} {ch:List Addr} (I:Inv X pins σ H s) (u:Un (frs X.stack) ch H H' s.heap h') (hok:HOk X.prog X.w H' h') (hg:AllBare g')
    (hch:∀ b∈ch,(b∈X.ex∨X.s₀.heap.objs.size≤b)∧b≠X.env.locals∧(∀ x c,X.env.cells.lookup x=some c→c≠b)∧∀ p∈X.pn++pins,p.1≠b) :
    Inv X pins σ H' { s with heap:=h',gens:=g',drawn:=d',toks:=t' }:=by
  obtain⟨m,⟨o,es,ep,ho,r⟩,_⟩:=id I.loc;obtain⟨sl,hL⟩:=u.any ho I.free fun z=>(hch _ z).2.1 rfl
  exact I.step (ch:=ch) hch (fun b o hL hb hc e n=>u.keep b o e n (fun z=>(List.mem_cons.mp (I.stkSub b z)).elim hL hb) hc) (fun b o _ _ hc e n=>u.any e n hc) (fun b o hc e n=>u.free b o e n hc) (fun b o hc e=>u.there b o e hc) u.tups u.frzs u.tbls (fun m' hm=>by
    obtain⟨o',es',ep',ho',r'⟩:=hm;rw [ho] at ho';cases ho';exact⟨_,es',ep',hL,r'⟩) hok hg
theorem Inv.turned {t':Nat} {it:Addr} (I:Inv X pins σ H s) (k:∀ b o,b≠it→s.heap.get? b=some o→h'.get? b=some o) (hn:H it=none) (hL:it≠X.env.locals)
    (h1:it∈X.ex∨X.s₀.heap.objs.size≤it) (h2:∀ x c,X.env.cells.lookup x=some c→c≠it) (h3:∀ p∈X.pn++pins,p.1≠it):Inv X pins σ H { s with heap:=h',toks:=t' }:=by
  have nit:∀ b u,H b=some u→b≠it:=fun b u e z=>by rw [z,hn] at e;cases e
  refine I.step (g':=s.gens) (d':=s.drawn) (ch:=[it]) (fun b hb=>?_) (fun b o _ _ hc e _=>k b o (fun z=>hc (by simp [z])) e) (fun b o _ _ hc e _=>⟨o.slots,k b o (fun z=>hc (by simp [z])) e⟩) (fun _ _ _ _ n=>n)
    (fun b o hc e=>⟨o,k b o (fun z=>hc (by simp [z])) e⟩) (fun _ _ e=>e) (fun _ _ _ e=>e) (fun b ps e=>⟨#[],by rw [e];simp⟩) (fun m hm=>?_) (fun b u e=>?_) I.bare
  · have e:b=it:=by simpa using hb
    subst e;exact⟨h1,hL,h2,h3⟩
  · obtain⟨o,es,ep,ho,r⟩:=hm
    exact⟨o,es,ep,k _ o (Ne.symm hL) ho,r⟩
  · refine(I.hok b u e).stay (fun c v hc q=>k c v ?_ q) (fun _ q=>q) fun _ _ q=>q
    rcases hc with z|z
    · rw [z];exact nit b u e
    · exact nit c _ z
theorem Inv.tok (I:Inv X pins σ H s) (t:Nat):Inv X pins σ H { s with toks:=t }:=I.un (h':=s.heap) (t':=t) Un.refl I.hok
theorem Inv.kept {t':Nat} (I:Inv X pins σ H s) (k:∀ b u,s.heap.get? b=some u→h'.get? b=some u):Inv X pins σ H { s with heap:=h',toks:=t' }:=I.un (Un.kept k) (I.hok.kept k)
theorem Inv.laid {a:Addr} {o:HO} {t':Nat} (I:Inv X pins σ H s) (k:∀ b u,s.heap.get? b=some u→h'.get? b=some u) (hp:s.heap.objs.size≤a) (new:zX X.prog X.w (upd H a o) h' a o) :
    Inv X pins σ (upd H a o) { s with heap:=h',toks:=t' }:=I.un (Un.laid k hp (I.hok.fresh hp)) (I.hok.laid k hp new)
theorem Inv.write {x e:Addr} {o:HO} {t':Nat} (I:Inv X pins σ H s) (mu:Mut (H x)) (he:e=x∨H e=some (.own x)) (k:∀ b u,b≠e→s.heap.get? b=some u→h'.get? b=some u) (heo:∃ u,h'.get? e=some u)
    (new:zX X.prog X.w (upd H x o) h' x o):Inv X pins σ (upd H x o) { s with heap:=h',toks:=t' }:=I.un (Un.write mu he k heo) (I.hok.write mu he k heo new)
theorem Inv.pins_of {pins':List (Addr×Obj)} (I:Inv X pins σ H s) (h:∀ p∈pins',s.heap.get? p.1=some p.2∧H p.1=none∧p.1≠X.env.locals∧p.1∉X.fs∧∀ v,p.2.data≠.cell v):Inv X pins' σ H s:=
  ⟨I.ok,I.os,I.bare,I.base,I.loc,I.cell,I.free,I.freeC,fun p hp=>(List.mem_append.mp hp).elim (fun z=>I.pin p (List.mem_append_left _ z)) (h p),I.hok,I.len⟩
theorem zba {N:List Str} (hN:N.Nodup) {i j:Nat} {x:Str} (a:N[i]?=some x) (b:N[j]?=some x):i=j:=by
  obtain⟨h1,e1⟩:=List.getElem?_eq_some_iff.mp a;obtain⟨h2,e2⟩:=List.getElem?_eq_some_iff.mp b;exact(List.getElem_inj hN).mp (e1.trans e2.symm)
theorem zc3 {M:Model} {A:Around} {E:Value→Shared→Prop} {i:Nat} {x:Str} {v:V} {u:Value} {Q:Unit→Shared→Prop} (I:Inv X pins σ H s) (hN:X.N.Nodup) (hi:X.N[i]?=some x) (hx:Loc X.env.scope x) (r:RelV v u)
    (h:∀ s',Inv X pins (σ.set i (some v)) H s'→(∃ a,Heap.SameBut a s.heap s'.heap∧(a=X.env.locals∨X.env.cells.lookup x=some a))→Q () s') (hf:X.fn x=true∨X.env.scope.names.lookup x=some .local:=by first|exact .inl rfl|exact .inr rfl|assumption):wpAny M A (storeName X.env x u) Q E s:=by
  obtain⟨m,hn,hl⟩:=id I.loc;have hcls:(X.env.scope.kind==.class||(X.env.scope.kind==.module&&X.env.locals != X.env.globals))=false:=by rw [I.ok.kind];rfl
  have hiσ : i < σ.length:=by rw [I.len];exact(List.getElem?_eq_some_iff.mp hi).1
  have cne:=I.cne;have tracked:∀ {a:Addr} {h':Heap},(∃ o,s.heap.get? a=some o∧H a=none)→Heap.SameBut a s.heap h'→HOk X.prog X.w H h':=fun {a h'} ha hs b ob e=>by
    obtain⟨_,_,hfree⟩:=ha;refine(I.hok b ob e).stay (fun c w' hc q=>(hs.2 c ?_).trans q) (fun _ q=>q) fun _ _ q=>q
    rintro rfl
    rcases hc with rfl|hc
    · rw [hfree] at e;cases e
    · rw [hfree] at hc;cases hc
  rcases hx with hk|hk
  · refine wpAny_storeName_local hk hn (fun h' hn' hs=>?_) hcls
    obtain⟨oL,_,_,hoL,_⟩:=id hn;refine h _ ⟨I.ok,I.os,I.bare,⟨fun b o e n hb hx=>?_,fun b o e n hb hx=>?_,I.base.free,fun b o e hx=>?_,I.base.tups,I.base.frzs,I.base.tbls⟩,⟨_,hn',fun j y v' e1 e2 e3=>?_⟩,fun y c e=>?_,I.free,I.freeC,fun p hp=>?_,tracked ⟨oL,hoL,I.free⟩ hs,by simpa using I.len⟩ ⟨_,hs,.inl rfl⟩
    · exact(hs.2 b (Nat.ne_of_lt (Nat.lt_of_lt_of_le (Heap.lt_size e) I.ok.above))).trans (I.base.keep b o e n hb hx)
    · obtain⟨sl,e1⟩:=I.base.slot b o e n hb hx
      exact⟨sl,(hs.2 b (Nat.ne_of_lt (Nat.lt_of_lt_of_le (Heap.lt_size e) I.ok.above))).trans e1⟩
    · obtain⟨o',e1⟩:=I.base.there b o e hx
      exact⟨o',(hs.2 b (Nat.ne_of_lt (Nat.lt_of_lt_of_le (Heap.lt_size e) I.ok.above))).trans e1⟩
    · by_cases hj:j=i
      · subst hj
        rw [hi] at e1;cases e1;rw [List.getElem?_set_self hiσ] at e2;cases e2;exact⟨u,r,.inl ⟨hk,by simp⟩⟩
      · rw [List.getElem?_set_ne (Ne.symm hj)] at e2
        obtain⟨u',r',q⟩:=hl j y v' e1 e2 e3;refine⟨u',r',?_⟩
        rcases q with ⟨k,e⟩|⟨k,c,e,z⟩
        · refine .inl ⟨k,?_⟩
          have:y≠x:=fun e=>hj (zba hN e1 (e ▸ hi))
          simp [this,e]
        · exact .inr ⟨k,c,e,z.sameBut hs (cne y c e)⟩
    · obtain⟨w',z⟩:=I.cell y c e
      exact⟨w',z.sameBut hs (cne y c e)⟩
    · obtain⟨e,n,ne,nf,d⟩:=I.pin p hp
      exact⟨(hs.2 p.1 ne).trans e,n,ne,nf,d⟩
  · have hfn:X.fn x=true:=by
      rcases hf with z|z
      · exact z
      · rw [z] at hk;cases hk
    obtain⟨c,hc⟩:=I.ok.has x (.inl hk);obtain⟨w',z⟩:=I.cell x c hc;refine wpAny_storeName_cell I.ok.kind hk hc z (fun h' hc' hs=>?_)
    obtain⟨oc,hoc,hocd⟩:=id z;refine h { s with heap:=h' } ⟨I.ok,I.os,I.bare,⟨fun b o e n hb hx=>?_,fun b o e n hb hx=>?_,I.base.free,fun b o e hx=>?_,I.base.tups,I.base.frzs,I.base.tbls⟩,⟨m,hn.sameBut hs (Ne.symm (cne x c hc)),fun j y v' e1 e2 e3=>?_⟩,fun y c' e=>?_,I.free,I.freeC,fun p hp=>?_,tracked ⟨oc,hoc,I.freeC x c hc⟩ hs,by simpa using I.len⟩ ⟨c,hs,.inr hc⟩
    · exact(hs.2 b (Nat.ne_of_lt (Nat.lt_of_lt_of_le (Heap.lt_size e) (I.ok.cab x c hfn hc)))).trans (I.base.keep b o e n hb hx)
    · obtain⟨sl,e1⟩:=I.base.slot b o e n hb hx
      exact⟨sl,(hs.2 b (Nat.ne_of_lt (Nat.lt_of_lt_of_le (Heap.lt_size e) (I.ok.cab x c hfn hc)))).trans e1⟩
    · obtain⟨o',e1⟩:=I.base.there b o e hx
      exact⟨o',(hs.2 b (Nat.ne_of_lt (Nat.lt_of_lt_of_le (Heap.lt_size e) (I.ok.cab x c hfn hc)))).trans e1⟩
    · by_cases hj:j=i
      · subst hj
        rw [hi] at e1;cases e1;rw [List.getElem?_set_self hiσ] at e2;cases e2;exact⟨u,r,.inr ⟨.inl hk,c,hc,hc'⟩⟩
      · rw [List.getElem?_set_ne (Ne.symm hj)] at e2
        obtain⟨u',r',q⟩:=hl j y v' e1 e2 e3;refine⟨u',r',?_⟩
        rcases q with q|⟨k,c',e,z'⟩
        · exact .inl q
        · refine .inr ⟨k,c',e,z'.sameBut hs ?_⟩
          rintro rfl
          exact hj (zba hN e1 (I.ok.inj _ _ _ e hc ▸ hi))
    · by_cases hcc:c'=c
      · subst hcc;exact⟨_,hc'⟩
      · obtain⟨w2,z2⟩:=I.cell y c' e
        exact⟨w2,z2.sameBut hs hcc⟩
    · obtain⟨e,n,ne,nf,d⟩:=I.pin p hp
      refine⟨(hs.2 p.1 ?_).trans e,n,ne,nf,d⟩
      intro q;rw [q,hoc] at e;have q':oc=p.2:=Option.some.inj e;exact d w' (by rw [←q'];exact hocd)
theorem J1 {M:Model} {A:Around} {E:Value→Shared→Prop} {i:Nat} {x:Str} {v:V} {u:Value} {Q:Unit→Shared→Prop} (I:Inv X pins σ H s) (hN:X.N.Nodup) (hi:X.N[i]?=some x) (hx:Loc X.env.scope x) (r:RelV v u)
    (h:∀ s',Inv X pins (σ.set i (some v)) H s'→Q () s') (hf:X.fn x=true∨X.env.scope.names.lookup x=some .local:=by first|exact .inl rfl|exact .inr rfl|assumption):wpAny M A (storeName X.env x u) Q E s:=
  zc3 I hN hi hx r (fun s' I' _=>h s' I') hf
theorem Inv.call' {s':Shared} {ch:List Addr} (I:Inv X pins σ H s) (ho:s'.os=s.os) (u:Un (frs X.stack) ch H H' s.heap s'.heap) (hok:HOk X.prog X.w H' s'.heap) (hg:AllBare s'.gens)
    (hch:∀ b∈ch,(b∈X.ex∨X.s₀.heap.objs.size≤b)∧b≠X.env.locals∧(∀ x c,X.env.cells.lookup x=some c→c≠b)∧∀ p∈X.pn++pins,p.1≠b):Inv X pins σ H' s':=by
  obtain⟨h',g',d',t',o'⟩:=s';have e:o'=s.os:=ho;subst e;exact I.call (g':=g') (t':=t') (d':=d') u hok hg hch
end
abbrev XK:=Value→Option Addr→Hp→Prop
abbrev St:=List (Option V)
abbrev VK:=V→Hp→Prop
abbrev TE:=St→Hp→VK→Prop
abbrev TT:=St→Hp→(Bool→Hp→Prop)→Prop
abbrev TA:=St→Hp→(List V→Hp→Prop)→Prop
structure Ends where
  nx:St→Hp→Prop
  rt:VK
  bk:St→Hp→Prop:=fun _ _=>False
  ct:St→Hp→Prop:=fun _ _=>False
abbrev TS:=Ends→St→Hp→Prop
def EP (X:Cx) (pins:List (Addr×Obj)) (σ : St) (Q:VK) (u:Value) (s':Shared):Prop:=∃ v H',Inv X pins σ H' s'∧RelV v u∧Q v H'
def TP (X:Cx) (pins:List (Addr×Obj)) (σ : St) (Q:Bool→Hp→Prop) (b:Bool) (s':Shared):Prop:=∃ H',Inv X pins σ H' s'∧Q b H'
def AP (X:Cx) (pins:List (Addr×Obj)) (σ : St) (Q:List V→Hp→Prop) (us:List Value) (s':Shared):Prop:=∃ vs H',Inv X pins σ H' s'∧Vals vs us∧Q vs H'
def SP (X:Cx) (pins:List (Addr×Obj)) (D:Ends) (f:Flow) (s':Shared):Prop:=
  match f with
  | .next=>∃ σ' H',Inv X pins σ' H' s'∧D.nx σ' H'
  | .brk=>∃ σ' H',Inv X pins σ' H' s'∧D.bk σ' H'
  | .cont=>∃ σ' H',Inv X pins σ' H' s'∧D.ct σ' H'
  | .ret u=>∃ v σ' H',Inv X pins σ' H' s'∧RelV v u∧D.rt v H'
def PE (X:Cx) (e:Expr) (t:TE):Prop:=
  ∀ (pins:List (Addr×Obj)) (s:Shared) (σ : St) (H:Hp) (Q:VK),Inv X pins σ H s→t σ H Q→wpAny (model X.prog X.w) X.A (eval e X.env) (EP X pins σ Q) X.xe s
def PT (X:Cx) (e:Expr) (t:TT):Prop:=
  ∀ (pins:List (Addr×Obj)) (s:Shared) (σ : St) (H:Hp) (Q:Bool→Hp→Prop),Inv X pins σ H s→t σ H Q→wpAny (model X.prog X.w) X.A (isTrue e X.env (eval e X.env)) (TP X pins σ Q) X.xe s
def PW (X:Cx) (e:Expr) (t:TT):Prop:=
  ∀ (whole:Sem Value) (pins:List (Addr×Obj)) (s:Shared) (σ : St) (H:Hp) (Q:Bool→Hp→Prop),Inv X pins σ H s→t σ H Q→wpAny (model X.prog X.w) X.A (isTrue e X.env whole) (TP X pins σ Q) X.xe s
theorem PW.pt {X:Cx} {e:Expr} {t:TT} (h:PW X e t):PT X e t:=h _
def PA (X:Cx) (es:List Expr) (t:TA):Prop:=
  ∀ (pos:Pos) (pins:List (Addr×Obj)) (s:Shared) (σ : St) (H:Hp) (Q:List V→Hp→Prop),Inv X pins σ H s→t σ H Q→wpAny (model X.prog X.w) X.A (spliced (backTo pos (starEach es X.env))) (AP X pins σ Q) X.xe s
def PS (X:Cx) (st:Stmt) (t:TS):Prop:=
  ∀ (pins:List (Addr×Obj)) (s:Shared) (σ : St) (H:Hp) (D:Ends),Inv X pins σ H s→t D σ H→wpAny (model X.prog X.w) X.A (exec st X.env) (SP X pins D) X.xe s
def PSs (X:Cx) (st:List Stmt) (t:TS):Prop:=
  ∀ (pins:List (Addr×Obj)) (s:Shared) (σ : St) (H:Hp) (D:Ends),Inv X pins σ H s→t D σ H→wpAny (model X.prog X.w) X.A (execs st X.env) (SP X pins D) X.xe s
theorem thn {α : Type} {t:Sem α} {Q Q':α→Shared→Prop} {M:Model} {A:Around} {E:Value→Shared→Prop} {s:Shared} (h:wpAny M A t Q E s) (hQ:∀ a s,Q a s→Q' a s):wpAny M A t Q' E s:=wpAny_mono h hQ fun _ _ x=>x
section
variable {X:Cx}
def tVar (i:Nat):TE:=fun σ H Q=>∃ v,σ[i]?=some (some v)∧Q v H
def tC (v:V):TE:=fun _ H Q=>Q v H
theorem ZD {i:Nat} {x:Str} {pos:Pos} (hN:X.N[i]?=some x) (hv:Vis X.env.scope x) (hd:(x==("__debug__" : Str))=false:=by decide) (hcd:(x==("__classdict__" : Str))=false:=by decide):PE X (.Name x pos) (tVar i):=by
  intro pins s σ H Q I h;obtain⟨v,e,h⟩:=h;obtain⟨m,hn,hl⟩:=I.loc;obtain⟨u,r,l⟩:=hl i x v hN e hv;have fin:EP X pins σ Q u s:=⟨v,H,I,r,h⟩
  rcases l with ⟨hk,hm⟩|⟨hk,c,hc,hcell⟩
  · exact wpAny_Name (wpAny_loadName_local I.ok.kind hk hn hm fin) hd
  · rcases hk with hk|hk
    · exact wpAny_Name (wpAny_loadName_cell I.ok.kind hk hc hcell fin) hd
    · exact wpAny_Name (wpAny_loadName_free I.ok.kind hk hc hcell fin hcd) hd
theorem zhI {i j pos}:PE X (.Constant (.int i) j pos) (tC (.int i)):=fun _ _ _ H _ I h=>wpAny_Constant_int ⟨.int i,H,I.tok _,⟨_,rfl⟩,h⟩
theorem zis {b j pos}:PE X (.Constant (.bool b) j pos) (tC (.bl b)):=fun _ _ _ H _ I h=>Constant_bool ⟨.bl b,H,I,rfl,h⟩
theorem zet {j pos}:PE X (.Constant .none j pos) (tC .non):=fun _ _ _ H _ I h=>Constant_none ⟨.non,H,I,rfl,h⟩
theorem ziM {x j pos}:PE X (.Constant (.str x) j pos) (tC (.str x)):=fun _ _ _ H _ I h=>Calls.Constant_str ⟨.str x,H,I.tok _,⟨_,rfl⟩,h⟩
def Gl (X:Cx) (x:Str):Prop:=X.env.kindOf x=some .globalImplicit
theorem ZK {E:Value→Shared→Prop} {pins:List (Addr×Obj)} {s:Shared} {σ : St} {H:Hp} {x:Str} {u:Value} {pos:Pos} {Q:Value→Shared→Prop} (I:Inv X pins σ H s) (hg:Gl X x) (hm:X.mg x=some u) (h:Q u s)
    (hd:(x==("__debug__" : Str))=false:=by decide):wpAny (model X.prog X.w) X.A (eval (.Name x pos) X.env) Q E s:=
  Calls.Name_function_global I.ok.kind hg (Calls.loadGlobal_global (by rw [I.ok.glob];exact I.mod.glob.keeps I.bk) hm h) hd
theorem Jy {E:Value→Shared→Prop} {pins:List (Addr×Obj)} {s:Shared} {σ : St} {H:Hp} {x:Str} {u:Value} {pos:Pos} {Q:Value→Shared→Prop} (I:Inv X pins σ H s) (hg:Gl X x) (hm:X.mg x=none) (hv:bootBuiltins x=some u) (h:Q u s)
    (hn:x≠"__name__":=by decide) (hd:(x==("__debug__" : Str))=false:=by decide):wpAny (model X.prog X.w) X.A (eval (.Name x pos) X.env) Q E s:=by
  obtain⟨mb,h1,h2⟩:=I.mod.blt;exact Calls.Name_function_global I.ok.kind hg (Calls.loadGlobal_builtin (by rw [I.ok.glob];exact I.mod.glob.keeps I.bk) hm (by rw [I.ok.blt];exact h1.keeps I.bk) ((h2 x hn).trans hv) h) hd
theorem zay {x:Str} {v:V} {u:Value} {pos:Pos} (hg:Gl X x) (hm:X.mg x=some u) (r:RelV v u) (hd:(x==("__debug__" : Str))=false:=by decide):PE X (.Name x pos) (tC v):=
  fun _ _ _ H _ I h=>ZK I hg hm ⟨v,H,I,r,h⟩ hd
theorem zbM {x:Str} {v:V} {u:Value} {pos:Pos} (hg:Gl X x) (hm:X.mg x=none) (hv:bootBuiltins x=some u) (r:RelV v u) (hn:x≠"__name__":=by decide) (hd:(x==("__debug__" : Str))=false:=by decide):PE X (.Name x pos) (tC v):=
  fun _ _ _ H _ I h=>Jy I hg hm hv ⟨v,H,I,r,h⟩ hn hd
variable {a b:Expr} {ta tb:TE} {pos:Pos}
def tB (t:TE):TT:=fun σ H Q=>t σ H fun x H1=>∃ c,x=.bl c∧Q c H1
theorem ze3 {e:Expr} {t:TE} (h:PE X e t) (he:∀ whole,isTrue e X.env whole=(do let v ←whole;standAt e.pos;holding [v] (truthy v)):=by intro _;rfl):PT X e (tB t):=by
  intro pins s σ H Q I hw;refine isTrue_plain (thn (h pins s σ H _ I hw) fun v s1 ⟨x,H1,I1,r1,q1⟩=>?_) (he _)
  obtain⟨d,rfl,q⟩:=q1;cases r1;exact wpAny_truthy_bool ⟨H1,I1,q⟩
variable {tA tB':TT} {rest:List Expr}
def tOr (t u:TT):TT:=fun σ H Q=>t σ H fun c H1=>if c=true then Q true H1 else u σ H1 Q
def tNot (t:TT):TT:=fun σ H Q=>t σ H fun c H1=>Q (!c) H1
theorem zfh (ha:PT X a tA):PW X (.BoolOp .Or [a] pos) tA:=by
  intro wh pins s σ H Q I h;refine isTrue_or (thn (ha pins s σ H Q I h) fun c s1 e=>?_)
  cases c with
  | false=>exact isTrue_or_nil e
  | true=>exact e
theorem zhk (ha:PT X a tA) (hb:PW X (.BoolOp .Or (b::rest) pos) tB'):PW X (.BoolOp .Or (a::b::rest) pos) (tOr tA tB'):=by
  intro wh pins s σ H Q I h;refine isTrue_or (thn (ha pins s σ H _ I h) fun c s1 ⟨H1,I1,q1⟩=>?_)
  cases c with
  | true=>exact⟨H1,I1,q1⟩
  | false=>exact hb wh pins s1 σ H1 Q I1 q1
theorem zhd (ha:PT X a tA):PT X (.UnaryOp .Not a pos) (tNot tA):=by
  intro pins s σ H Q I h;exact isTrue_not (ha pins s σ H (fun c H1=>Q (!c) H1) I h)
def zgc (ta tb:TE):TE:=fun σ H Q=>ta σ H fun x H1=>∃ c,x=.bl c∧if c=true then tb σ H1 Q else Q (.bl false) H1
def zdT (ta:TE):TE:=fun σ H Q=>ta σ H fun x H1=>∃ c,x=.bl c∧Q (.bl (!c)) H1
theorem zgp {op} {t:TE} (h:PE X a t):PE X (.BoolOp op [a] pos) t:=fun pins s σ H Q I hw=>BoolOp_one (h pins s σ H Q I hw)
theorem zg0 (ha:PE X a ta) (hb:PE X (.BoolOp .And (b::rest) pos) tb):PE X (.BoolOp .And (a::b::rest) pos) (zgc ta tb):=by
  intro pins s σ H Q I h;refine BoolOp_and (thn (ha pins s σ H _ I h) fun v s1 ⟨x,H1,I1,r1,q1⟩=>?_)
  obtain⟨c,rfl,q1⟩:=q1;cases r1;refine wpAny_truthy_bool ?_;cases c with
  | true=>exact hb pins s1 σ H1 Q I1 q1
  | false=>exact⟨.bl false,H1,I1,rfl,q1⟩
theorem zfY (ha:PE X a ta):PE X (.UnaryOp .Not a pos) (zdT ta):=by
  intro pins s σ H Q I h;refine UnaryOp_ (thn (ha pins s σ H _ I h) fun v s1 ⟨x,H1,I1,r1,q1⟩=>?_)
  obtain⟨c,rfl,q1⟩:=q1;cases r1;exact not_of (wpAny_truthy_bool ⟨.bl (!c),H1,I1,rfl,q1⟩)
end
def SqL (K:PySem.W.Frag) (H:Hp) (a:Addr) (xs:List V):Prop:=
  Rd H a (.lst xs)∨
    ∃ (o:Obj) (its:Array Value) (n:Nat),K.lookup a=some o∧o.cls=.type "list"∧o.dict=none∧o.data=.seq its n∧its.size≤sizeLine∧Vals xs its.toList
def SqT (K:PySem.W.Frag) (H:Hp) (a:Addr) (xs:List V):Prop:=
  Rd H a (.tup xs)∨
    ∃ (o:Obj) (its:Array Value) (n:Nat),K.lookup a=some o∧o.cls=.type "tuple"∧o.data=.seq its n∧its.size≤sizeLine∧Vals xs its.toList
def absV:Value→Option V
  | .none=>some .non
  | .bool b=>some (.bl b)
  | .int i _=>some (.int i)
  | .str x _=>some (.str x)
  | .bytes b _=>some (.byt b)
  | .float b _=>some (.flt b)
  | .ref a=>some (.ref a)
  | .type n=>some (.ty n)
  | _=>none
theorem RelV.abs {x:V} {u:Value} (r:RelV x u):absV u=some x:=by
  cases x with
  | non=>cases r;rfl
  | bl _=>cases r;rfl
  | int _=>obtain⟨t,rfl⟩:=r;rfl
  | str _=>obtain⟨t,rfl⟩:=r;rfl
  | byt _=>obtain⟨t,rfl⟩:=r;rfl
  | flt _=>obtain⟨t,rfl⟩:=r;rfl
  | ref _=>cases r;rfl
  | ty _=>cases r;rfl
theorem RelV.inj {x y:V} {u:Value} (r:RelV x u) (q:RelV y u):x=y:=Option.some.inj (r.abs.symm.trans q.abs)
theorem Vals.inj:∀ {xs ys:List V} {us:List Value},Vals xs us→Vals ys us→xs=ys
  | _,_,_,.nil,.nil=>rfl
  | _,_,_,.cons r t,.cons r' t'=>by rw [r.inj r',Vals.inj t t']
section
variable {X:Cx} {pins:List (Addr×Obj)} {σ : St} {H:Hp} {s:Shared} {a:Addr} {xs ys:List V}
theorem SqL.of {K:PySem.W.Frag} (h:H a=some (.lst xs)):SqL K H a xs:=.inl (.inl h)
theorem SqT.of {K:PySem.W.Frag} (h:H a=some (.tup xs)):SqT K H a xs:=.inl (.inl h)
theorem Inv.list (I:Inv X pins σ H s) (h:SqL X.K H a xs):∃ its:List Value,Vals xs its∧PlainL s.heap a its.toArray∧xs.length≤sizeLine:=by
  rcases h with h|⟨o,its,n,hk,hc,hd,hs,hz,r⟩
  · obtain⟨z,its,n,r,e⟩:=h.ok I.hok
    exact⟨its,r,⟨_,n,e,rfl,rfl,rfl⟩,z⟩
  · refine⟨its.toList,r,⟨o,n,I.kIn a o hk,hc,hd,by simpa using hs⟩,?_⟩
    have e:=r.length;simp only [Array.length_toList] at e
    omega
theorem Inv.tuple (I:Inv X pins σ H s) (h:SqT X.K H a xs):∃ its:List Value,Vals xs its∧IsTup s.heap a its.toArray∧xs.length≤sizeLine:=by
  rcases h with h|⟨o,its,n,hk,hc,hs,hz,r⟩
  · obtain⟨z,its,r,p⟩:=h.ok I.hok
    exact⟨its,r,p,z⟩
  · refine⟨its.toList,r,⟨o,I.kIn a o hk,hc,n,by simpa using hs⟩,?_⟩
    have e:=r.length;simp only [Array.length_toList] at e
    omega
theorem Inv.list_inj (I:Inv X pins σ H s) (h:SqL X.K H a xs) (h':SqL X.K H a ys):xs=ys:=by
  obtain⟨its,r,⟨o,n,e,_,_,d⟩,_⟩:=I.list h;obtain⟨its',r',⟨o',n',e',_,_,d'⟩,_⟩:=I.list h';rw [e] at e';cases e';rw [d] at d'
  injection d' with d1 _
  have:its=its':=by simpa using congrArg Array.toList d1
  subst this;exact r.inj r'
theorem Inv.tuple_inj (I:Inv X pins σ H s) (h:SqT X.K H a xs) (h':SqT X.K H a ys):xs=ys:=by
  obtain⟨its,r,⟨o,e,_,n,d⟩,_⟩:=I.tuple h;obtain⟨its',r',⟨o',e',_,n',d'⟩,_⟩:=I.tuple h';rw [e] at e';cases e';rw [d] at d'
  injection d' with d1 _
  have:its=its':=by simpa using congrArg Array.toList d1
  subst this;exact r.inj r'
end
abbrev Cx.wish (X:Cx) (E:Value→Shared→Prop):Cx:={ X with xe:=E }
abbrev Cx.nox (X:Cx):Cx:=X.wish fun _ _=>False
theorem Cx.Ok.wish {X:Cx} (ok:X.Ok) (E:Value→Shared→Prop):(X.wish E).Ok:=
  ⟨ok.mod,ok.kind,ok.glob,ok.blt,ok.above,ok.inj,ok.has,ok.cab,ok.hd,ok.frames,ok.stk,ok.exf,ok.bs,ok.bsz,ok.noex,ok.exfs,ok.funs,ok.frf⟩
theorem Cx.Ok.unwish {X:Cx} {E:Value→Shared→Prop} (ok:(X.wish E).Ok):X.Ok:=
  ⟨ok.mod,ok.kind,ok.glob,ok.blt,ok.above,ok.inj,ok.has,ok.cab,ok.hd,ok.frames,ok.stk,ok.exf,ok.bs,ok.bsz,ok.noex,ok.exfs,ok.funs,ok.frf⟩
section
variable {X:Cx} {pins:List (Addr×Obj)} {σ : St} {H:Hp} {s:Shared} {E:Value→Shared→Prop}
theorem Inv.wish (I:Inv X pins σ H s) (E:Value→Shared→Prop):Inv (X.wish E) pins σ H s:=⟨I.ok.wish E,I.os,I.bare,I.base,I.loc,I.cell,I.free,I.freeC,I.pin,I.hok,I.len⟩
theorem Inv.unwish (I:Inv (X.wish E) pins σ H s):Inv X pins σ H s:=⟨I.ok.unwish,I.os,I.bare,I.base,I.loc,I.cell,I.free,I.freeC,I.pin,I.hok,I.len⟩
theorem SP.unwish {D:Ends} {f:Flow} {s':Shared} (h:SP (X.wish E) pins D f s'):SP X pins D f s':=by
  cases f with
  | next=>obtain⟨σ',H',I,q⟩:=h;exact⟨σ',H',I.unwish,q⟩
  | brk=>obtain⟨σ',H',I,q⟩:=h;exact⟨σ',H',I.unwish,q⟩
  | cont=>obtain⟨σ',H',I,q⟩:=h;exact⟨σ',H',I.unwish,q⟩
  | ret u=>obtain⟨v,σ',H',I,r,q⟩:=h;exact⟨v,σ',H',I.unwish,r,q⟩
theorem PE.nox {e:Expr} {t:TE} (h:PE X.nox e t):PE X e t:=fun pins s σ H Q I hw=>
  wpAny_mono (h pins s σ H Q (I.wish _) hw) (fun _ _ ⟨v,H',I',r,q⟩=>⟨v,H',I'.unwish,r,q⟩) fun _ _ z=>False.elim z
theorem PT.nox {e:Expr} {t:TT} (h:PT X.nox e t):PT X e t:=fun pins s σ H Q I hw=>
  wpAny_mono (h pins s σ H Q (I.wish _) hw) (fun _ _ ⟨H',I',q⟩=>⟨H',I'.unwish,q⟩) fun _ _ z=>False.elim z
theorem PSs.nox {st:List Stmt} {t:TS} (h:PSs X.nox st t):PSs X st t:=fun pins s σ H D I hw=>
  wpAny_mono (h pins s σ H D (I.wish _) hw) (fun _ _ q=>q.unwish) fun _ _ z=>False.elim z
end
section
variable {X:Cx} {st:Stmt} {rest:List Stmt} {t u:TS} {e:Expr} {te:TE} {pos:Pos}
def tNext:TS:=fun D σ H=>D.nx σ H
def tSeq (t u:TS):TS:=fun D σ H=>t { D with nx:=u D } σ H
theorem zgE:PSs X [] tNext:=fun _ _ σ H _ I h=>wpAny_execs_nil ⟨σ,H,I,h⟩
theorem zim (h1:PS X st t) (h2:PSs X rest u):PSs X (st::rest) (tSeq t u):=by
  intro pins s σ H D I h;refine wpAny_execs_cons (thn (h1 pins s σ H { D with nx:=u D } I h) fun f s1 q=>?_)
  cases f with
  | next=>
    obtain⟨σ',H',I',q⟩:=q;exact h2 pins s1 σ' H' D I' q
  | ret v=>exact q
  | brk=>exact q
  | cont=>exact q
theorem zdr (h1:PS X st t):PSs X [st] t:=by
  intro pins s σ H D I h;refine wpAny_execs_cons (thn (h1 pins s σ H D I h) fun f s1 q=>?_)
  cases f with
  | next=>exact wpAny_execs_nil q
  | ret v=>exact q
  | brk=>exact q
  | cont=>exact q
theorem Inv.quiet {pins:List (Addr×Obj)} {σ : St} {H:Hp} {s:Shared} (I:Inv X pins σ H s):interactive X.env=false:=by simp [interactive,I.ok.kind]
def zfO (te:TE):TS:=fun D σ H=>te σ H fun _ H1=>D.nx σ H1
theorem zaW (he:PE X e te) (hs:swapsWith e none pos.line X.env=pure false:=by rfl):PS X (.Expr e pos) (zfO te):=by
  intro pins s σ H D I h;exact wpAny_Expr_any (thn (he pins s σ H _ I h) fun v s1 ⟨x,H1,I1,r1,q1⟩=>⟨σ,H1,I1,q1⟩) I.quiet hs
def tRet (te:TE):TS:=fun D σ H=>te σ H D.rt
theorem zgX (he:PE X e te):PS X (.Return (some e) pos) (tRet te):=by
  intro pins s σ H D I h;exact wpAny_Return_some (thn (he pins s σ H _ I h) fun v s1 ⟨x,H1,I1,r1,q1⟩=>⟨x,σ,H1,I1,r1,q1⟩)
def tIfS (c:TT) (t u:TS):TS:=fun D σ H=>c σ H fun b H1=>if b=true then t D σ H1 else u D σ H1
theorem zdz {c:Expr} {a b:List Stmt} {tc:TT} (hc:PT X c tc) (ha:PSs X a t) (hb:PSs X b u):PS X (.If c a b pos) (tIfS tc t u):=by
  intro pins s σ H D I h;refine wpAny_If (thn (hc pins s σ H _ I h) fun d s1 ⟨H1,I1,q1⟩=>?_)
  cases d with
  | true=>exact ha pins s1 σ H1 D I1 q1
  | false=>exact hb pins s1 σ H1 D I1 q1
end
abbrev TG:=V→St→Hp→(St→Hp→Prop)→Prop
abbrev TGs:=List V→St→Hp→(St→Hp→Prop)→Prop
def PG (X:Cx) (target:Expr) (t:TG):Prop:=
  ∀ (pins:List (Addr×Obj)) (s:Shared) (σ : St) (H:Hp) (v:V) (u:Value) (Q:St→Hp→Prop),Inv X pins σ H s→RelV v u→t v σ H Q→
    wpAny (model X.prog X.w) X.A (assign target X.env u) (fun _ s'=>∃ σ' H',Inv X pins σ' H' s'∧Q σ' H') X.xe s
def PGs (X:Cx) (ts:List Expr) (t:TGs):Prop:=
  ∀ (pins:List (Addr×Obj)) (s:Shared) (σ : St) (H:Hp) (vs:List V) (us:List Value) (Q:St→Hp→Prop),Inv X pins σ H s→Vals vs us→t vs σ H Q→
    wpAny (model X.prog X.w) X.A (assignInOrder ((assignEach ts X.env).map (·.2)) us) (fun _ s'=>∃ σ' H',Inv X pins σ' H' s'∧Q σ' H') X.xe s
abbrev TSet:=V→V→V→Hp→(Hp→Prop)→Prop
def PSet (X:Cx) (t:TSet):Prop:=
  ∀ (pins:List (Addr×Obj)) (s:Shared) (σ : St) (H:Hp) (o i v:V) (ov iv u:Value) (Q:Hp→Prop),Inv X pins σ H s→RelV o ov→RelV i iv→RelV v u→t o i v H Q→
    wpAny (model X.prog X.w) X.A (setItem ov iv u) (fun _ s'=>∃ H',Inv X pins σ H' s'∧Q H') X.xe s
abbrev TIp:=V→V→Hp→VK→Prop
def PIp (X:Cx) (op:Operator) (t:TIp):Prop:=
  ∀ (pins:List (Addr×Obj)) (s:Shared) (σ : St) (H:Hp) (x y:V) (v u:Value) (Q:VK),Inv X pins σ H s→RelV x v→RelV y u→t x y H Q→
    wpAny (model X.prog X.w) X.A (inplaceOp op v u) (EP X pins σ Q) X.xe s
section
variable {X:Cx} {pos:Pos}
def zaS (i:Nat):TG:=fun v σ H Q=>Q (σ.set i (some v)) H
theorem zfP {i:Nat} {x:Str} (hN:X.N.Nodup) (hi:X.N[i]?=some x) (hx:Loc X.env.scope x) (hf:X.fn x=true∨X.env.scope.names.lookup x=some .local:=by first|exact .inl rfl|exact .inr rfl|assumption):PG X (.Name x pos) (zaS i):=by
  intro pins s σ H v u Q I r h;exact wpAny_assign_Name (J1 I hN hi hx r (fun s' I'=>⟨_,H,I',h⟩) hf)
def gNil:TGs:=fun vs σ H Q=>vs=[]∧Q σ H
def zjc (t:TG) (u:TGs):TGs:=fun vs σ H Q=>∃ v r,vs=v::r∧t v σ H fun σ' H'=>u r σ' H' Q
theorem zhr:PGs X [] gNil:=by
  intro pins s σ H vs us Q I r h;obtain⟨e,h⟩:=h;subst e;cases r;exact assignInOrder_nil ⟨σ,H,I,h⟩
theorem zfE {e:Expr} {es:List Expr} {t:TG} {u:TGs} (h1:PG X e t) (h2:PGs X es u)
    (hs:(assignEach (e::es) X.env).map (·.2)=assign e X.env::(assignEach es X.env).map (·.2):=by rfl):PGs X (e::es) (zjc t u):=by
  intro pins s σ H vs us Q I r h;obtain⟨v,vr,e1,h⟩:=h;subst e1;cases r with
  | cons r rr=>
    rw [hs];refine assignInOrder_cons (thn (h1 pins s σ H _ _ _ I r h) fun _ s1 ⟨σ1,H1,I1,q1⟩=>?_)
    exact h2 pins s1 σ1 H1 _ _ Q I1 rr q1
def gTup (K:PySem.W.Frag) (n:Nat) (t:TGs):TG:=fun v σ H Q=>∃ a xs,v=.ref a∧SqT K H a xs∧xs.length=n∧t xs σ H Q
theorem zhM {es:List Expr} {k:Nat} {t:TGs} {n:Nat} (hc:X.calm=true) (h:PGs X es t)
    (hn:(assignEach es X.env).length=n:=by rfl) (hst:(assignEach es X.env).findIdx? (·.1)=none:=by rfl):PG X (.Tuple es k pos) (gTup X.K n t):=by
  intro pins s σ H v u Q I r hw;obtain⟨a,xs,e1,hq,hl,hw⟩:=hw;subst e1;cases r;obtain⟨its,rv,ht,hz⟩:=I.tuple hq;refine assign_Tuple_tuple (I.ok.hd hc) ht (by simp [hn,←hl,rv.length]) hst fun h' hx=>?_
  have I1:Inv X pins σ H { s with heap:=h' }:=I.kept (t':=s.toks) fun b o e=>hx b o (Nat.ne_of_lt (Heap.lt_size e)) e
  exact h pins _ σ H xs _ Q I1 (by simpa using rv) hw
def gSub (to ti:TE) (t:TSet):TG:=fun v σ H Q=>to σ H fun o H1=>ti σ H1 fun i H2=>t o i v H2 fun H3=>Q σ H3
theorem ziU {o i:Expr} {to ti:TE} {t:TSet} (ho:PE X o to) (hi:PE X i ti) (hs:PSet X t)
    (ha:∀ v,assign (.Subscript o i pos) X.env v=(do
      let ov ←holding [v] (eval o X.env)
      let iv ←holding [v,ov] (eval i X.env)
      standAt pos
      holding [v,ov,iv] (setItem ov iv v)
      release [v,ov,iv] []):=by intro _;rfl):PG X (.Subscript o i pos) (gSub to ti t):=by
  intro pins s σ H v u Q I r h;rw [ha];refine wpAny_bind (wpAny_holding (thn (ho pins s σ H _ I h) fun ov s1 ⟨x,H1,I1,r1,q1⟩=>?_))
  refine wpAny_bind (wpAny_holding (thn (hi pins s1 σ H1 _ I1 q1) fun iv s2 ⟨y,H2,I2,r2,q2⟩=>?_))
  refine wpAny_bind (wpAny_standAt (wpAny_bind (wpAny_holding (thn (hs pins s2 σ H2 x y v ov iv u _ I2 r1 r2 r q2) fun _ s3 ⟨H3,I3,q3⟩=>?_))))
  exact wpAny_release ⟨σ,H3,I3,q3⟩
def tAsg (te:TE) (g:TG):TS:=fun D σ H=>te σ H fun x H1=>g x σ H1 D.nx
theorem zbv {tg e:Expr} {te:TE} {g:TG} (he:PE X e te) (hg:PG X tg g) (hs:swapsWithSole [tg] e pos.line X.env=pure false:=by rfl) (hw:swappedStores [tg] e X.env=pure none:=by rfl)
    (h1:(assignEach [tg] X.env).map (·.2)=[assign tg X.env]:=by rfl):PS X (.Assign [tg] e pos) (tAsg te g):=by
  intro pins s σ H D I h;refine wpAny_Assign_stores (thn (he pins s σ H _ I h) fun v s1 ⟨x,H1,I1,r1,q1⟩=>?_) hs hw
  rw [h1];exact thn (hg pins s1 σ H1 x v _ I1 r1 q1) fun _ s2 q=>q
theorem zcx {i:Nat} {x:Str} {e:Expr} {te:TE} {pos':Pos} (hN:X.N.Nodup) (hi:X.N[i]?=some x) (hx:Loc X.env.scope x) (he:PE X e te) (hs:swapsWith e (some (.Name x pos')) pos.line X.env=pure false:=by rfl) (hf:X.fn x=true∨X.env.scope.names.lookup x=some .local:=by first|exact .inl rfl|exact .inr rfl|assumption) :
    PS X (.Assign [.Name x pos'] e pos) (tAsg te (zaS i)):=by
  intro pins s σ H D I h;refine wpAny_Assign_Name (thn (he pins s σ H _ I h) fun v s1 ⟨y,H1,I1,r1,q1⟩=>?_) hs
  exact J1 I1 hN hi hx r1 (fun s2 I2=>⟨_,H1,I2,q1⟩) hf
def tPar (i j:Nat) (ta:TA):TS:=fun D σ H=>ta σ H fun vs H1=>∃ v w,vs=[v,w]∧D.nx ((σ.set i (some v)).set j (some w)) H1
theorem ze7 {i j:Nat} {x y:Str} {a b:Expr} {ta:TA} {px py pt:Pos} {kt k2 pt2} (hc:X.calm=true) (hN:X.N.Nodup) (hi:X.N[i]?=some x) (hj:X.N[j]?=some y) (hij:i≠j)
    (hx:X.env.scope.names.lookup x=some .local) (hy:X.env.scope.names.lookup y=some .local) (ha:PA X [a,b] ta)
    (hw:swappedStores [.Tuple [.Name x px,.Name y py] kt pt] (.Tuple [a,b] k2 pt2) X.env=pure (some [x,y]))
    (hs:swapsWithSole [.Tuple [.Name x px,.Name y py] kt pt] (.Tuple [a,b] k2 pt2) pos.line X.env=pure false:=by rfl) :
    PS X (.Assign [.Tuple [.Name x px,.Name y py] kt pt] (.Tuple [a,b] k2 pt2) pos) (tPar i j ta):=by
  intro pins s σ H D I h;rw [exec_Assign_arm];refine wpAny_bind (wpAny_standAt ?_);rw [hs];refine wpAny_bind (wpAny_pure ?_);rw [if_neg (by decide)]
  refine wpAny_bind (Tuple_ (thn (ha _ pins s σ H _ I h) fun us s1 ⟨vs,H1,I1,r1,q1⟩=>?_))
  obtain⟨v,w,e1,q1⟩:=q1;subst e1;obtain⟨u1,u2,rfl,rv,rw'⟩:∃ u1 u2,us=[u1,u2]∧RelV v u1∧RelV w u2:=by
    cases r1 with
    | cons p q=>
      cases q with
      | cons p' q'=>
        cases q';exact⟨_,_,rfl,p,p'⟩
  refine wpAny_newObj_type ?_ (by show 2≤sizeLine;decide)
  have I2:Inv X pins σ H1 { s1 with heap:=s1.heap.push { cls:=.type "tuple", data:=.seq [u1,u2].toArray } }:=I1.kept (t':=s1.toks) fun b o e=>Heap.get?_push_of_some _ e
  rw [hw];refine wpAny_bind (wpAny_pure ?_);show wpAny (model X.prog X.w) X.A (do rule "assign.swapped-stores";let items ←unpackItems (.ref s1.heap.objs.size) 2 none;assignInOrder [fun v=>bindName X.env y v,fun v=>bindName X.env x v] items.reverse;pure Flow.next) _ _ _
  refine wpAny_bind (wpAny_rule (wpAny_bind (unpackItems_tuple (items:=#[u1,u2]) (I.ok.hd hc) (IsTup.new s1.heap _) fun h' hx'=>?_)))
  have I3:=I2.kept (h':=h') (t':=s1.toks) fun b o e=>hx' b o (Nat.ne_of_lt (Heap.lt_size e)) e
  show wpAny _ _ (assignInOrder [fun v=>bindName X.env y v,fun v=>bindName X.env x v] [u2,u1] >>= fun _=>pure Flow.next) _ _ _
  refine wpAny_bind (assignInOrder_cons (wpAny_bindName (J1 I3 hN hj (.inl hy) rw' (fun s2 I4=>?_) (.inr hy))))
  refine assignInOrder_cons (wpAny_bindName (J1 I4 hN hi (.inl hx) rv (fun s3 I5=>assignInOrder_nil (wpAny_pure ?_)) (.inr hx)))
  rw [List.set_comm _ _ (Ne.symm hij)] at I5;exact⟨_,H1,I5,q1⟩
def tAug (i:Nat) (te:TE) (ti:TIp):TS:=fun D σ H=>∃ x,σ[i]?=some (some x)∧te σ H fun y H1=>ti x y H1 fun z H2=>D.nx (σ.set i (some z)) H2
theorem zem {i:Nat} {x:Str} {e:Expr} {te:TE} {op:Operator} {ti:TIp} {pos':Pos} (hN:X.N.Nodup) (hi:X.N[i]?=some x) (hx:Loc X.env.scope x) (he:PE X e te) (ho:PIp X op ti) (hf:X.fn x=true∨X.env.scope.names.lookup x=some .local:=by first|exact .inl rfl|exact .inr rfl|assumption) :
    PS X (.AugAssign (.Name x pos') op e pos) (tAug i te ti):=by
  intro pins s σ H D I h;obtain⟨v,e1,h⟩:=h;obtain⟨m,hn,hl⟩:=I.loc;have vis:Vis X.env.scope x:=by rcases hx with k|k;exact .inl k;exact .inr (.inl k)
  obtain⟨u,r,l⟩:=hl i x v hi e1 vis;refine wpAny_AugAssign_Name ?_;have go:wpAny (model X.prog X.w) X.A (eval e X.env) (fun w s₂=>wpAny (model X.prog X.w) X.A (inplaceOp op u w) (fun r s₃=>wpAny (model X.prog X.w) X.A (storeName X.env x r) (fun _=>SP X pins D .next) X.xe s₃) X.xe s₂) X.xe s:=by
    refine thn (he pins s σ H _ I h) fun w s1 ⟨y,H1,I1,r1,q1⟩=>?_
    refine thn (ho pins s1 σ H1 v y u w _ I1 r r1 q1) fun z s2 ⟨zv,H2,I2,r2,q2⟩=>?_
    exact J1 I2 hN hi hx r2 (fun s3 I3=>⟨_,H2,I3,q2⟩) hf
  rcases l with ⟨hk,hm⟩|⟨hk,c,hc,hcell⟩
  · exact wpAny_loadName_local I.ok.kind hk hn hm go
  · rcases hk with hk|hk
    · exact wpAny_loadName_cell I.ok.kind hk hc hcell go
    · rcases hx with k|k
      · have:X.env.scope.names.lookup x=some .free:=hk
        rw [k] at this;cases this
      · have:X.env.scope.names.lookup x=some .free:=hk
        rw [k] at this;cases this
def zdD (to ti te:TE) (tget:V→V→Hp→VK→Prop) (tip:TIp) (tset:TSet):TS:=fun D σ H=>to σ H fun o H1=>ti σ H1 fun i H2=>tget o i H2 fun x H3=>te σ H3 fun y H4=>tip x y H4 fun z H5=>tset o i z H5 fun H6=>D.nx σ H6
def PGet (X:Cx) (t:V→V→Hp→VK→Prop):Prop:=
  ∀ (pins:List (Addr×Obj)) (s:Shared) (σ : St) (H:Hp) (o i:V) (ov iv:Value) (Q:VK),Inv X pins σ H s→RelV o ov→RelV i iv→t o i H Q→
    wpAny (model X.prog X.w) X.A (getItem ov iv) (EP X pins σ Q) X.xe s
theorem zhL {o i e:Expr} {to ti te:TE} {tget:V→V→Hp→VK→Prop} {tip:TIp} {tset:TSet} {op:Operator} {tpos:Pos} (ho:PE X o to) (hi:PE X i ti) (hg:PGet X tget) (he:PE X e te) (hp:PIp X op tip) (hs:PSet X tset)
    (ha:∀ ov iv new,augStore i ov iv new=(do holding [new,ov,iv] (setItem ov iv new);release [new,ov,iv] [];pure .next):=by intros;rfl):PS X (.AugAssign (.Subscript o i tpos) op e pos) (zdD to ti te tget tip tset):=by
  intro pins s σ H D I h;refine wpAny_AugAssign_SubscriptAny (thn (ho pins s σ H _ I h) fun ov s1 ⟨x1,H1,I1,r1,q1⟩=>?_) ha
  refine thn (hi pins s1 σ H1 _ I1 q1) fun iv s2 ⟨x2,H2,I2,r2,q2⟩=>?_
  refine thn (hg pins s2 σ H2 x1 x2 ov iv _ I2 r1 r2 q2) fun old s3 ⟨x3,H3,I3,r3,q3⟩=>?_
  refine thn (he pins s3 σ H3 _ I3 q3) fun v s4 ⟨x4,H4,I4,r4,q4⟩=>?_
  refine thn (hp pins s4 σ H4 x3 x4 old v _ I4 r3 r4 q4) fun new s5 ⟨x5,H5,I5,r5,q5⟩=>?_
  exact thn (hs pins s5 σ H5 x1 x2 x5 ov iv new _ I5 r1 r2 r5 q5) fun _ s6 ⟨H6,I6,q6⟩=>⟨σ,H6,I6,q6⟩
def ipI (f:Int→Int→Int):TIp:=fun x y H Q=>∃ i j,x=.int i∧y=.int j∧Q (.int (f i j)) H
theorem zbN:PIp X .Add (ipI fun i j=>i+j):=by
  intro pins s σ H x y v u Q I r1 r2 h;obtain⟨i,j,e1,e2,q⟩:=h;subst e1;subst e2;obtain⟨t,rfl⟩:=r1;obtain⟨t',rfl⟩:=r2;exact iadd_int ⟨.int _,H,I.tok _,⟨_,rfl⟩,q⟩
end
section
variable {X:Cx} {pos:Pos}
def zcB (c:TT) (tb:TS):TS:=fun D σ H=>∃ W:Nat→St→Hp→Prop,(∃ m,W m σ H)∧∀ m σ H,W m σ H→
  c σ H fun b H1=>if b=true then ∃ N:St→Hp→Prop,(∀ σ' H',N σ' H'→∃ m',m'<m∧W m' σ' H')∧tb { D with nx:=N,ct:=N,bk:=D.nx } σ H1 else D.nx σ H1
theorem zdR {c:Expr} {body:List Stmt} {tc:TT} {tb:TS} (hp:PassesOwn (model X.prog X.w) X.A X.env X.xe) (hc:PT X c tc) (hb:PSs X body tb):PS X (.While c body [] pos) (zcB tc tb):=by
  intro pins s σ H D I h;obtain⟨W,⟨m0,w0⟩,turn⟩:=h;refine wpAny_While (codeAny_whileLoop (fun n s'=>∃ σ' H',Inv X pins σ' H' s'∧W n σ' H') ?_ m0 ⟨σ,H,I,w0⟩)
  rintro n s1 ⟨σ1,H1,I1,w1⟩
  refine wpAny_passesOwn hp (thn (hc pins s1 σ1 H1 _ I1 (turn n σ1 H1 w1)) fun b s2 ⟨H2,I2,q2⟩=>?_)
  cases b with
  | true=>
    obtain⟨N,hN,q2⟩:=q2;rw [if_pos rfl];refine wpAny_passesOwn hp (thn (hb pins s2 σ1 H2 _ I2 q2) fun f s3 q3=>?_)
    cases f with
    | next=>
      obtain⟨σ3,H3,I3,n3⟩:=q3;obtain⟨m',hm,w3⟩:=hN σ3 H3 n3;exact⟨m',hm,σ3,H3,I3,w3⟩
    | cont=>
      obtain⟨σ3,H3,I3,n3⟩:=q3;obtain⟨m',hm,w3⟩:=hN σ3 H3 n3;exact⟨m',hm,σ3,H3,I3,w3⟩
    | brk=>exact q3
    | ret v=>exact q3
  | false=>
    rw [if_neg Bool.false_ne_true];exact wpAny_execs_nil ⟨σ1,H2,I2,q2⟩
end
structure It where
  go:Nat→Hp→Prop
  yld:Nat→Hp→V→Hp→Prop
  stop:Nat→Hp→Prop
def FpOk (X:Cx) (pins:List (Addr×Obj)) (H:Hp) (b:Addr):Prop:=
  H b=none∧b≠X.env.locals∧b∉X.fs∧(b∈X.ex∨X.s₀.heap.objs.size≤b)∧(∀ x c,X.env.cells.lookup x=some c→c≠b)∧∀ p∈X.pn++pins,p.1≠b
theorem Inv.fpOk {X:Cx} {pins:List (Addr×Obj)} {σ : St} {H H':Hp} {s:Shared} {b:Addr} (I:Inv X pins σ H s) (hb:s.heap.objs.size≤b) (hn:H' b=none):FpOk X pins H' b:=by
  refine⟨hn,Nat.ne_of_gt (Nat.lt_of_lt_of_le I.lt hb),I.nofs hb,.inr (Nat.le_trans I.sz hb),fun x c e z=>?_,fun p hp z=>?_⟩
  · obtain⟨v,q⟩:=I.cell x c e
    exact absurd (Nat.lt_of_lt_of_le q.lt (by rw [z];exact hb)) (Nat.lt_irrefl _)
  · exact absurd (Nat.lt_of_lt_of_le (Heap.lt_size (I.pin p hp).1) (by rw [z];exact hb)) (Nat.lt_irrefl _)
structure Turn (P:Program) (w:World) (K:PySem.W.Frag) (tg:Expr) (J:It) (fp:List Addr) (it:Addr) (tn:Nat→Heap→Prop):Prop where
  mem:it∈fp
  obj:∀ i h,tn i h→∀ b∈fp,∃ o,h.get? b=some o∧∀ v,o.data≠.cell v
  keep:∀ i h h',tn i h→(∀ b∈fp,∀ o,h.get? b=some o→h'.get? b=some o)→tn i h'
  item:∀ (X:Cx),X.prog=P→X.w=w→X.K=K→X.calm=true→∀ (i:Nat) (pins:List (Addr×Obj)) (s:Shared) (σ : St) (H:Hp) (E:Value→Shared→Prop),Inv X pins σ H s→(∀ b∈fp,FpOk X pins H b)→tn i s.heap→J.go i H→
    wpAny (model P w) X.A (pyNext (.ref it)) (fun r s1=>∃ u,r=some u∧
      wpAny (model P w) X.A (letOwnedTupleGo tg (.ref it) u) (fun _ s2=>∃ x H',Inv X pins σ H' s2∧RelV x u∧J.yld i H x H'∧tn (i+1) s2.heap∧∀ b∈fp,H' b=none) E s1) E s
  done:∀ (X:Cx),X.prog=P→X.w=w→X.K=K→X.calm=true→∀ (i:Nat) (pins:List (Addr×Obj)) (s:Shared) (σ : St) (H:Hp) (E:Value→Shared→Prop),Inv X pins σ H s→(∀ b∈fp,FpOk X pins H b)→tn i s.heap→J.stop i H→
    wpAny (model P w) X.A (pyNext (.ref it)) (fun r s1=>r=none∧Inv X pins σ H s1) E s
  self:∀ (A:Around) (i:Nat) (s:Shared) (Q:Value→Shared→Prop) (E:Value→Shared→Prop),tn i s.heap→Q (.ref it) s→wpAny (model P w) A (pyIter (.ref it)) Q E s
abbrev TI:=St→Hp→(It→Hp→Prop)→Prop
def PIE (X:Cx) (pins:List (Addr×Obj)) (σ : St) (tg:Expr) (R:It→Hp→Prop) (itv:Value) (s2:Shared):Prop:=
  ∃ (it:Addr) (fp:List Addr) (tn:Nat→Heap→Prop) (J:It) (H':Hp),itv=.ref it∧Inv X pins σ H' s2∧Turn X.prog X.w X.K tg J fp it tn∧tn 0 s2.heap∧(∀ b∈fp,FpOk X pins H' b)∧R J H'
def PI (X:Cx) (tg iter:Expr) (wi:TI):Prop:=
  ∀ (pins:List (Addr×Obj)) (s:Shared) (σ : St) (H:Hp) (R:It→Hp→Prop),Inv X pins σ H s→wi σ H R→
    wpAny (model X.prog X.w) X.A (eval iter X.env) (fun v s1=>wpAny (model X.prog X.w) X.A (pyIter v) (PIE X pins σ tg R) X.xe s1) X.xe s
theorem za3 {M:Model} {A:Around} {E:Value→Shared→Prop} {s:Shared} {tg:Expr} {it:Addr} {u:Value} {o:Obj} {n:String} {vs:Array Value} {Q:Unit→Shared→Prop} (ho:s.heap.get? it=some o) (hc:o.cls=.type n) (hd:o.data=.fields vs)
    (hn:["enumerate", "zip", "dict_itemiterator", "dict_reverseitemiterator", "odict_iterator", "itertools.zip_longest", "itertools.pairwise"].contains n=false) (hQ:Q () s):wpAny M A (letOwnedTupleGo tg (.ref it) u) Q E s:=by
  unfold letOwnedTupleGo;cases tg<;>first
    | exact wpAny_pure hQ
    | (cases u <;> first
        | exact wpAny_pure hQ
        | (refine wpAny_bind (wpAny_load ho ?_)
           rw [hc,hd];show wpAny M A (if(["enumerate", "zip", "dict_itemiterator", "dict_reverseitemiterator", "odict_iterator", "itertools.zip_longest", "itertools.pairwise"].contains n&&vs[0]? == some (rawInt _))=true then _ else _) Q E s
           rw [if_neg (by intro h;rw [hn,Bool.false_and] at h;cases h)]
           exact wpAny_pure hQ))
def Itl (K:PySem.W.Frag) (a:Addr):It:=
  ⟨fun i H=>∃ xs x,SqL K H a xs∧xs[i]?=some x,fun i H x H'=>H'=H∧∀ xs,SqL K H a xs→xs[i]?=some x,fun i H=>∃ xs,SqL K H a xs∧xs.length≤i⟩
def Itt (K:PySem.W.Frag) (a:Addr):It:=
  ⟨fun i H=>∃ xs x,SqT K H a xs∧xs[i]?=some x,fun i H x H'=>H'=H∧∀ xs,SqT K H a xs→xs[i]?=some x,fun i H=>∃ xs,SqT K H a xs∧xs.length≤i⟩
def Itr (lo:Int) (n:Nat):It:=⟨fun i _=>i<n,fun i H x H'=>H'=H∧x=.int (lo+i),fun i _=>n≤i⟩
theorem zgS {P:Program} {w:World} {K:PySem.W.Frag} {tg:Expr} (a it:Addr):Turn P w K tg (Itl K a) [it] it (fun i h=>h.IsListIter it a i) where
  mem:=by simp
  obj:=fun i h st b hb=>by
    have e:b=it:=by simpa using hb
    subst e;obtain⟨o,e,c,d⟩:=st;exact⟨o,e,fun v z=>by rw [d] at z;cases z⟩
  keep:=fun i h h' st k=>st.at fun o e=>k it (by simp) o e
  item:=by
    intro X hP hw hK hc i pins s σ H E I hf st hg;subst hP hw hK;obtain⟨xs,x,hq,hx⟩:=hg;obtain⟨its,rv,p,hz⟩:=I.list hq;obtain⟨u,hu,ru⟩:=rv.get hx;obtain⟨f0,f1,f2,f3,f4,f5⟩:=hf it (by simp)
    refine wpAny_pyNext_list_item st p.isList (x:=u) (by simpa using hu) fun h' st' sb=>?_
    have I1:Inv X pins σ H { s with heap:=h' }:=I.turned (t':=s.toks) (fun b o hb e=>(sb.2 b hb).trans e) f0 f1 f3 f4 f5
    obtain⟨o,e,c,d⟩:=id st';exact⟨u,rfl,za3 (s:={ s with heap:=h' }) e c d (by decide) ⟨x,H,I1,ru,⟨rfl,fun ys hy=>by rw [I.list_inj hy hq];exact hx⟩,st',fun b hb=>(hf b hb).1⟩⟩
  done:=by
    intro X hP hw hK hc i pins s σ H E I hf st hg;subst hP hw hK;obtain⟨xs,hq,hx⟩:=hg;obtain⟨its,rv,p,hz⟩:=I.list hq;obtain⟨f0,f1,f2,f3,f4,f5⟩:=hf it (by simp)
    have hl:=rv.length;exact wpAny_pyNext_list_end (I.ok.hd hc) st p.isList (by simp;omega) fun h' eb=>⟨rfl,I.turned (t':=s.toks) (fun b o hb e=>eb b o hb e) f0 f1 f3 f4 f5⟩
  self:=fun _ _ _ _ _ st h=>wpAny_pyIter_listiter st h
theorem zf2 {P:Program} {w:World} {K:PySem.W.Frag} {tg:Expr} (a it:Addr):Turn P w K tg (Itt K a) [it] it (fun i h=>h.IsTupleIter it a i) where
  mem:=by simp
  obj:=fun i h st b hb=>by
    have e:b=it:=by simpa using hb
    subst e;obtain⟨o,e,c,d⟩:=st;exact⟨o,e,fun v z=>by rw [d] at z;cases z⟩
  keep:=fun i h h' st k=>st.at fun o e=>k it (by simp) o e
  item:=by
    intro X hP hw hK hc i pins s σ H E I hf st hg;subst hP hw hK;obtain⟨xs,x,hq,hx⟩:=hg;obtain⟨its,rv,p,hz⟩:=I.tuple hq;obtain⟨u,hu,ru⟩:=rv.get hx;obtain⟨f0,f1,f2,f3,f4,f5⟩:=hf it (by simp)
    refine wpAny_pyNext_tuple_item st (show s.heap.IsTuple a its.toArray from p) (x:=u) (by simpa using hu) fun h' st' sb=>?_
    have I1:Inv X pins σ H { s with heap:=h' }:=I.turned (t':=s.toks) (fun b o hb e=>(sb.2 b hb).trans e) f0 f1 f3 f4 f5
    obtain⟨o,e,c,d⟩:=id st';exact⟨u,rfl,za3 (s:={ s with heap:=h' }) e c d (by decide) ⟨x,H,I1,ru,⟨rfl,fun ys hy=>by rw [I.tuple_inj hy hq];exact hx⟩,st',fun b hb=>(hf b hb).1⟩⟩
  done:=by
    intro X hP hw hK hc i pins s σ H E I hf st hg;subst hP hw hK;obtain⟨xs,hq,hx⟩:=hg;obtain⟨its,rv,p,hz⟩:=I.tuple hq;obtain⟨f0,f1,f2,f3,f4,f5⟩:=hf it (by simp)
    have hl:=rv.length;exact wpAny_pyNext_tuple_end (I.ok.hd hc) st (show s.heap.IsTuple a its.toArray from p) (by simp;omega) fun h' eb=>⟨rfl,I.turned (t':=s.toks) (fun b o hb e=>eb b o hb e) f0 f1 f3 f4 f5⟩
  self:=fun _ _ _ _ _ st h=>wpAny_pyIter_tupleiter st h
theorem zh9 {P:Program} {w:World} {K:PySem.W.Frag} {tg:Expr} (it:Addr) (lo:Int) (n:Nat):Turn P w K tg (Itr lo n) [it] it (fun i h=>IsRangeIter h it (lo+(i:Nat)*1) ((n:Int) - (i:Nat)) 1) where
  mem:=by simp
  obj:=fun i h st b hb=>by
    have e:b=it:=by simpa using hb
    subst e;exact⟨_,st,fun v z=>by
      have z':Data.fields _=Data.cell v:=z;cases z'⟩
  keep:=fun i h h' st k=>k it (by simp) _ st
  item:=by
    intro X hP hw hK hc i pins s σ H E I hf st hg;subst hP hw hK;obtain⟨f0,f1,f2,f3,f4,f5⟩:=hf it (by simp)
    have W:=Walks.range (prog:=X.prog) (w:=X.w) (I.ok.hd hc) it lo 1 n;refine W.item i s _ _ hg st fun v h' tk hv st' kk=>?_
    obtain⟨t,rfl⟩:=hv;have I1:Inv X pins σ H { s with heap:=h',toks:=tk }:=I.turned (fun b o hb e=>kk b o (by simpa using hb) e) f0 f1 f3 f4 f5
    refine⟨_,rfl,za3 (s:={ s with heap:=h',toks:=tk }) (n:="range_iterator") st' rfl rfl (by decide) ⟨.int (lo+i),H,I1,⟨t,?_⟩,⟨rfl,rfl⟩,st',fun b hb=>(hf b hb).1⟩⟩
    rw [Int.mul_one]
  done:=by
    intro X hP hw hK hc i pins s σ H E I hf st hg;subst hP hw hK;obtain⟨f0,f1,f2,f3,f4,f5⟩:=hf it (by simp)
    exact wpAny_pyNext_range_end (I.ok.hd hc) st (by have:n≤i:=hg;omega) fun h' eb=>⟨rfl,I.turned (t':=s.toks) (fun b o hb e=>eb b o hb e) f0 f1 f3 f4 f5⟩
  self:=fun _ _ _ _ _ st h=>wpAny_pyIter_rangeiter st h
section
variable {X:Cx} {tg:Expr}
def zdn (K:PySem.W.Frag) (tl:TE):TI:=fun σ H R=>tl σ H fun x H1=>∃ a,x=.ref a∧(∃ xs,SqL K H1 a xs)∧R (Itl K a) H1
def iTup (K:PySem.W.Frag) (tl:TE):TI:=fun σ H R=>tl σ H fun x H1=>∃ a,x=.ref a∧(∃ xs,SqT K H1 a xs)∧R (Itt K a) H1
theorem zio {l:Expr} {tl:TE} (hl:PE X l tl):PI X tg l (zdn X.K tl):=by
  intro pins s σ H R I h;refine thn (hl pins s σ H _ I h) fun v s1 ⟨x,H1,I1,r1,q1⟩=>?_
  obtain⟨a,e,⟨xs,hq⟩,q⟩:=q1;subst e;cases r1;obtain⟨its,rv,p,hz⟩:=I1.list hq;refine wpAny_pyIter_list p.isList ?_;refine⟨s1.heap.objs.size,[s1.heap.objs.size],_,_,H1,rfl,I1.kept (t':=s1.toks) fun b o e=>Heap.get?_push_of_some _ e,zgS a _,⟨_,Heap.get?_push_size _ rfl,rfl,rfl⟩,fun b hb=>?_,q⟩
  have e:b=s1.heap.objs.size:=by simpa using hb
  subst e;exact I1.fpOk (Nat.le_refl _) (I1.hok.fresh (Nat.le_refl _))
theorem ze9 {l:Expr} {tl:TE} (hl:PE X l tl):PI X tg l (iTup X.K tl):=by
  intro pins s σ H R I h;refine thn (hl pins s σ H _ I h) fun v s1 ⟨x,H1,I1,r1,q1⟩=>?_
  obtain⟨a,e,⟨xs,hq⟩,q⟩:=q1;subst e;cases r1;obtain⟨its,rv,p,hz⟩:=I1.tuple hq;refine wpAny_pyIter_tuple (show s1.heap.IsTuple a its.toArray from p) ?_
  refine⟨s1.heap.objs.size,[s1.heap.objs.size],_,_,H1,rfl,I1.kept (t':=s1.toks) fun b o e=>Heap.get?_push_of_some _ e,zf2 a _,⟨_,Heap.get?_push_size _ rfl,rfl,rfl⟩,fun b hb=>?_,q⟩
  have e:b=s1.heap.objs.size:=by simpa using hb
  subst e;exact I1.fpOk (Nat.le_refl _) (I1.hok.fresh (Nat.le_refl _))
theorem zca {pins:List (Addr×Obj)} {σ : St} {H:Hp} {s:Shared} {R:It→Hp→Prop} {E:Value→Shared→Prop} {lo hi:Int} {t u v:Tok} {tk:Nat} (I:Inv X pins σ H s) (h1:-(2 ^ 62)≤lo) (h2:lo<2 ^ 62) (h3:-(2 ^ 62)≤hi) (h4:hi<2 ^ 62)
    (q:R (Itr lo (hi - lo).toNat) H):wpAny (model X.prog X.w) X.A (pyIter (.ref s.heap.objs.size)) (PIE X pins σ tg R) E { s with heap:=s.heap.push { cls:=.type "range", data:=.fields #[.int lo t,.int hi u,.int 1 v] },toks:=tk }:=by
  refine wpAny_pyIter_range (IsRange.new ..) (small_one h1 h2 h3 h4) ?_
  have I1:Inv X pins σ H { s with heap:=s.heap.push { cls:=.type "range", data:=.fields #[.int lo t,.int hi u,.int 1 v] },toks:=tk }:=I.kept fun b o e=>Heap.get?_push_of_some _ e
  refine⟨(s.heap.push { cls:=.type "range", data:=.fields #[.int lo t,.int hi u,.int 1 v] }).objs.size,[(s.heap.push { cls:=.type "range", data:=.fields #[.int lo t,.int hi u,.int 1 v] }).objs.size],_,_,H,rfl,
    I1.kept (t':=tk) fun b o e=>Heap.get?_push_of_some _ e,zh9 _ lo (hi - lo).toNat,?_,fun b hb=>?_,q⟩
  · have e1:lo+((0:Nat):Int)*1=lo:=by simp
    have e2:(((hi - lo).toNat:Nat):Int) - ((0:Nat):Int)=Builtin.Range.rangeSize lo hi 1:=by rw [rangeSize_one];split<;>omega
    show IsRangeIter _ _ (lo+((0:Nat):Int)*1) ((((hi - lo).toNat:Nat):Int) - ((0:Nat):Int)) 1
    rw [e1,e2];exact Heap.get?_push_size _ rfl
  · have e:b=(s.heap.push { cls:=.type "range", data:=.fields #[.int lo t,.int hi u,.int 1 v] }).objs.size:=by simpa using hb
    subst e;exact I1.fpOk (Nat.le_refl _) (I1.hok.fresh (Nat.le_refl _))
def zfj (ta:TA):TI:=fun σ H R=>ta σ H fun vs H1=>∃ j:Int,vs=[.int j]∧-(2 ^ 62)≤j∧j<2 ^ 62∧R (Itr 0 j.toNat) H1
def zib (ta:TA):TI:=fun σ H R=>ta σ H fun vs H1=>∃ i j:Int,vs=[.int i,.int j]∧(-(2 ^ 62)≤i∧i<2 ^ 62∧-(2 ^ 62)≤j∧j<2 ^ 62)∧R (Itr i (j - i).toNat) H1
theorem zft {a:Expr} {ta:TA} {p pos:Pos} (hg:Gl X "range") (hm:X.mg "range" = none) (ha:PA X [a] ta) (hs:starEach [a] X.env=[(false,eval a X.env)]:=by rfl):PI X tg (.Call (.Name "range" p) [a] [] pos) (zfj ta):=by
  intro pins s σ H R I h;refine Call_ (Jy I hg hm boot_range (PyProof.Rows.callWith_type1 (thn (ha pos pins s σ H _ I h) fun us s1 ⟨vs,H1,I1,r1,q1⟩=>?_) hs rfl))
  obtain⟨j,e,q1,q2,q⟩:=q1;subst e;cases r1 with
  | cons r rr=>
    cases rr;obtain⟨t,rfl⟩:=r
    exact call_range_1 (zca I1 (by omega) (by omega) q1 q2 (by simpa using q))
theorem ze5 {a b:Expr} {ta:TA} {p pos:Pos} (hg:Gl X "range") (hm:X.mg "range" = none) (ha:PA X [a,b] ta) (hs:starEach [a,b] X.env=[(false,eval a X.env),(false,eval b X.env)]:=by rfl) (hs2:starEach [b] X.env=[(false,eval b X.env)]:=by rfl) :
    PI X tg (.Call (.Name "range" p) [a,b] [] pos) (zib ta):=by
  intro pins s σ H R I h;refine Call_ (Jy I hg hm boot_range (PyProof.Rows.callWith_type1 (thn (ha pos pins s σ H _ I h) fun us s1 ⟨vs,H1,I1,r1,q1⟩=>?_) (by rw [hs,hs2]) (by rw [hs2];rfl)))
  obtain⟨i,j,e,⟨q1,q2,q3,q4⟩,q⟩:=q1;subst e;cases r1 with
  | cons r rr=>
    cases rr with
    | cons r' rr=>
      cases rr;obtain⟨t,rfl⟩:=r
      obtain⟨t',rfl⟩:=r';exact call_range_2 (zca I1 q1 q2 q3 q4 q)
def tFor (wi:TI) (g:TG) (tb:TS):TS:=fun D σ H=>wi σ H fun J H1=>∃ W:Nat→Nat→St→Hp→Prop,(∃ m,W 0 m σ H1)∧∀ i m σ H,W i m σ H→
  (J.stop i H∧D.nx σ H)∨(J.go i H∧∃ N:St→Hp→Prop,(∀ σ' H',N σ' H'→∃ m',m'<m∧W (i+1) m' σ' H')∧∀ x H',J.yld i H x H'→g x σ H' fun σ2 H2=>tb { D with nx:=N,ct:=N,bk:=D.nx } σ2 H2)
def ZH (fp:List Addr) (h:Heap):List (Addr×Obj):=fp.filterMap fun b=>(h.get? b).map fun o=>(b,o)
theorem zaz {fp:List Addr} {h:Heap} {b:Addr} {o:Obj} (hb:b∈fp) (e:h.get? b=some o):(b,o)∈ZH fp h:=List.mem_filterMap.mpr ⟨b,hb,by rw [e];rfl⟩
theorem zhy {fp:List Addr} {h:Heap} {p:Addr×Obj} (hp:p∈ZH fp h):p.1∈fp∧h.get? p.1=some p.2:=by
  obtain⟨b,hb,e⟩:=List.mem_filterMap.mp hp;cases q:h.get? b with
  | none=>rw [q] at e;cases e
  | some o=>
    rw [q] at e;have e':(b,o)=p:=Option.some.inj e;subst e';exact⟨hb,q⟩
theorem Inv.pinned {pins:List (Addr×Obj)} {σ : St} {H:Hp} {s:Shared} {fp:List Addr} (I:Inv X pins σ H s) (hf:∀ b∈fp,FpOk X pins H b) (ho:∀ b∈fp,∃ o,s.heap.get? b=some o∧∀ v,o.data≠.cell v):Inv X (pins++ZH fp s.heap) σ H s:=
  I.pins_of fun p hp=>(List.mem_append.mp hp).elim (fun z=>I.pin p (List.mem_append_right _ z)) fun z=>by
    obtain⟨hb,e⟩:=zhy z;obtain⟨f0,f1,f2,_⟩:=hf p.1 hb;obtain⟨o,e',d⟩:=ho p.1 hb;rw [e] at e';cases e';exact⟨e,f0,f1,f2,d⟩
theorem Inv.unpinned {pins pl:List (Addr×Obj)} {σ : St} {H:Hp} {s:Shared} (I:Inv X (pins++pl) σ H s):Inv X pins σ H s:=I.pins_of fun p hp=>I.pin p (List.mem_append_right _ (List.mem_append_left _ hp))
theorem zdl {iter:Expr} {body:List Stmt} {wi:TI} {g:TG} {tb:TS} {pos:Pos} (hp:PassesOwn (model X.prog X.w) X.A X.env X.xe) (hc:X.calm=true) (hi:PI X tg iter wi) (hg:PG X tg g) (hb:PSs X body tb)
    (hs:∀ x,foldedSetIterable iter X.env x=pure x:=by intro _;rfl):PS X (.For tg iter body [] pos) (tFor wi g tb):=by
  intro pins s σ H D I h;refine wpAny_For (thn (hi pins s σ H _ I h) fun v s1 h1=>thn h1 fun itv s2 h2=>?_) hs
  obtain⟨it,fp,tn,J,H2,e,I2,T,st2,f2,W,⟨m0,w0⟩,turn⟩:=h2;subst e;have stat:∀ {H':Hp},(∀ b∈fp,H' b=none)→∀ b∈fp,FpOk X pins H' b:=fun hn b hb=>⟨hn b hb,(f2 b hb).2⟩
  refine codeAny_forLoop_any (fun n s'=>∃ i σ' H',Inv X pins σ' H' s'∧tn i s'.heap∧(∀ b∈fp,H' b=none)∧W i n σ' H') ?_ m0 ⟨0,σ,H2,I2,st2,fun b hb=>(f2 b hb).1,w0⟩
  rintro n s3 ⟨i,σ3,H3,I3,st3,fr3,w3⟩
  rcases turn i n σ3 H3 w3 with ⟨stop,qn⟩|⟨go,N,hN,step⟩
  · refine wpAny_passesOwn hp (thn (T.done X rfl rfl rfl hc i pins s3 σ3 H3 X.xe I3 (stat fr3) st3 stop) fun r s4 ⟨hr,I4⟩=>?_)
    subst hr;exact wpAny_execs_nil ⟨σ3,H3,I4,qn⟩
  · refine wpAny_passesOwn hp (thn (T.item X rfl rfl rfl hc i pins s3 σ3 H3 X.xe I3 (stat fr3) st3 go) fun r s4 ⟨u,hr,h4⟩=>?_)
    subst hr;refine wpAny_passesOwn hp (thn h4 fun _ s5 ⟨x,H5,I5,r5,y5,st5,fr5⟩=>?_)
    have I5':=I5.pinned (stat fr5) (T.obj _ _ st5);refine wpAny_passesOwn hp (thn (hg _ s5 σ3 H5 x u _ I5' r5 (step x H5 y5)) fun _ s6 ⟨σ6,H6,I6,q6⟩=>?_)
    refine wpAny_passesOwn hp (thn (hb _ s6 σ6 H6 _ I6 q6) fun f s7 q7=>?_)
    have again:∀ {σ7:St} {H7:Hp},Inv X (pins++ZH fp s5.heap) σ7 H7 s7→N σ7 H7→∃ m,m<n∧∃ i σ' H',Inv X pins σ' H' s7∧tn i s7.heap∧(∀ b∈fp,H' b=none)∧W i m σ' H':=fun {σ7 H7} I7 n7=>by
      obtain⟨m',hm,w7⟩:=hN σ7 H7 n7;refine⟨m',hm,i+1,σ7,H7,I7.unpinned,T.keep _ _ _ st5 fun b hb o e=>(I7.pin (b,o) (List.mem_append_right _ (List.mem_append_right _ (zaz hb e)))).1,fun b hb=>?_,w7⟩
      obtain⟨o,e,d⟩:=T.obj _ _ st5 b hb;exact(I7.pin (b,o) (List.mem_append_right _ (List.mem_append_right _ (zaz hb e)))).2.1
    cases f with
    | next=>obtain⟨σ7,H7,I7,n7⟩:=q7;exact again I7 n7
    | cont=>obtain⟨σ7,H7,I7,n7⟩:=q7;exact again I7 n7
    | brk=>obtain⟨σ7,H7,I7,q7⟩:=q7;exact⟨σ7,H7,I7.unpinned,q7⟩
    | ret v=>obtain⟨x7,σ7,H7,I7,r7,q7⟩:=q7;exact⟨x7,σ7,H7,I7.unpinned,r7,q7⟩
end
theorem jk {K:PySem.W.Frag} {a:Addr} {xs:List V} {g:TG} {tb:TS} {D:Ends} {σ : St} {H:Hp} (Pv:Nat→St→Hp→Prop) (h0:Pv 0 σ H) (hl:∀ i σ H,i≤xs.length→Pv i σ H→SqL K H a xs)
    (hs:∀ i x σ H,xs[i]?=some x→Pv i σ H→g x σ H fun σ2 H2=>tb { D with nx:=Pv (i+1),ct:=Pv (i+1),bk:=D.nx } σ2 H2) (hd:∀ σ H,Pv xs.length σ H→D.nx σ H) :
    ∃ W:Nat→Nat→St→Hp→Prop,(∃ m,W 0 m σ H)∧∀ i m σ H,W i m σ H→
      ((Itl K a).stop i H∧D.nx σ H)∨((Itl K a).go i H∧∃ N:St→Hp→Prop,(∀ σ' H',N σ' H'→∃ m',m'<m∧W (i+1) m' σ' H')∧∀ x H',(Itl K a).yld i H x H'→g x σ H' fun σ2 H2=>tb { D with nx:=N,ct:=N,bk:=D.nx } σ2 H2):=by
  refine⟨fun i m σ H=>m=xs.length - i∧i≤xs.length∧Pv i σ H,⟨xs.length,by simp,Nat.zero_le _,h0⟩,?_⟩
  rintro i m σ H ⟨rfl,hi,p⟩
  have q:=hl i σ H hi p
  by_cases hlt:i<xs.length
  · refine .inr ⟨⟨xs,xs[i],q,by simp [hlt]⟩,Pv (i+1),fun σ' H' p'=>⟨xs.length - (i+1),by omega,rfl,hlt,p'⟩,fun x H' y=>?_⟩
    obtain⟨e,y⟩:=y;subst e;exact hs i x σ _ (y xs q) p
  · have e:i=xs.length:=by omega
    subst e;exact .inl ⟨⟨xs,q,Nat.le_refl _⟩,hd σ H p⟩
theorem zaf {c:TT} {tb:TS} {D:Ends} {σ : St} {H:Hp} (Pv:St→Hp→Prop) (μ : St→Hp→Nat) (h0:Pv σ H)
    (hs:∀ σ H,Pv σ H→c σ H fun b H1=>if b=true then tb { D with nx:=fun σ' H'=>Pv σ' H'∧μ σ' H' < μ σ H,ct:=fun σ' H'=>Pv σ' H'∧μ σ' H' < μ σ H,bk:=D.nx } σ H1 else D.nx σ H1)
    (mono:∀ σ H Q Q',(∀ b H1,Q b H1→Q' b H1)→c σ H Q→c σ H Q'):zcB c tb D σ H:=by
  refine⟨fun m σ H=>m = μ σ H∧Pv σ H,⟨_,rfl,h0⟩,?_⟩
  rintro m σ H ⟨rfl,p⟩
  refine mono σ H _ _ (fun b H1 q=>?_) (hs σ H p)
  cases b with
  | true=>exact⟨_,fun σ' H' ⟨p',l⟩=>⟨_,l,rfl,p'⟩,q⟩
  | false=>exact q
abbrev R2:=V→V→Hp→VK→Prop
def OpR (X:Cx) (f:Value→Value→Sem Value) (r:R2):Prop:=
  ∀ (pins:List (Addr×Obj)) (s:Shared) (σ : St) (H:Hp) (x y:V) (v u:Value) (Q:VK),Inv X pins σ H s→RelV x v→RelV y u→r x y H Q→
    wpAny (model X.prog X.w) X.A (f v u) (EP X pins σ Q) X.xe s
def UnR (X:Cx) (f:Value→Sem Value) (r:V→Hp→VK→Prop):Prop:=
  ∀ (pins:List (Addr×Obj)) (s:Shared) (σ : St) (H:Hp) (x:V) (v:Value) (Q:VK),Inv X pins σ H s→RelV x v→r x H Q→
    wpAny (model X.prog X.w) X.A (f v) (EP X pins σ Q) X.xe s
def zG (X:Cx) (f:Value) (r:List V→Hp→VK→Prop):Prop:=
  ∀ (pins:List (Addr×Obj)) (s:Shared) (σ : St) (H:Hp) (xs:List V) (us:List Value) (Q:VK),Inv X pins σ H s→Vals xs us→r xs H Q→
    wpAny (model X.prog X.w) X.A (call f us) (EP X pins σ Q) X.xe s
def tOp (r:R2) (ta tb:TE):TE:=fun σ H Q=>ta σ H fun x H1=>tb σ H1 fun y H2=>r x y H2 Q
def tUn (r:V→Hp→VK→Prop) (ta:TE):TE:=fun σ H Q=>ta σ H fun x H1=>r x H1 Q
def rI (C:Int→Int→Prop) (g:Int→Int→V):R2:=fun x y H Q=>∃ i j,x=.int i∧y=.int j∧C i j∧Q (g i j) H
def rI0 (g:Int→Int→V):R2:=fun x y H Q=>∃ i j,x=.int i∧y=.int j∧Q (g i j) H
def rU (g:Int→V):V→Hp→VK→Prop:=fun x H Q=>∃ i,x=.int i∧Q (g i) H
section
variable {X:Cx} {a b c:Expr} {ta tb tc:TE} {pos:Pos}
theorem binT (ha:PE X a ta) (hb:PE X b tb) {pins:List (Addr×Obj)} {s:Shared} {σ : St} {H:Hp} {R:V→V→Hp→Prop} (I:Inv X pins σ H s)
    (h:ta σ H fun x H1=>tb σ H1 fun y H2=>R x y H2) {Q:Value→Shared→Prop} {f:Value→Value→Sem Value}
    (hf:∀ v u s2 x y H2,Inv X pins σ H2 s2→RelV x v→RelV y u→R x y H2→wpAny (model X.prog X.w) X.A (f v u) Q X.xe s2) :
    wpAny (model X.prog X.w) X.A (eval a X.env) (fun v s₁=>wpAny (model X.prog X.w) X.A (eval b X.env) (fun u s₂=>wpAny (model X.prog X.w) X.A (f v u) Q X.xe s₂) X.xe s₁) X.xe s:=by
  refine thn (ha pins s σ H _ I h) fun v s1 ⟨x,H1,I1,r1,q1⟩=>?_
  refine thn (hb pins s1 σ H1 _ I1 q1) fun u s2 ⟨y,H2,I2,r2,q2⟩=>?_
  exact hf v u s2 x y H2 I2 r1 r2 q2
theorem zaG {op:Operator} {r:R2} (ho:OpR X (binaryOp op) r) (ha:PE X a ta) (hb:PE X b tb):PE X (.BinOp a op b pos) (tOp r ta tb):=by
  intro pins s σ H Q I h;exact wpAny_BinOp (binT ha hb I h fun v u s2 x y H2 I2 rx ry q=>ho pins s2 σ H2 x y v u Q I2 rx ry q)
theorem zfz {op:UnaryOp} {r:V→Hp→VK→Prop} (ho:UnR X (unaryOp op) r) (ha:PE X a ta):PE X (.UnaryOp op a pos) (tUn r ta):=by
  intro pins s σ H Q I h;exact UnaryOp_ (thn (ha pins s σ H _ I h) fun v s1 ⟨x,H1,I1,r1,q1⟩=>ho pins s1 σ H1 x v Q I1 r1 q1)
theorem opI {f:Value→Value→Sem Value} {C:Int→Int→Prop} {g:Int→Int→Int}
    (rule:∀ (i j:Int) (t u:Tok) (s:Shared) (Q:Value→Shared→Prop) (E:Value→Shared→Prop),C i j→Q (.int (g i j) s.toks) { s with toks:=s.toks+1 }→wpAny (model X.prog X.w) X.A (f (.int i t) (.int j u)) Q E s) :
    OpR X f (rI C fun i j=>.int (g i j)):=by
  intro pins s σ H x y v u Q I rx ry h;obtain⟨i,j,rfl,rfl,hc,q⟩:=h;obtain⟨t,rfl⟩:=rx;obtain⟨t',rfl⟩:=ry;exact rule i j t t' s _ _ hc ⟨.int (g i j),H,I.tok _,⟨_,rfl⟩,q⟩
theorem opI0 {f:Value→Value→Sem Value} {g:Int→Int→Int}
    (rule:∀ (i j:Int) (t u:Tok) (s:Shared) (Q:Value→Shared→Prop) (E:Value→Shared→Prop),Q (.int (g i j) s.toks) { s with toks:=s.toks+1 }→wpAny (model X.prog X.w) X.A (f (.int i t) (.int j u)) Q E s) :
    OpR X f (rI0 fun i j=>.int (g i j)):=by
  intro pins s σ H x y v u Q I rx ry h;obtain⟨i,j,rfl,rfl,q⟩:=h;obtain⟨t,rfl⟩:=rx;obtain⟨t',rfl⟩:=ry;exact rule i j t t' s _ _ ⟨.int (g i j),H,I.tok _,⟨_,rfl⟩,q⟩
theorem opB0 {f:Value→Value→Sem Value} {g:Int→Int→Bool}
    (rule:∀ (i j:Int) (t u:Tok) (s:Shared) (Q:Value→Shared→Prop) (E:Value→Shared→Prop),Q (.bool (g i j)) s→wpAny (model X.prog X.w) X.A (f (.int i t) (.int j u)) Q E s) :
    OpR X f (rI0 fun i j=>.bl (g i j)):=by
  intro pins s σ H x y v u Q I rx ry h;obtain⟨i,j,rfl,rfl,q⟩:=h;obtain⟨t,rfl⟩:=rx;obtain⟨t',rfl⟩:=ry;exact rule i j t t' s _ _ ⟨.bl (g i j),H,I,rfl,q⟩
def CMul (i j:Int):Prop:=(-(2 ^ 64)<i∧i<2 ^ 64)∨(-(2 ^ 64)<j∧j<2 ^ 64)
theorem CMul.ok {i j:Int} (h:CMul i j):IntMulOk i j:=by
  rcases h with ⟨h1,h2⟩|⟨h1,h2⟩
  · exact .of_left (intBits_le_64 h1 h2)
  · exact .of_right (intBits_le_64 h1 h2)
theorem zi2 (k:Nat):(0:Int)≤2 ^ k:=by
  rw [two_pow_cast];exact Int.natCast_nonneg _
theorem zf3:OpR X (binaryOp .Add) (rI0 fun i j=>.int (i+j)):=opI0 fun _ _ _ _ _ _ _ q=>add_int q
theorem zhj:OpR X (binaryOp .Sub) (rI0 fun i j=>.int (i - j)):=opI0 fun _ _ _ _ _ _ _ q=>sub_int q
theorem ziz:OpR X (binaryOp .Mod) (rI (fun _ j=>0<j) fun i j=>.int (i%j)):=opI fun i j _ _ _ _ _ hc q=>by
  have h1:(0:Int)<j:=hc;exact mod_int' (by omega) (by rw [Int.fmod_eq_emod_of_nonneg i (by omega)];exact q)
theorem zeK:OpR X (binaryOp .RShift) (rI (fun _ j=>0≤j) fun i j=>.int (i/2 ^ j.toNat)):=opI fun i j _ _ _ _ _ hc q=>
  rshift_int hc (by rw [Int.fdiv_eq_ediv_of_nonneg i (zi2 _)];exact q)
theorem zjE:OpR X (binaryOp .BitAnd) (rI0 fun i j=>.int (Builtin.bitAnd i j)):=opI0 fun _ _ _ _ _ _ _ q=>and_int q
theorem unI {f:Value→Sem Value} {g:Int→Int}
    (rule:∀ (i:Int) (t:Tok) (s:Shared) (Q:Value→Shared→Prop) (E:Value→Shared→Prop),Q (.int (g i) s.toks) { s with toks:=s.toks+1 }→wpAny (model X.prog X.w) X.A (f (.int i t)) Q E s) :
    UnR X f (rU fun i=>.int (g i)):=by
  intro pins s σ H x v Q I rx h;obtain⟨i,rfl,q⟩:=h;obtain⟨t,rfl⟩:=rx;exact rule i t s _ _ ⟨.int (g i),H,I.tok _,⟨_,rfl⟩,q⟩
theorem zfR:UnR X (unaryOp .USub) (rU fun i=>.int (-i)):=unI fun _ _ _ _ _ q=>neg_int q
end
def scal:V→V→Bool
  | .non,.non=>true|.non,.int _=>true|.int _,.non=>true|.non,.bl _=>true|.bl _,.non=>true|.non,.str _=>true|.str _,.non=>true
  | .int _,.int _=>true|.bl _,.bl _=>true|.str _,.str _=>true|.byt _,.byt _=>true
  | .int _,.str _=>true|.str _,.int _=>true|.bl _,.str _=>true|.str _,.bl _=>true
  | _,_=>false
def rEq:R2:=fun x y H Q=>scal x y=true∧Q (.bl (decide (x=y))) H
def rNe:R2:=fun x y H Q=>scal x y=true∧Q (.bl (!decide (x=y))) H
theorem zbu {i j:Int}:decide (V.int i=V.int j)=(i==j):=by
  rw [Bool.eq_iff_iff]
  simp
theorem zcE {i j:Bool}:decide (V.bl i=V.bl j)=(i==j):=by
  rw [Bool.eq_iff_iff]
  simp
theorem zbH {i j:Str}:decide (V.str i=V.str j)=(i==j):=by
  rw [Bool.eq_iff_iff]
  simp
theorem zch {i j:Array UInt8}:decide (V.byt i=V.byt j)=(i.toList==j.toList):=by
  rw [Bool.eq_iff_iff];cases i;cases j
  simp
section
variable {X:Cx} {a b c:Expr} {ta tb tc:TE} {pos:Pos}
theorem zD {pins:List (Addr×Obj)} {σ : St} {H:Hp} {s:Shared} {Q:VK} {k k':Bool} (I:Inv X pins σ H s) (q:Q (.bl k) H) (e:k=k'):EP X pins σ Q (.bool k') s:=by
  subst e;exact⟨.bl k,H,I,rfl,q⟩
theorem zjk:OpR X (compareOp .Eq) rEq:=by
  intro pins s σ H x y v u Q I rx ry h;obtain⟨hs,q⟩:=h;cases x with
  | non=>
    cases rx;cases y with
    | non=>cases ry;exact PySem.EqNone.eq_none_none (zD I q (by simp))
    | bl j=>cases ry;exact PySem.EqNone.eq_none_bool (zD I q (by simp))
    | int j=>obtain⟨t',rfl⟩:=ry;exact PySem.EqNone.eq_none_int (zD I q (by simp))
    | str j=>obtain⟨t',rfl⟩:=ry;exact PySem.EqNone.eq_none_str (zD I q (by simp))
    | _=>exact absurd (show false=true from hs) Bool.false_ne_true
  | bl i=>
    cases rx;cases y with
    | non=>cases ry;exact PySem.EqNone.eq_bool_none (zD I q (by simp))
    | bl j=>cases ry;exact eq_bool (zD I q zcE)
    | str j=>obtain⟨t',rfl⟩:=ry;exact PySem.EqMixed.eq_bool_str (zD I q (by simp))
    | _=>exact absurd (show false=true from hs) Bool.false_ne_true
  | int i=>
    obtain⟨t,rfl⟩:=rx;cases y with
    | non=>cases ry;exact PySem.EqNone.eq_int_none (zD I q (by simp))
    | int j=>obtain⟨t',rfl⟩:=ry;exact eq_int (zD I q zbu)
    | str j=>obtain⟨t',rfl⟩:=ry;exact PySem.EqMixed.eq_int_str (zD I q (by simp))
    | _=>exact absurd (show false=true from hs) Bool.false_ne_true
  | str i=>
    obtain⟨t,rfl⟩:=rx;cases y with
    | non=>cases ry;exact PySem.EqNone.eq_str_none (zD I q (by simp))
    | bl j=>cases ry;exact PySem.EqMixed.eq_str_bool (zD I q (by simp))
    | int j=>obtain⟨t',rfl⟩:=ry;exact PySem.EqMixed.eq_str_int (zD I q (by simp))
    | str j=>obtain⟨t',rfl⟩:=ry;exact eq_str (zD I q zbH)
    | _=>exact absurd (show false=true from hs) Bool.false_ne_true
  | byt i=>
    obtain⟨t,rfl⟩:=rx;cases y with
    | byt j=>obtain⟨t',rfl⟩:=ry;exact PySem.W.eq_bytes (zD I q zch)
    | _=>exact absurd (show false=true from hs) Bool.false_ne_true
  | _=>cases y<;>exact absurd (show false=true from hs) Bool.false_ne_true
theorem zju:OpR X (compareOp .NotEq) rNe:=by
  intro pins s σ H x y v u Q I rx ry h;obtain⟨hs,q⟩:=h;cases x with
  | non=>
    cases rx;cases y with
    | non=>cases ry;exact PySem.EqNone.ne_none_none (zD I q (by simp))
    | bl j=>cases ry;exact PySem.EqNone.ne_none_bool (zD I q (by simp))
    | int j=>obtain⟨t',rfl⟩:=ry;exact PySem.EqNone.ne_none_int (zD I q (by simp))
    | str j=>obtain⟨t',rfl⟩:=ry;exact PySem.EqNone.ne_none_str (zD I q (by simp))
    | _=>exact absurd (show false=true from hs) Bool.false_ne_true
  | bl i=>
    cases rx;cases y with
    | non=>cases ry;exact PySem.EqNone.ne_bool_none (zD I q (by simp))
    | bl j=>cases ry;exact ne_bool (zD I q (congrArg not zcE))
    | str j=>obtain⟨t',rfl⟩:=ry;exact PySem.EqMixed.ne_bool_str (zD I q (by simp))
    | _=>exact absurd (show false=true from hs) Bool.false_ne_true
  | int i=>
    obtain⟨t,rfl⟩:=rx;cases y with
    | non=>cases ry;exact PySem.EqNone.ne_int_none (zD I q (by simp))
    | int j=>obtain⟨t',rfl⟩:=ry;exact ne_int (zD I q (congrArg not zbu))
    | str j=>obtain⟨t',rfl⟩:=ry;exact PySem.EqMixed.ne_int_str (zD I q (by simp))
    | _=>exact absurd (show false=true from hs) Bool.false_ne_true
  | str i=>
    obtain⟨t,rfl⟩:=rx;cases y with
    | non=>cases ry;exact PySem.EqNone.ne_str_none (zD I q (by simp))
    | bl j=>cases ry;exact PySem.EqMixed.ne_str_bool (zD I q (by simp))
    | int j=>obtain⟨t',rfl⟩:=ry;exact PySem.EqMixed.ne_str_int (zD I q (by simp))
    | str j=>obtain⟨t',rfl⟩:=ry;exact ne_str (zD I q (congrArg not zbH))
    | _=>exact absurd (show false=true from hs) Bool.false_ne_true
  | byt i=>
    obtain⟨t,rfl⟩:=rx;cases y with
    | byt j=>obtain⟨t',rfl⟩:=ry;exact PySem.W.ne_bytes (zD I q (congrArg not zch))
    | _=>exact absurd (show false=true from hs) Bool.false_ne_true
  | _=>cases y<;>exact absurd (show false=true from hs) Bool.false_ne_true
theorem zfm:OpR X (compareOp .Lt) (rI0 fun i j=>.bl (decide (i<j))):=opB0 fun _ _ _ _ _ _ _ q=>lt_int q
theorem zf5:OpR X (compareOp .LtE) (rI0 fun i j=>.bl (decide (i≤j))):=opB0 fun _ _ _ _ _ _ _ q=>le_int q
theorem zel:OpR X (compareOp .Gt) (rI0 fun i j=>.bl (decide (j<i))):=opB0 fun _ _ _ _ _ _ _ q=>gt_int q
theorem zgi:OpR X (compareOp .GtE) (rI0 fun i j=>.bl (decide (j≤i))):=opB0 fun _ _ _ _ _ _ _ q=>ge_int q
theorem zhw:OpR X (compareOp .IsNot) (fun x y H Q=>y=.non∧Q (.bl (!decide (x=.non))) H):=by
  intro pins s σ H x y v u Q I rx ry h;obtain⟨rfl,q⟩:=h;cases ry;refine isnot_none_gen (zD I q ?_);cases x<;>first
    | (cases rx;rfl)
    | (obtain⟨t,rfl⟩:=rx;rfl)
theorem OpR.or {f:Value→Value→Sem Value} {r r':R2} (h:OpR X f r) (h':OpR X f r'):OpR X f (fun x y H Q=>r x y H Q∨r' x y H Q):=by
  intro pins s σ H x y v u Q I rx ry q
  rcases q with q|q
  · exact h pins s σ H x y v u Q I rx ry q
  · exact h' pins s σ H x y v u Q I rx ry q
theorem nomark (b:Expr) {op:CmpOp} (h:op≠.In:=by decide) (h2:op≠.NotIn:=by decide):behindInMarks op b=false:=by
  have e1:(op==CmpOp.In)=false:=by cases op<;>first|rfl|exact absurd rfl h
  have e2:(op==CmpOp.NotIn)=false:=by cases op<;>first|rfl|exact absurd rfl h2
  cases b<;>simp [behindInMarks,e1,e2]
theorem zeE {op:CmpOp} {r:R2} (ho:OpR X (compareOp op) r) (ha:PE X a ta) (hb:PE X b tb) (hm:behindInMarks op b=false):PE X (.Compare a [op] [b] pos) (tOp r ta tb):=by
  intro pins s σ H Q I h;exact wpAny_Compare1 (binT ha hb I h fun v u s2 x y H2 I2 rx ry q=>ho pins s2 σ H2 x y v u Q I2 rx ry q) hm
def ZU (t:TE):TT:=fun σ H Q=>t σ H fun x H'=>∃ k,x=.bl k∧Q k H'
theorem zeG {op:CmpOp} {r:R2} (ho:OpR X (compareOp op) r) (ha:PE X a ta) (hb:PE X b tb) (hm:behindInMarks op b=false):PT X (.Compare a [op] [b] pos) (ZU (tOp r ta tb)):=by
  intro pins s σ H Q I h;refine wpAny_isTrue_Compare1 (thn (ha pins s σ H _ I h) fun v s1 ⟨x,H1,I1,r1,q1⟩=>thn (hb pins s1 σ H1 _ I1 q1) fun u s2 ⟨y,H2,I2,r2,q2⟩=>
    thn (ho pins s2 σ H2 x y v u _ I2 r1 r2 q2) fun c s3 ⟨z,H3,I3,r3,k,e,q3⟩=>?_) hm
  subst e;cases r3;exact wpAny_truthy_bool ⟨H3,I3,q3⟩
def zbK (r r':R2) (ta tb tc:TE):TE:=fun σ H Q=>ta σ H fun x H1=>tb σ H1 fun y H2=>r x y H2 fun z H3=>∃ k,z=.bl k∧
  (if k=true then tc σ H3 fun w' H4=>r' y w' H4 Q else Q (.bl false) H3)
theorem zjJ {op op':CmpOp} {r r':R2} (ho:OpR X (compareOp op) r) (ho':OpR X (compareOp op') r') (ha:PE X a ta) (hb:PE X b tb) (hc:PE X c tc)
    (hm:lastMarks [op,op'] [b,c]=false:=by with_unfolding_all rfl):PT X (.Compare a [op,op'] [b,c] pos) (ZU (zbK r r' ta tb tc)):=by
  intro pins s σ H Q I h;refine isTrue_chain (thn (ha pins s σ H _ I h) fun v s1 ⟨x,H1,I1,r1,q1⟩=>test_link (thn (hb pins s1 σ H1 _ I1 q1) fun u s2 ⟨y,H2,I2,r2,q2⟩=>
    thn (ho pins s2 σ H2 x y v u _ I2 r1 r2 q2) fun d s3 ⟨z,H3,I3,r3,k,e,q3⟩=>?_)) hm
  subst e;cases r3;refine wpAny_truthy_bool ?_;cases k with
  | false=>
    obtain⟨k',e',q'⟩:=q3;cases e';exact ite_ff ⟨H3,I3,q'⟩
  | true=>
    refine ite_tt (test_last (thn (hc pins s3 σ H3 _ I3 q3) fun w' s4 ⟨z',H4,I4,r4,q4⟩=>thn (ho' pins s4 σ H4 y z' u w' _ I4 r2 r4 q4) fun d' s5 ⟨z2,H5,I5,r5,k2,e2,q5⟩=>?_))
    subst e2;cases r5;exact wpAny_truthy_bool ⟨H5,I5,q5⟩
theorem jw:(sizeLine:Nat)<2 ^ 63:=by rw [sizeLine_eq];decide
theorem zdc:OpR X (binaryOp .Add) (fun x y H Q=>∃ i j,x=.str i∧y=.str j∧i.length+j.length≤sizeLine∧Q (.str (i++j)) H):=by
  intro pins s σ H x y v u Q I rx ry h;obtain⟨i,j,rfl,rfl,hz,q⟩:=h;obtain⟨t,rfl⟩:=rx;obtain⟨t',rfl⟩:=ry;exact add_str (fun t' tk=>⟨.str (i++j),H,I.tok _,⟨_,rfl⟩,q⟩) hz
theorem jS {x:V} {us:List Value} (r:Vals [x] us):∃ u,us=[u]∧RelV x u:=by
  cases r with
  | cons r1 r2=>cases r2;exact⟨_,rfl,r1⟩
theorem J8 {x y:V} {us:List Value} (r:Vals [x,y] us):∃ u w',us=[u,w']∧RelV x u∧RelV y w':=by
  cases r with
  | cons r1 r2=>
    cases r2 with
    | cons r3 r4=>cases r4;exact⟨_,_,rfl,r1,r3⟩
theorem zgM:zG X (.builtin "abs") (fun xs H Q=>∃ i,xs=[.int i]∧Q (.int (if i<0 then -i else i)) H):=by
  intro pins s σ H xs us Q I r h;obtain⟨i,rfl,q⟩:=h;obtain⟨u,rfl,t,rfl⟩:=jS r;exact call_abs_int fun u tk=>⟨.int (if i<0 then -i else i),H,I.tok _,⟨_,rfl⟩,q⟩
end
structure ObjM (h:Heap) (x dx C:Addr) (mA:Str→Option Value):Prop where
  obj:h.get? x=some (PySem.W.instObj C dx)
  ns:h.Ns1 dx mA
  ne:dx≠x
theorem zi0 {h:Heap} {dx:Addr} {mA:Str→Option Value} (n:h.Ns1 dx mA):∃ od,h.get? dx=some od∧∀ name,PySem.W.lookIn name od=some (mA name):=by
  obtain⟨o,es,ep,ho,hd,hk,_,hm⟩:=n;refine⟨o,ho,fun name=>?_⟩
  have e:=hm name;unfold nsFind findBy at e;rw [←Array.find?_toList] at e;unfold PySem.W.lookIn;rw [hd];dsimp only
  split
  · rename_i y q
    rw [q] at e;exact congrArg some e
  · rename_i q
    rw [q] at e;have a:es.toList.any (·.refKey)=false:=by
      rw [List.any_eq_false];intro y hy;obtain⟨z,t,hkey⟩:=hk y (Array.mem_toList_iff.mp hy)
      simp [DictEntry.refKey,hkey]
    have a':¬es.toList.any (·.refKey)=true:=by rw [a];exact Bool.false_ne_true
    rw [if_neg a'];exact congrArg some e
theorem ObjM.look {h:Heap} {x dx C:Addr} {mA:Str→Option Value} (I:ObjM h x dx C mA):∃ od,PySem.W.InstAt h x (PySem.W.instObj C dx) C (some od)∧∀ name,PySem.W.lookIn name od=some (mA name):=
  let ⟨od,ho,hl⟩:=zi0 I.ns
  ⟨od,⟨I.obj,rfl,rfl,ho⟩,hl⟩
section
variable {prog:Program} {w:World} {A:Around} {E:Value→Shared→Prop} {s:Shared} {K:PySem.W.Frag} {x dx C f:Addr} {mA:Str→Option Value} {name:Str} {v:Value}
end
theorem RelO.none_of {o:Option Value} (r:RelO none o):o=none:=by
  cases o with
  | none=>rfl
  | some u=>exact(show False from r).elim
section
variable {P:Program} {w:World} {H H':Hp} {h h':Heap} {a C dx:Addr} {fs fs':List (Str×V)}
end
section
variable {X:Cx} {pins:List (Addr×Obj)} {σ : St} {H:Hp} {s:Shared} {a C dx:Addr} {fs:List (Str×V)} {f:Str} {v:V} {A:Around} {E:Value→Shared→Prop}
theorem Inv.made (I:Inv X pins σ H s):Inv X pins σ (upd (upd H s.heap.objs.size (.own (s.heap.objs.size+1))) (s.heap.objs.size+1) (.ins C s.heap.objs.size []))
    { s with heap:=(s.heap.push PySem.W.emptyDict).push (PySem.W.instObj C s.heap.objs.size) }:=by
  have e1:(s.heap.push PySem.W.emptyDict).get? s.heap.objs.size=some PySem.W.emptyDict:=Heap.get?_push_size s.heap rfl;have e2:((s.heap.push PySem.W.emptyDict).push (PySem.W.instObj C s.heap.objs.size)).get? (s.heap.objs.size+1)=some (PySem.W.instObj C s.heap.objs.size):=by
    have:=Heap.get?_push_size (s.heap.push PySem.W.emptyDict) (o:=PySem.W.instObj C s.heap.objs.size) rfl;rwa [Heap.size_push] at this
  have e3:(s.heap.push PySem.W.emptyDict).Ns s.heap.objs.size (fun _=>none):=⟨PySem.W.emptyDict,#[],_,e1,rfl,(fun e he=>absurd he (by simp)),fun _=>rfl⟩
  have I1:=I.laid (a:=s.heap.objs.size) (o:=.own (s.heap.objs.size+1)) (h':=s.heap.push PySem.W.emptyDict) (t':=s.toks) (fun b u q=>Heap.get?_push_of_some _ q) (Nat.le_refl _) ⟨_,e1⟩
  refine I1.laid (a:=s.heap.objs.size+1) (o:=.ins C s.heap.objs.size []) (t':=s.toks) (fun b u q=>Heap.get?_push_of_some _ q) (Nat.le_of_eq (Heap.size_push _ _)) ?_
  have ne:s.heap.objs.size≠s.heap.objs.size+1:=Nat.ne_of_lt (Nat.lt_succ_self _);refine⟨by rw [zh ne,zB],Nat.zero_le _,ne,e2,fun _=>none,(Heap.Ns1.of_empty e3).at fun o q=>Heap.get?_push_of_some _ q,fun _=>True.intro,fun y hy=>absurd rfl hy⟩
end
section
variable {X:Cx} {o e value:Expr} {f:Str} {pos pos' tpos:Pos} {ta tv:TE}
end
section
variable {X:Cx} {pins:List (Addr×Obj)} {σ : St} {H:Hp} {s:Shared} {A:Around} {E:Value→Shared→Prop} {Q:Value→Shared→Prop} {c:Value} {b:Bool}
end
structure Room (k:Nat) (A:Around):Prop where
  hd:A.handled=none
  dp:A.depth+3*k+5<recursionLimit
  un:A.units+16*k+200<cLine
theorem Room.mono {j k:Nat} {A:Around} (r:Room k A) (h:j≤k):Room j A:=⟨r.hd,by have:=r.dp;omega,by have:=r.un;omega⟩
theorem Room.deeper {k:Nat} {A:Around} (r:Room (k+1) A) (env:Env):Room k (A.deeper env):=
  ⟨r.hd,by have:=r.dp;show A.depth+1+3*k+5<_;omega,by have:=r.un;show A.units+3+16*k+200<_;omega⟩
theorem Room.in1 {k:Nat} {A:Around} (r:Room (k+1) A):Room k A.in1:=
  ⟨r.hd,by have:=r.dp;show A.depth+3*k+5<_;omega,by have:=r.un;show A.units+1+16*k+200<_;omega⟩
theorem zfd {A:Around} {C:Addr} {us:List Value} {kw:List (Str×Value)}:(A.under (.builtin "type.__call__" ⟨.ref C::us,kw⟩)).depth=A.depth+1:=by
  first|rfl|simp [Around.under,Code.weight,Code.isCreation,Code.isGuard,Code.isCaller,Code.frames,Code.isFrame,guardIds]
theorem zjo {A:Around} {C:Addr} {us:List Value} {kw:List (Str×Value)}:(A.under (.builtin "type.__call__" ⟨.ref C::us,kw⟩)).units=A.units+1:=by
  first|rfl|simp [Around.under,Code.cUnits,Code.frames,Code.isFrame]
theorem Room.make {k:Nat} {A:Around} (r:Room (k+1) A) (C:Addr) (us:List Value) (kw:List (Str×Value)):Room k (A.under (.builtin "type.__call__" ⟨.ref C::us,kw⟩)):=
  ⟨r.hd,by have:=r.dp;rw [zfd];omega,by have:=r.un;rw [zjo];omega⟩
theorem Room.depth {k:Nat} {A:Around} (r:Room k A):A.depth<recursionLimit:=by have:=r.dp;omega
theorem Room.units {k:Nat} {A:Around} (r:Room k A):A.units+64<cLine:=by have:=r.un;omega
def tNil:TA:=fun _ H Q=>Q [] H
def zfW (ta:TE) (tr:TA):TA:=fun σ H Q=>ta σ H fun x H1=>tr σ H1 fun xs H2=>Q (x::xs) H2
section
variable {X:Cx} {e:Expr} {es:List Expr} {te:TE} {t:TA} {pos:Pos}
theorem jn:PA X [] tNil:=fun _ _ _ _ H Q I h=>Calls.spliced_nil ⟨[],H,I,.nil,h⟩
theorem z9 (ha:PE X e te) (hr:PA X es t) (hs:starEach (e::es) X.env=(false,eval e X.env)::starEach es X.env:=by rfl):PA X (e::es) (zfW te t):=by
  intro pos pins s σ H Q I h;rw [hs];show wpAny _ _ (spliced ((false,eval e X.env)::backTo pos (starEach es X.env))) _ _ s;refine Calls.spliced_cons (thn (ha pins s σ H _ I h) fun u s1 ⟨x,H1,I1,r1,q1⟩=>?_)
  exact thn (hr pos pins s1 σ H1 _ I1 q1) fun us s2 ⟨xs,H2,I2,r2,q2⟩=>⟨x::xs,H2,I2,.cons r1 r2,q2⟩
def tTup (t:TA):TE:=fun σ H Q=>t σ H fun xs H1=>xs.length≤sizeLine∧∀ p,H1 p=none→Q (.ref p) (upd H1 p (.tup xs))
def tLst (t:TA):TE:=fun σ H Q=>t σ H fun xs H1=>xs.length≤sizeLine∧∀ p,H1 p=none→Q (.ref p) (upd H1 p (.lst xs))
theorem zc2 {x1} (h:PA X es t):PE X (.Tuple es x1 pos) (tTup t):=by
  intro pins s σ H Q I hq;refine wpAny_Tuple_spliced (thn (h pos pins s σ H _ I hq) fun us s1 ⟨xs,H1,I1,r,z,q⟩=>⟨by rw [←r.length];exact z,?_⟩)
  have hf:H1 s1.heap.objs.size=none:=I1.hok.fresh (Nat.le_refl _);refine⟨.ref s1.heap.objs.size,upd H1 s1.heap.objs.size (.tup xs),I1.laid (t':=s1.toks) (fun b u e=>Heap.get?_push_of_some _ e) (Nat.le_refl _) ?_,rfl,q _ hf⟩
  exact⟨z,us,r,⟨_,Heap.get?_push_size _ rfl,rfl,_,rfl⟩⟩
theorem zd6 (h:PA X es t):PE X (.List es pos) (tLst t):=by
  intro pins s σ H Q I hq;refine wpAny_List_spliced (thn (h pos pins s σ H _ I hq) fun us s1 ⟨xs,H1,I1,r,z,q⟩=>⟨by rw [←r.length];exact z,?_⟩)
  have hf:H1 s1.heap.objs.size=none:=I1.hok.fresh (Nat.le_refl _);refine⟨.ref s1.heap.objs.size,upd H1 s1.heap.objs.size (.lst xs),I1.laid (t':=s1.toks) (fun b u e=>Heap.get?_push_of_some _ e) (Nat.le_refl _) ?_,rfl,q _ hf⟩
  exact⟨z,us,0,r,Heap.get?_push_size _ rfl⟩
end
abbrev Sp:=List V→Hp→VK→XK→Prop
abbrev CXT:=List Env→Hp→Shared→XK→Value→Shared→Prop
structure Env0 (P:Program) (w:World) (K:PySem.W.Frag) (mg:Str→Option Value) (base:Heap) (A:Around) (outer:List Env) (s:Shared) (H:Hp):Prop where
  frames:A.frames=some outer
  mod:Mod K mg base
  bs:∀ b o,base.get? b=some o→s.heap.get? b=some o∧H b=none
  bsz:base.objs.size≤s.heap.objs.size
  funs:s.heap.FunFrames base outer
  frf:∀ b∈frs outer,H b=none
  hok:HOk P w H s.heap
  bare:AllBare s.gens
def CE (outer:List Env) (P:Program) (w:World) (H:Hp) (s:Shared) (Q:VK) (u:Value) (s':Shared):Prop:=
  ∃ v H',s'.os=s.os∧AllBare s'.gens∧Un (frs outer) [] H H' s.heap s'.heap∧HOk P w H' s'.heap∧RelV v u∧Q v H'
def CR (CX:CXT) (outer:List Env) (P:Program) (w:World) (H:Hp) (s:Shared) (Q:VK) (E:XK) (r:Result) (s':Shared):Prop:=
  match r with
  | .ok (.ret u)=>CE outer P w H s Q u s'
  | .ok _=>False
  | .error e=>CX outer H s E e s'
structure FnOk (P:Program) (w:World) (K:PySem.W.Frag) (mg:Str→Option Value) (base:Heap) (CX:CXT) (k:Nat) (f:Addr) (fd:FuncData) (ps:List Str) (sp:Sp):Prop where
  len:∀ vs H Q E,sp vs H Q E→vs.length=ps.length
  run:∀ (A:Around) (outer:List Env) (s:Shared) (H:Hp) (args:Args) (us:List Value) (vs:List V) (Q:VK) (E:XK),Room k A→Env0 P w K mg base A outer s H→BindsTo s fd args (ps.zip us)→Vals vs us→sp vs H Q E→
    codeAny (model P w) A (.call (.ref f) args) (CR CX outer P w H s Q E) s
theorem FnOk.mono {P:Program} {w:World} {K:PySem.W.Frag} {mg:Str→Option Value} {base:Heap} {CX:CXT} {j k:Nat} {f:Addr} {fd:FuncData} {ps:List Str} {sp:Sp} (F:FnOk P w K mg base CX j f fd ps sp) (h:j≤k) :
    FnOk P w K mg base CX k f fd ps sp:=⟨F.len,fun A outer s H args us vs Q E hr=>F.run A outer s H args us vs Q E (hr.mono h)⟩
theorem FnOk.imp {P:Program} {w:World} {K:PySem.W.Frag} {mg:Str→Option Value} {base:Heap} {CX:CXT} {k:Nat} {f:Addr} {fd:FuncData} {ps:List Str} {sp sp':Sp} (F:FnOk P w K mg base CX k f fd ps sp)
    (h:∀ vs H Q E,sp' vs H Q E→sp vs H Q E):FnOk P w K mg base CX k f fd ps sp':=
  ⟨fun vs H Q E q=>F.len vs H Q E (h _ _ _ _ q),fun A outer s H args us vs Q E hr he hb hv hs=>F.run A outer s H args us vs Q E hr he hb hv (h _ _ _ _ hs)⟩
theorem Env0.make {P:Program} {w:World} {K:PySem.W.Frag} {mg:Str→Option Value} {base:Heap} {A:Around} {outer:List Env} {s:Shared} {H:Hp} (e:Env0 P w K mg base A outer s H) (C:Addr) (us:List Value) (kw:List (Str×Value)) :
    Env0 P w K mg base (A.under (.builtin "type.__call__" ⟨.ref C::us,kw⟩)) outer s H:=⟨by first|exact e.frames|(simpa [Around.under,Code.envs,Code.isFrame,pushEnvs] using e.frames),e.mod,e.bs,e.bsz,e.funs,e.frf,e.hok,e.bare⟩
theorem Env0.in1 {P:Program} {w:World} {K:PySem.W.Frag} {mg:Str→Option Value} {base:Heap} {A:Around} {outer:List Env} {s:Shared} {H:Hp} (e:Env0 P w K mg base A outer s H) :
    Env0 P w K mg base A.in1 outer s H:=⟨e.frames,e.mod,e.bs,e.bsz,e.funs,e.frf,e.hok,e.bare⟩
section
variable {X:Cx} {pins:List (Addr×Obj)} {σ : St} {H:Hp} {s s':Shared}
theorem Inv.env0 (I:Inv X pins σ H s):Env0 X.prog X.w X.K X.mg X.base X.A X.stack s H:=
  ⟨I.ok.frames,I.ok.mod,I.bs,Nat.le_trans I.ok.bsz I.sz,I.stack,I.stkFree,I.hok,I.bare⟩
theorem Inv.after {Q:VK} {u:Value} (I:Inv X pins σ H s) (h:CE X.stack X.prog X.w H s Q u s'):EP X pins σ Q u s':=by
  obtain⟨v,H',os,bare,un,hok,r,q⟩:=h;obtain⟨hh,g,d,t,os'⟩:=s';obtain rfl:os'=s.os:=os;exact⟨v,H',I.call (h':=hh) (g':=g) (d':=d) (t':=t) (ch:=[]) un hok bare (fun b z=>absurd z (by simp)),r,q⟩
end
def zcH (sp:Sp) (dvs:List V) (E:XK) (t:TA):TE:=fun σ H Q=>t σ H fun vs H1=>sp (vs++dvs) H1 Q E
def Binds (K:PySem.W.Frag) (fd:FuncData) (ps:List Str) (ds:List Value):Prop:=
  ∀ (s:Shared) (us:List Value),K.In s.heap→(us++ds).length=ps.length→BindsTo s fd ⟨us,[]⟩ (ps.zip (us++ds))
theorem Binds.all {K:PySem.W.Frag} {fd:FuncData} {ps:List Str} (h:∀ us:List Value,us.length=ps.length→bindArgs fd ⟨us,[]⟩=pure (ps.zip us)):Binds K fd ps []:=fun s us _ hl=>by
  rw [List.append_nil] at hl ⊢;exact .of_eq (h us hl)
def Passes (CX:CXT) (X:Cx) (E:XK):Prop:=∀ (pins:List (Addr×Obj)) (σ : St) (H:Hp) (s:Shared) (e:Value) (s':Shared),Inv X pins σ H s→CX X.stack H s E e s'→X.xe e s'
section
variable {X:Cx} {CX:CXT} {k:Nat} {f C:Addr} {fd:FuncData} {ps:List Str} {sp:Sp} {dvs:List V} {ds:List Value} {E:XK} {x m:Str} {p pos apos:Pos} {e o:Expr} {es:List Expr} {ta:TE} {t:TA}
theorem ze2 {pins:List (Addr×Obj)} {σ : St} {H:Hp} {s:Shared} {Q:VK} {us:List Value} {vs:List V} (F:FnOk X.prog X.w X.K X.mg X.base CX k f fd ps sp) (hr:Room k X.A) (hb:Binds X.K fd ps ds) (hd:Vals dvs ds) (hx:Passes CX X E)
    (I:Inv X pins σ H s) (r:Vals vs us) (h:sp (vs++dvs) H Q E):wpAny (model X.prog X.w) X.A (call (.ref f) us) (EP X pins σ Q) X.xe s:=by
  have r2:Vals (vs++dvs) (us++ds):=r.append hd;have hl:(us++ds).length=ps.length:=by rw [←r2.length];exact F.len _ _ _ _ h
  refine wpAny_call (codeAny_mono (F.run X.A X.stack s H ⟨us,[]⟩ (us++ds) (vs++dvs) Q E hr I.env0 (hb s us I.kIn hl) r2 h) fun r s' hq=>?_)
  cases r with
  | error e=>exact hx pins σ H s e s' I hq
  | ok fl=>
    cases fl with
    | ret u=>exact I.after hq
    | next=>exact False.elim hq
    | brk=>exact False.elim hq
    | cont=>exact False.elim hq
theorem zdJ (F:FnOk X.prog X.w X.K X.mg X.base CX k f fd ps sp) (hr:Room k X.A) (hg:Gl X x) (hm:X.mg x=some (.ref f)) (hk:PySem.W.keepIn X.K (.ref f)=true) (hb:Binds X.K fd ps ds) (hd:Vals dvs ds) (hx:Passes CX X E)
    (ha:PA X (e::es) t) (hdb:(x==("__debug__" : Str))=false:=by decide) (he:starEach (e::es) X.env=(false,eval e X.env)::starEach es X.env:=by rfl) (hpl:(backTo pos (starEach es X.env)).any (·.1)=false:=by rfl) :
    PE X (.Call (.Name x p) (e::es) [] pos) (zcH sp dvs E t):=by
  intro pins s σ H Q I h;refine wpAny_Call_Name_kw (ZK I hg hm ?_ hdb);refine PySem.W.callWith_K (h₀:=X.base) I.ok.mod.kin hk (thn (ha pos pins s σ H _ I h) fun us s1 ⟨vs,H1,I1,r,q⟩=>⟨I1.kIn,?_⟩) he hpl
  exact ze2 F hr hb hd hx I1 r q
end
section
variable {X:Cx} {CX:CXT} {k:Nat} {f C:Addr} {fd:FuncData} {ps ks:List Str} {sp:Sp} {E:XK} {x m:Str} {p pos apos kpos:Pos} {e o:Expr} {es:List Expr} {kws:List Keyword} {te ta:TE} {t tk:TA} {nm:Option Str}
variable {g:List Value→List Value→List Value} {gV:List V→List V→List V}
end
structure FnScope (N P:List Str) (sc:Scope):Prop where
  kind:sc.kind=.function
  co:sc.isCoroutine=false
  gen:sc.isGenerator=false
  nd:N.Nodup
  pre:N.take P.length=P
  par:∀ x∈P,sc.names.lookup x=some .local∨sc.names.lookup x=some .cell
  nofree:∀ y∈sc.names,y.2≠.free
theorem zbx {kindOf:Str→Option NameKind} {x:Str}:∀ {binds:List (Str×Value)} {m:Str→Option Value},(∀ v,(x,v)∉binds)→bindL kindOf binds m x=m x
  | [],_,_=>rfl
  | (n, v) :: r, m, h => by
    unfold bindL;rw [zbx fun w hw=>h w (List.mem_cons_of_mem _ hw)]
    split
    · have:x≠n:=by rintro rfl;exact h v List.mem_cons_self
      simp [this]
    · rfl
theorem zc1 {kindOf:Str→Option NameKind} {x:Str}:∀ {binds:List (Str×Value)} {m:Str→Option Value},(∀ v,(x,v)∉binds)→bindC kindOf binds m x=m x
  | [],_,_=>rfl
  | (n, v) :: r, m, h => by
    unfold bindC;rw [zc1 fun w hw=>h w (List.mem_cons_of_mem _ hw)]
    split
    · rfl
    · have:x≠n:=by rintro rfl;exact h v List.mem_cons_self
      simp [this]
theorem zcb {kindOf:Str→Option NameKind} {x:Str} {v:Value}:∀ {P:List Str} {vs:List Value} {i:Nat} {m:Str→Option Value},P.Nodup→P[i]?=some x→vs[i]?=some v→kindOf x=some .local→
    bindL kindOf (P.zip vs) m x=some v
  | [],_,_,_,_,h,_,_=>by simp at h
  | _::_,[],_,_,_,_,h,_=>by simp at h
  | p :: P, w :: vs, 0, m, nd, h1, h2, hk => by
    simp at h1 h2;subst h1;subst h2
    show bindL kindOf ((p,w)::P.zip vs) m p=_
    unfold bindL;rw [zbx fun v hv=>(List.nodup_cons.mp nd).1 (List.of_mem_zip hv).1,if_pos hk]
    simp
  | p :: P, w :: vs, i + 1, m, nd, h1, h2, hk => by
    show bindL kindOf ((p,w)::P.zip vs) m x=_
    unfold bindL;exact zcb (i:=i) (List.nodup_cons.mp nd).2 (by simpa using h1) (by simpa using h2) hk
theorem zb5 {kindOf:Str→Option NameKind} {x:Str} {v:Value}:∀ {P:List Str} {vs:List Value} {i:Nat} {m:Str→Option Value},P.Nodup→P[i]?=some x→vs[i]?=some v→kindOf x≠some .local→
    bindC kindOf (P.zip vs) m x=some v
  | [],_,_,_,_,h,_,_=>by simp at h
  | _::_,[],_,_,_,_,h,_=>by simp at h
  | p :: P, w :: vs, 0, m, nd, h1, h2, hk => by
    simp at h1 h2;subst h1;subst h2
    show bindC kindOf ((p,w)::P.zip vs) m p=_
    unfold bindC;rw [zc1 fun v hv=>(List.nodup_cons.mp nd).1 (List.of_mem_zip hv).1,if_neg hk]
    simp
  | p :: P, w :: vs, i + 1, m, nd, h1, h2, hk => by
    show bindC kindOf ((p,w)::P.zip vs) m x=_
    unfold bindC;exact zb5 (i:=i) (List.nodup_cons.mp nd).2 (by simpa using h1) (by simpa using h2) hk
def start (N:List Str) (vs:List V):St:=vs.map some++List.replicate (N.length - vs.length) none
def cxOf (CX:CXT) (P:Program) (w:World) (K:PySem.W.Frag) (mg:Str→Option Value) (base:Heap) (N:List Str) (qual:Str) (scope:Scope) (f:Addr) (cd:Value) (A:Around) (outer:List Env) (s:Shared) (H:Hp) (E:XK):Cx where
  prog:=P
  w:=w
  K:=K
  mg:=mg
  base:=base
  A:=A.deeper (envOfC qual scope s.heap.objs.size f cd)
  N:=N
  s₀:=s
  H₀:=H
  env:=envOfC qual scope s.heap.objs.size f cd
  outer:=outer
  stack:=envOfC qual scope s.heap.objs.size f cd::outer
  ex:=[]
  calm:=true
  fn:=fun _=>true
  pn:=[]
  xe:=fun e s'=>wpAny (model P w) (A.deeper (envOfC qual scope s.heap.objs.size f cd)) (leaving (envOfC qual scope s.heap.objs.size f cd) e) (fun _ s''=>CX outer H s E e s'') (fun e' s''=>CX outer H s E e' s'') s'
theorem zb9 {sc:Scope} {n:Nat} {x:Str} (h:sc.names.lookup x=some .cell):∃ c,(cellsFrom n sc.names []).lookup x=some c:=by
  have q:=PySem.W.cellsFrom_some sc.names n [] (.inl h);exact Option.isSome_iff_exists.mp q
theorem zjB {CX:CXT} {P:Program} {w:World} {K:PySem.W.Frag} {mg:Str→Option Value} {base:Heap} {N ps:List Str} {qual:Str} {scope:Scope} {f:Addr} {cd:Value} {A:Around} {outer:List Env} {s s1:Shared} {H:Hp} {E:XK} {us:List Value} {vs:List V}
    (S:FnScope N ps scope) (hd:A.handled=none) (e0:Env0 P w K mg base A outer s H) (hl:vs.length=ps.length) (r:Vals vs us)
    (x:InCallC s s.heap.objs.size (bindL (envOfC qual scope s.heap.objs.size f cd).kindOf (ps.zip us) fun _=>none) (cellsFrom (s.heap.objs.size+1) scope.names []) (bindC (envOfC qual scope s.heap.objs.size f cd).kindOf (ps.zip us) fun _=>none) s1) :
    Inv (cxOf CX P w K mg base N qual scope f cd A outer s H E) [] (start N vs) H s1:=by
  have hpl:ps.length≤N.length:=by have:=congrArg List.length S.pre;rw [List.length_take] at this;omega
  obtain⟨h1,tk,rfl,hk⟩:=x.done;have noA:∀ b:Addr,b∉(cxOf CX P w K mg base N qual scope f cd A outer s H E).ex:=fun b z=>absurd (show b∈([]:List Addr) from z) (by simp)
  refine⟨⟨e0.mod,S.kind,rfl,rfl,Nat.le_refl _,fun y z c h1 h2=>?_,fun y hy=>?_,fun y c _ h=>?_,fun _=>hd,Around.frames_deeper e0.frames,.inr ⟨rfl,rfl⟩,fun b z=>absurd z (noA b),e0.bs,e0.bsz,fun b _ _=>noA b,fun b z=>absurd z (noA b),e0.funs,e0.frf⟩,
    rfl,e0.bare,Un.kept hk,⟨_,x.toInCall.ns,fun i y v h1 h2 h3=>?_⟩,fun y c h=>⟨_,x.cell y c h⟩,e0.hok.fresh (Nat.le_refl _),fun y c h=>?_,fun p hp=>absurd (show p∈([]:List (Addr×Obj)) from hp) (by simp),e0.hok.kept hk,?_⟩
  · exact name_of_addr x.apart (PySem.mem_of_lookup h1) (PySem.mem_of_lookup h2)
  · have hy:scope.names.lookup y=some .cell∨scope.names.lookup y=some .free:=hy
    rcases hy with hy|hy
    · exact zb9 hy
    · exact absurd rfl (S.nofree _ (PySem.mem_of_lookup hy))
  · exact Nat.le_of_lt (x.above y c (PySem.mem_of_lookup h))
  · have hi:i<vs.length:=by
      unfold start at h2
      by_cases hi:i<vs.length
      · exact hi
      · rw [List.getElem?_append_right (by simpa using hi)] at h2
        rw [List.getElem?_replicate] at h2
        split at h2<;>cases h2
    have ha:vs[i]?=some v:=by
      unfold start at h2;rw [List.getElem?_append_left (by simpa using hi),List.getElem?_map] at h2
      cases e:vs[i]? with
      | none=>rw [e] at h2;cases h2
      | some a=>rw [e] at h2;cases h2;rfl
    obtain⟨u,hu,rv⟩:=r.get ha;have hp:ps[i]?=some y:=by
      rw [←S.pre,List.getElem?_take_of_lt (by omega)];exact h1
    have ndP:ps.Nodup:=by rw [←S.pre];exact S.nd.sublist (List.take_sublist _ _)
    refine⟨u,rv,?_⟩
    rcases S.par y (List.mem_of_getElem? hp) with k|k
    · exact .inl ⟨k,zcb ndP hp hu k⟩
    · obtain⟨c,e⟩:=zb9 (n:=s.heap.objs.size+1) k
      refine .inr ⟨.inl k,c,e,?_⟩
      have q:=x.cell y c e;rw [zb5 ndP hp hu (by show scope.names.lookup y≠_;rw [k];decide)] at q
      exact q
  · exact e0.hok.fresh (Nat.le_of_lt (x.above y c (PySem.mem_of_lookup h)))
  · unfold start
    show _=N.length
    rw [List.length_append,List.length_map,List.length_replicate]
    omega
theorem zcl {CX:CXT} {P:Program} {w:World} {K:PySem.W.Frag} {mg:Str→Option Value} {base:Heap} {k:Nat} {f:Addr} {name qual:Str} {params:Arguments} {body:List Stmt} {scope:Scope} {dV kV doc pm cdv ct oc:Value} {an od:Option Addr}
    {osl:Array (Option Value)} {N ps:List Str} {sp:Sp} (lk:K.lookup f=some ⟨oc,od,.func (PySem.W.fnOf name qual params body scope dV kV doc pm an cdv ct),osl⟩) (hcd:PySem.W.codeIn K cdv qual=true) (S:FnScope N ps scope)
    (len:∀ vs H Q E,sp vs H Q E→vs.length=ps.length)
    (hbody:∀ (A:Around) (outer:List Env) (s:Shared) (H:Hp) (vs:List V) (Q:VK) (E:XK),Room k (A.deeper (envOfC qual scope s.heap.objs.size f cdv))→sp vs H Q E→
      ∃ t,PSs (cxOf CX P w K mg base N qual scope f cdv A outer s H E) body t∧t { nx:=fun _ H'=>Q .non H',rt:=Q } (start N vs) H) :
    FnOk P w K mg base CX (k+1) f (PySem.W.fnOf name qual params body scope dV kV doc pm an cdv ct) ps sp:=by
  refine⟨len,fun A outer s H args us vs Q E hr e0 hb r hsp=>?_⟩
  have hl:=len _ _ _ _ hsp;have KX:K.In s.heap:=e0.mod.kin.keeps fun b o e=>(e0.bs b o e).1
  have lim:s.heap.NoLimit:=e0.mod.nolimit.keeps fun b o e=>(e0.bs b o e).1
  have hkind:∀ y∈ps.zip us,scope.names.lookup y.1=some .local∨(scope.names.lookup y.1=some .cell∧((cellsFrom (s.heap.objs.size+1) scope.names []).lookup y.1).isSome=true):=fun⟨n,v⟩ hy=>by
    rcases S.par n (List.of_mem_zip hy).1 with q|q
    · exact .inl q
    · exact .inr ⟨q,PySem.W.cellsFrom_some _ _ _ (.inl q)⟩
  refine codeAny_call_function hr.depth (KX _ _ lk) rfl S.co S.gen rfl (PySem.W.codeRec_of KX hcd) (hb _ _ _ _ ?_)
  refine wpAny_newFunctionEnv_cells S.kind hkind fun env he s1 x=>?_
  subst he;refine⟨lim.keeps x.toInCall.keep,codeAny_func ?_⟩;obtain⟨t,ht,hq⟩:=hbody A outer s H vs Q E (hr.deeper _) hsp;have I:Inv (cxOf CX P w K mg base N qual scope f cdv A outer s H E) [] (start N vs) H s1:=zjB S hr.hd e0 hl r x;refine wpAny_mono (ht [] s1 (start N vs) H _ I hq) (fun fl s' hs=>?_) fun e s' hs=>hs
  have fin:∀ {σ':St} {H':Hp} {v:V} {u:Value},Inv (cxOf CX P w K mg base N qual scope f cdv A outer s H E) [] σ' H' s'→RelV v u→Q v H'→CE outer P w H s Q u s':=
    fun {σ' H' v u} J rv q=>⟨v,H',J.os,J.bare,J.base,J.hok,rv,q⟩
  cases fl with
  | ret u=>
    obtain⟨v,σ',H',J,rv,q⟩:=hs;exact fin J rv q
  | next=>
    obtain⟨σ',H',J,q⟩:=hs;exact fin (v:=V.non) (u:=Value.none) J rfl q
  | brk=>
    obtain⟨_,_,_,q⟩:=hs;exact False.elim q
  | cont=>
    obtain⟨_,_,_,q⟩:=hs;exact False.elim q
section
variable {X:Cx} {x:Str} {p pos:Pos} {e:Expr} {es:List Expr} {t:TA} {id T:String} {r:List V→Hp→VK→Prop}
def tCB (r:List V→Hp→VK→Prop) (t:TA):TE:=fun σ H Q=>t σ H fun vs H1=>r vs H1 Q
theorem Zz (hc:zG X (.builtin id) r) (hg:Gl X x) (hm:X.mg x=none) (hv:bootBuiltins x=some (.builtin id)) (ha:PA X (e::es) t) (hn:x≠"__name__":=by decide) (hdb:(x==("__debug__" : Str))=false:=by decide)
    (he:starEach (e::es) X.env=(false,eval e X.env)::starEach es X.env:=by rfl) (hpl:(backTo pos (starEach es X.env)).any (·.1)=false:=by rfl):PE X (.Call (.Name x p) (e::es) [] pos) (tCB r t):=by
  intro pins s σ H Q I h;refine wpAny_Call_Name_kw (Jy I hg hm hv ?_ hn hdb);exact PyProof.Rows.callWith_builtin1 (thn (ha pos pins s σ H _ I h) fun us s1 ⟨vs,H1,I1,r1,q1⟩=>hc pins s1 σ H1 vs us Q I1 r1 q1) he hpl
theorem zfS (hc:zG X (.type T) r) (hg:Gl X x) (hm:X.mg x=none) (hv:bootBuiltins x=some (.type T)) (ha:PA X (e::es) t) (hn:x≠"__name__":=by decide) (hdb:(x==("__debug__" : Str))=false:=by decide)
    (he:starEach (e::es) X.env=(false,eval e X.env)::starEach es X.env:=by rfl) (hpl:(backTo pos (starEach es X.env)).any (·.1)=false:=by rfl):PE X (.Call (.Name x p) (e::es) [] pos) (tCB r t):=by
  intro pins s σ H Q I h;refine wpAny_Call_Name_kw (Jy I hg hm hv ?_ hn hdb);exact PyProof.Rows.callWith_type1 (thn (ha pos pins s σ H _ I h) fun us s1 ⟨vs,H1,I1,r1,q1⟩=>hc pins s1 σ H1 vs us Q I1 r1 q1) he hpl
end
end L2
namespace HT
open PySem PyProof.Rows
section
open PySem.SeqAt
open PySem.AutoSeq1 (wpAny_loadPart')
open PySem.MeetsSeq PySem.MeetsSeq2 PySem.MeetsSeq3
end
section
variable {prog:Program} {w:World} {A:Around} {E:Value→Shared→Prop} {s:Shared}
def sIx (n d:Nat):Option Int→Nat
  | none=>d
  | some v=>if v<0 then(v+(n:Int)).toNat else min v.toNat n
theorem sIx_none (n d:Nat):sIx n d none=d:=rfl
theorem sIx_nat (n d k:Nat):sIx n d (some (k:Int))=min k n:=by
  show(if(k:Int)<0 then((k:Int)+(n:Int)).toNat else min (k:Int).toNat n)=min k n
  rw [if_neg (by omega),Int.toNat_natCast]
end
end HT
namespace L2
open PySem PySem.Spec PyProof.Rows
abbrev TO:=St→Hp→(Option Int→Hp→Prop)→Prop
def PO (X:Cx) (e:Option Expr) (t:TO):Prop:=
  ∀ (pins:List (Addr×Obj)) (s:Shared) (σ : St) (H:Hp) (Q:Option Int→Hp→Prop),Inv X pins σ H s→t σ H Q→
    wpAny (model X.prog X.w) X.A (evalPart e X.env) (fun u s'=>∃ o H',Inv X pins σ H' s'∧IsPart u o∧Q o H') X.xe s
def tNoPart:TO:=fun _ H Q=>Q none H
def zfq (t:TE):TO:=fun σ H Q=>t σ H fun x H1=>∃ i,x=.int i∧Q (some i) H1
theorem zag {ns:List Int}:∀ {us:List Value},Vals (ns.map V.int) us→IntsAre us ns:=by
  induction ns with
  | nil=>intro us r;rw [List.map_nil] at r;cases r;exact .nil
  | cons n ns ih=>
    intro us r;rw [List.map_cons] at r;cases r with
    | cons r1 r2=>
      obtain⟨t,e⟩:=r1;subst e;exact .cons n t (ih r2)
section
variable {X:Cx} {e:Expr} {te:TE} {lo hi:Option Expr} {tl th:TO} {pos p2:Pos}
theorem zix:PO X none tNoPart:=by
  intro pins s σ H Q I h;rw [evalPart_none];exact wpAny_pure ⟨none,H,I,.none,h⟩
theorem zfJ (h:PE X e te):PO X (some e) (zfq te):=by
  intro pins s σ H Q I hw;rw [evalPart_some];refine thn (h pins s σ H _ I hw) fun u s1 ⟨x,H1,I1,r1,q1⟩=>?_
  obtain⟨i,rfl,q⟩:=q1;obtain⟨t,rfl⟩:=r1;exact⟨some i,H1,I1,.int i t,q⟩
def SlR (X:Cx) (r:V→Option Int→Option Int→Hp→VK→Prop):Prop:=
  ∀ (pins:List (Addr×Obj)) (s:Shared) (σ : St) (H:Hp) (x:V) (v vl vu:Value) (lo hi:Option Int) (sl:Addr) (Q:VK),Inv X pins σ H s→RelV x v→s.heap.IsSliceOf sl vl vu .none→IsPart vl lo→IsPart vu hi→r x lo hi H Q→
    ∃ T id,typeLookup (.type T) "__getitem__" = pure (some (.builtin id))∧s.TypeIs v T∧wpAny (model X.prog X.w) X.A (getItem v (.ref sl)) (EP X pins σ Q) X.xe s
theorem SlR.or {r r':V→Option Int→Option Int→Hp→VK→Prop} (h:SlR X r) (h':SlR X r'):SlR X (fun x lo hi H Q=>r x lo hi H Q∨r' x lo hi H Q):=by
  intro pins s σ H x v vl vu lo hi sl Q I rx hs pl pu q
  rcases q with q|q
  · exact h pins s σ H x v vl vu lo hi sl Q I rx hs pl pu q
  · exact h' pins s σ H x v vl vu lo hi sl Q I rx hs pl pu q
def tSl (r:V→Option Int→Option Int→Hp→VK→Prop) (te:TE) (tl th:TO):TE:=fun σ H Q=>te σ H fun x H1=>tl σ H1 fun l H2=>th σ H2 fun u H3=>r x l u H3 Q
theorem zi1 {r:V→Option Int→Option Int→Hp→VK→Prop} (hr:SlR X r) (he:PE X e te) (hl:PO X lo tl) (hu:PO X hi th):PE X (.Subscript e (.Slice lo hi none p2) pos) (tSl r te tl th):=by
  intro pins s σ H Q I h;refine Subscript_ (thn (he pins s σ H _ I h) fun v s1 ⟨x,H1,I1,r1,q1⟩=>?_)
  refine wpAny_Slice (thn (hl pins s1 σ H1 _ I1 q1) fun vl s2 ⟨l,H2,I2,pl,q2⟩=>thn (hu pins s2 σ H2 _ I2 q2) fun vu s3 ⟨u,H3,I3,pu,q3⟩=>?_)
  rw [evalPart_none];refine wpAny_pure ?_;have I4:Inv X pins σ H3 { s3 with heap:=s3.heap.push { cls:=.type "slice", data:=.fields #[vl,vu,.none] } }:=I3.kept (t':=s3.toks) fun b ob q=>Heap.get?_push_of_some _ q
  obtain⟨T,id,hT,ht,hg⟩:=hr pins { s3 with heap:=s3.heap.push { cls:=.type "slice", data:=.fields #[vl,vu,.none] } } σ H3 x v vl vu l u s3.heap.objs.size Q I4 r1 (Heap.IsSliceOf.new ..) pl pu q3
  show wpAny (model X.prog X.w) X.A (subscriptTail e (.Slice lo hi none p2) v (.ref s3.heap.objs.size)) (EP X pins σ Q) X.xe { s3 with heap:=s3.heap.push { cls:=.type "slice", data:=.fields #[vl,vu,.none] } }
  exact tail_any (ops:=[.ref s3.heap.objs.size,v]) ht hT hg (by with_unfolding_all rfl)
def cutV (xs:List V) (lo hi:Option Int):List V:=(xs.drop (HT.sIx xs.length 0 lo)).take (HT.sIx xs.length xs.length hi - HT.sIx xs.length 0 lo)
theorem zdh (xs:List V) (lo hi:Option Int):(cutV xs lo hi).length≤xs.length:=by
  unfold cutV;rw [List.length_take,List.length_drop]
  omega
end
def ixN (n:Nat) (i:Int):Option Nat:=if 0≤i then(if i<n then some i.toNat else none) else if -(n:Int)≤i then some (i+n).toNat else none
def atI {α : Type} (xs:List α) (i:Int):Option α:=(ixN xs.length i).bind fun j=>xs[j]?
theorem zb4 {n:Nat} {i:Int} {j:Nat} (h:ixN n i=some j):seqIndex? i n=some j∧j<n∧-(n:Int)≤i∧i<n:=by
  unfold ixN at h
  by_cases h0:0≤i
  · rw [if_pos h0] at h
    by_cases h1:i<n
    · rw [if_pos h1] at h
      have e:i.toNat=j:=Option.some.inj h;exact⟨by rw [seqIndex_of h0 h1,e],by omega,by omega,h1⟩
    · rw [if_neg h1] at h;cases h
  · rw [if_neg h0] at h
    by_cases h1:-(n:Int)≤i
    · rw [if_pos h1] at h
      have e:(i+n).toNat=j:=Option.some.inj h;exact⟨by rw [seqIndex_neg (by omega) h1,e],by omega,h1,by omega⟩
    · rw [if_neg h1] at h;cases h
theorem zav {α : Type} {xs:List α} {i:Int} {v:α} (h:atI xs i=some v):∃ j,seqIndex? i xs.length=some j∧xs[j]?=some v∧j<xs.length∧-(xs.length:Int)≤i∧i<xs.length:=by
  unfold atI at h;cases e:ixN xs.length i with
  | none=>rw [e] at h;cases h
  | some j=>
    rw [e] at h;obtain⟨h1,h2,h3,h4⟩:=zb4 e;exact⟨j,h1,h,h2,h3,h4⟩
theorem ZR {α : Type} {xs:List α} {j:Nat} {v:α} (h:xs[j]?=some v):atI xs (j:Int)=some v:=by
  have hj:j<xs.length:=(List.getElem?_eq_some_iff.mp h).1;have e:ixN xs.length (j:Int)=some j:=by
    unfold ixN;rw [if_pos (by omega),if_pos (by omega)];simp
  unfold atI;rw [e];exact h
theorem zcC {α : Type} (xs:List α) (v:α):atI (xs++[v]) (-1)=some v:=by
  have hl:(xs++[v]).length=xs.length+1:=by simp
  have e:ixN (xs++[v]).length (-1)=some xs.length:=by
    unfold ixN;rw [hl,if_neg (by decide),if_pos (by omega)]
    congr 1
    omega
  unfold atI;rw [e];show(xs++[v])[xs.length]?=some v
  simp
def zc0 (b:Expr):Prop:=∀ o i,subscripted b false o i=operate [o,i] (getItem o i)
def IxR (X:Cx) (r:R2):Prop:=
  ∀ (value slice:Expr) (pins:List (Addr×Obj)) (s:Shared) (σ : St) (H:Hp) (x y:V) (v u:Value) (Q:VK),Inv X pins σ H s→RelV x v→RelV y u→r x y H Q→
    subscripted slice false v u=operate [v,u] (getItem v u)→wpAny (model X.prog X.w) X.A (subscriptTail value slice v u) (EP X pins σ Q) X.xe s
def MtR (X:Cx) (id:String) (r:V→List V→Hp→VK→Prop):Prop:=
  ∀ (pins:List (Addr×Obj)) (s:Shared) (σ : St) (H:Hp) (x:V) (xs:List V) (v:Value) (us:List Value) (Q:VK),Inv X pins σ H s→RelV x v→Vals xs us→r x xs H Q→
    wpAny (model X.prog X.w) X.A (call (.builtin id) (v::us)) (EP X pins σ Q) X.xe s
section
variable {X:Cx} {a b:Expr} {ta tb:TE} {pos:Pos}
theorem IxR.or {r r':R2} (h:IxR X r) (h':IxR X r'):IxR X (fun x y H Q=>r x y H Q∨r' x y H Q):=by
  intro value slice pins s σ H x y v u Q I rx ry q hs
  rcases q with q|q
  · exact h value slice pins s σ H x y v u Q I rx ry q hs
  · exact h' value slice pins s σ H x y v u Q I rx ry q hs
theorem MtR.or {id:String} {r r':V→List V→Hp→VK→Prop} (h:MtR X id r) (h':MtR X id r'):MtR X id (fun x xs H Q=>r x xs H Q∨r' x xs H Q):=by
  intro pins s σ H x xs v us Q I rx rs q
  rcases q with q|q
  · exact h pins s σ H x xs v us Q I rx rs q
  · exact h' pins s σ H x xs v us Q I rx rs q
theorem zg1 {r:R2} (hr:IxR X r) (ha:PE X a ta) (hb:PE X b tb) (hs:zc0 b):PE X (.Subscript a b pos) (tOp r ta tb):=by
  intro pins s σ H Q I h;exact Subscript_ (binT ha hb I h fun v u s2 x y H2 I2 rx ry q=>hr a b pins s2 σ H2 x y v u Q I2 rx ry q (hs _ _))
def rIxL (K:PySem.W.Frag):R2:=fun x y H Q=>∃ p xs i v,x=.ref p∧y=.int i∧SqL K H p xs∧atI xs i=some v∧Q v H
def rIxT (K:PySem.W.Frag):R2:=fun x y H Q=>∃ p xs i v,x=.ref p∧y=.int i∧SqT K H p xs∧atI xs i=some v∧Q v H
def rIxS:R2:=fun x y H Q=>∃ z i c,x=.str z∧y=.int i∧z.length≤sizeLine∧atI z.cps.toList i=some c∧Q (.str ⟨#[c]⟩) H
theorem zjg:IxR X (rIxL X.K):=by
  intro value slice pins s σ H x y v u Q I rx ry h hs;obtain⟨p,xs,i,z,rfl,rfl,hq,he,q⟩:=h;cases rx;obtain⟨t,rfl⟩:=ry;obtain⟨its,r,pl,hz⟩:=I.list hq;obtain⟨j,h1,h2,h3,h4,h5⟩:=zav he;obtain⟨w,ew,rw'⟩:=r.get h2;have hl:=r.length;have hn:=jw;have fin:EP X pins σ Q w s:=⟨z,H,I,rw',q⟩
  by_cases h0:0≤i
  · have hj:i.toNat=j:=by
      rw [seqIndex_of h0 h5] at h1;exact Option.some.inj h1
    exact item_listR pl.isList h0 (by omega) (by rw [hj];simpa using ew) fin hs
  · have hj:(i+(its.toArray.size:Int)).toNat=j:=by
      rw [seqIndex_neg (by omega) h4] at h1
      rw [List.size_toArray,←hl];exact Option.some.inj h1
    exact subscriptTail_builtinR (x:=w) pl.isList.typeIs slot_list_getitem.lookup
      (wpAny_getItem_list_neg (Q:=fun r s'=>r=w∧EP X pins σ Q r s') pl.isList (by omega) (by rw [List.size_toArray]<;>omega) (by omega) (by rw [hj];simpa using ew) ⟨rfl,fin⟩) hs
theorem zf9:IxR X (rIxT X.K):=by
  intro value slice pins s σ H x y v u Q I rx ry h hs;obtain⟨p,xs,i,z,rfl,rfl,hq,he,q⟩:=h;cases rx;obtain⟨t,rfl⟩:=ry;obtain⟨its,r,pl,hz⟩:=I.tuple hq;obtain⟨j,h1,h2,h3,h4,h5⟩:=zav he;obtain⟨w,ew,rw'⟩:=r.get h2;have hl:=r.length;have hn:=jw;have fin:EP X pins σ Q w s:=⟨z,H,I,rw',q⟩;exact subscriptTail_builtinR (x:=w) pl.typeIs slot_tuple_getitem.lookup
    (getItem_tuple (j:=j) (Q:=fun r s'=>r=w∧EP X pins σ Q r s') pl (by omega) (by omega) (by rw [List.size_toArray,←hl];exact h1) (by simpa using ew) ⟨rfl,fin⟩) hs
theorem zdm:IxR X rIxS:=by
  intro value slice pins s σ H x y v u Q I rx ry h hs;obtain⟨z,i,c,rfl,rfl,hz,he,q⟩:=h;obtain⟨t,rfl⟩:=rx;obtain⟨t',rfl⟩:=ry;obtain⟨j,h1,h2,h3,h4,h5⟩:=zav he;have hl:z.cps.toList.length=z.length:=by simp [Str.length]
  rw [hl] at h1 h4 h5;have hn:=jw;exact tail_any (typeIs_str s z t) slot_str_getitem.lookup (getItem_str (c:=c) (by
    have e1:decide (i < -(2 ^ 63:Int))=false:=decide_eq_false (by omega)
    have e2:decide (i≥2 ^ 63)=false:=decide_eq_false (by omega)
    rw [e1,e2,Bool.or_false]) (by rw [h1];simpa using h2) ⟨.str ⟨#[c]⟩,H,I.tok _,⟨_,rfl⟩,q⟩) hs
def rIx (K:PySem.W.Frag):R2:=fun x y H Q=>rIxL K x y H Q∨rIxT K x y H Q∨rIxS x y H Q
theorem zdv:IxR X (rIx X.K):=zjg.or (zf9.or zdm)
theorem zgk (its:List Value) (n j:Nat) (u:Value):Obj.mapSeq (·.setIfInBounds j u) { cls:=.type "list", data:=.seq its.toArray n } = { cls:=.type "list", data:=.seq (its.set j u).toArray n }:=by
  simp [Obj.mapSeq]
theorem Inv.lst {pins:List (Addr×Obj)} {σ : St} {H:Hp} {s:Shared} {p:Addr} {xs:List V} (I:Inv X pins σ H s) (h:H p=some (.lst xs)) :
    ∃ (its:List Value) (n:Nat),Vals xs its∧s.heap.get? p=some { cls:=.type "list", data:=.seq its.toArray n }∧xs.length≤sizeLine:=by
  obtain⟨z,its,n,r,e⟩:=I.hok p _ h;exact⟨its,n,r,e,z⟩
theorem Inv.lstUpd {pins:List (Addr×Obj)} {σ : St} {H:Hp} {s:Shared} {p:Addr} {xs ys:List V} {its its':List Value} {n n':Nat} {f:Obj→Obj} (I:Inv X pins σ H s) (h:H p=some (.lst xs))
    (ho:s.heap.get? p=some { cls:=.type "list", data:=.seq its.toArray n }) (hf:f { cls:=.type "list", data:=.seq its.toArray n } = { cls:=.type "list", data:=.seq its'.toArray n' }) (r:Vals ys its') (hz:ys.length≤sizeLine) (t:Nat) :
    Inv X pins σ (upd H p (.lst ys)) { s with heap:=s.heap.update p f,toks:=t }:=by
  have e:(s.heap.update p f).get? p=some { cls:=.type "list", data:=.seq its'.toArray n' }:=by
    rw [Heap.get?_update_self f ho (by rw [hf]<;>rfl),hf]
  refine I.write (x:=p) (e:=p) (by rw [h];trivial) (.inl rfl) (fun b u hb q=>(Heap.get?_update_other _ _ (Ne.symm hb)).trans q) ⟨_,e⟩ ?_
  exact⟨hz,its',n',r,e⟩
def rSetL:V→V→V→Hp→(Hp→Prop)→Prop:=fun o i v H Q=>∃ p xs k j,o=.ref p∧i=.int k∧H p=some (.lst xs)∧ixN xs.length k=some j∧Q (upd H p (.lst (xs.set j v)))
theorem zck:PSet X rSetL:=by
  intro pins s σ H o i v ov iv u Q I ro ri rv h;obtain⟨p,xs,k,j,rfl,rfl,hp,hj,q⟩:=h;cases ro;obtain⟨t,rfl⟩:=ri;obtain⟨its,n,r,ho,hz⟩:=I.lst hp;obtain⟨h1,h2,h3,h4⟩:=zb4 hj;have hl:=r.length;have hn:=jw;have I':Inv X pins σ (upd H p (.lst (xs.set j v))) { s with heap:=s.heap.update p (Obj.mapSeq (·.setIfInBounds j u)) }:=
    I.lstUpd hp ho (zgk its n j u) (r.set rv j) (by rw [List.length_set];exact hz) s.toks
  by_cases h0:0≤k
  · have hk:k.toNat=j:=by
      rw [seqIndex_of h0 h4] at h1;exact Option.some.inj h1
    exact PySem.W.ki_setAt ho h0 (by omega) (by rw [List.size_toArray,←hl];exact h4) (by rw [hk];exact⟨_,I',q⟩)
  · have hk:(k+(its.toArray.size:Int)).toNat=j:=by
      rw [seqIndex_neg (by omega) h3] at h1
      rw [List.size_toArray,←hl];exact Option.some.inj h1
    exact PySem.W.ki_setBack ho (by omega) (by rw [List.size_toArray,←hl];exact h3) (by omega) (by rw [hk];exact⟨_,I',q⟩)
theorem zfs (lo hi:Option Int) (n:Nat):(sliceBounds lo hi none n).1=((HT.sIx n 0 lo:Nat):Int)∧(sliceBounds lo hi none n).2.1=((HT.sIx n n hi:Nat):Int)∧(sliceBounds lo hi none n).2.2=1:=by
  refine⟨?_,?_,rfl⟩
  · cases lo with
    | none=>simp [sliceBounds,HT.sIx]
    | some i=>
      simp only [sliceBounds,HT.sIx,Option.getD_none,show(1:Int) > 0 by decide,if_true]
      by_cases h:i<0
      · simp only [h,if_true]<;>omega
      · simp only [h,if_false]<;>omega
  · cases hi with
    | none=>simp [sliceBounds,HT.sIx]
    | some i=>
      simp only [sliceBounds,HT.sIx,Option.getD_none,show(1:Int) > 0 by decide,if_true]
      by_cases h:i<0
      · simp only [h,if_true]<;>omega
      · simp only [h,if_false]<;>omega
theorem zhl (its:List Value) (lo hi:Option Int):slicePick its.toArray lo hi none=((its.drop (HT.sIx its.length 0 lo)).take (HT.sIx its.length its.length hi - HT.sIx its.length 0 lo)).toArray:=by
  obtain⟨h1,h2,h3⟩:=zfs lo hi its.toArray.size;unfold slicePick;rw [h1,h2,h3];simp only [sliceRange_one,pick_run,List.size_toArray]<;>rfl
def rSlL (K:PySem.W.Frag):V→Option Int→Option Int→Hp→VK→Prop:=fun x lo hi H Q=>∃ a xs,x=.ref a∧SqL K H a xs∧∀ p,H p=none→Q (.ref p) (upd H p (.lst (cutV xs lo hi)))
theorem zeC:SlR X (rSlL X.K):=by
  intro pins s σ H x v vl vu lo hi sl Q I rx hs pl pu h;obtain⟨a,xs,rfl,hx,q⟩:=h;cases rx;obtain⟨its,r,ht,hz⟩:=I.list hx;have hlen:=r.length;refine⟨"list", _,slot_list_getitem.lookup,ht.isList.typeIs,?_⟩;refine wpAny_getItem_list_slice ht.isList hs pl pu .none (by simp) ?_ (by rw [List.size_toArray]<;>omega)
  rw [zhl,←hlen];refine⟨.ref s.heap.objs.size,_,I.laid (t':=s.toks) (o:=.lst (cutV xs lo hi)) (fun b ob q=>Heap.get?_push_of_some _ q) (Nat.le_refl _) ?_,rfl,q _ (I.hok.fresh (Nat.le_refl _))⟩
  exact⟨Nat.le_trans (zdh xs lo hi) hz,_,0,(r.drop (HT.sIx xs.length 0 lo)).take (HT.sIx xs.length xs.length hi - HT.sIx xs.length 0 lo),Heap.get?_push_size _ rfl⟩
theorem zjq:zG X (.builtin "len") (fun xs H Q=>∃ p ys,xs=[.ref p]∧(SqL X.K H p ys∨SqT X.K H p ys)∧Q (.int ys.length) H):=by
  intro pins s σ H xs us Q I r h;obtain⟨p,ys,rfl,hq,q⟩:=h;obtain⟨u,rfl,rx⟩:=jS r;cases rx;have hn:=jw
  rcases hq with hq|hq
  · obtain⟨its,r',pl,hz⟩:=I.list hq
    have hlen:=r'.length;exact Calls.call_len_list pl.isList (by simp only [List.size_toArray]<;>omega) ⟨.int ys.length,H,I.tok _,⟨s.toks+1,by rw [List.size_toArray,hlen]⟩,q⟩
  · obtain⟨its,r',pl,hz⟩:=I.tuple hq
    have hlen:=r'.length;exact len_tuple pl (by simp only [List.size_toArray]<;>omega) ⟨.int ys.length,H,I.tok _,⟨s.toks+1,by rw [List.size_toArray,hlen]⟩,q⟩
theorem zdV:zG X (.builtin "len") (fun xs H Q=>∃ z,xs=[.str z]∧z.length≤sizeLine∧Q (.int z.length) H):=by
  intro pins s σ H xs us Q I r h;obtain⟨z,rfl,hz,q⟩:=h;obtain⟨u,rfl,t,rfl⟩:=jS r;have hn:=jw;exact len_str (by omega) ⟨.int z.length,H,I.tok _,⟨_,rfl⟩,q⟩
theorem zG.or {f:Value} {r r':List V→Hp→VK→Prop} (h:zG X f r) (h':zG X f r'):zG X f (fun xs H Q=>r xs H Q∨r' xs H Q):=by
  intro pins s σ H xs us Q I rs q
  rcases q with q|q
  · exact h pins s σ H xs us Q I rs q
  · exact h' pins s σ H xs us Q I rs q
theorem zho:zG X (.type "list") (fun xs H Q=>∃ p ys,xs=[.ref p]∧(SqL X.K H p ys∨SqT X.K H p ys)∧∀ l,H l=none→Q (.ref l) (upd H l (.lst ys))):=by
  intro pins s σ H xs us Q I r h;obtain⟨p,ys,rfl,hq,q⟩:=h;obtain⟨u,rfl,rx⟩:=jS r;cases rx;have fin:∀ (its:List Value),Vals ys its→ys.length≤sizeLine→∀ (h':Heap) (c':Nat),(∀ b o',s.heap.get? b=some o'→h'.get? b=some o')→
      h'.get? s.heap.objs.size=some { cls:=.type "list", dict:=none,data:=.seq its.toArray c',slots:=#[] }→EP X pins σ Q (.ref s.heap.objs.size) { s with heap:=h' }:=fun its r' hz h' c' kp e=>
    ⟨.ref s.heap.objs.size,_,I.laid (t':=s.toks) kp (Nat.le_refl _) (show zX X.prog X.w _ h' _ (.lst ys) from⟨hz,its,c',r',e⟩),rfl,q _ (I.hok.fresh (Nat.le_refl _))⟩
  rcases hq with hq|hq
  · obtain⟨its,r',pl,hz⟩:=I.list hq
    have hlen:=r'.length;obtain⟨o,ho,hc,n,hd⟩:=pl.isList;exact call_list_seq p (.inl rfl) ho hc hd (fun h' c' kp e=>fin its r' hz h' c' kp e) (by simp only [List.size_toArray]<;>omega)
  · obtain⟨its,r',pl,hz⟩:=I.tuple hq
    have hlen:=r'.length;obtain⟨o,ho,hc,n,hd⟩:=pl;exact call_list_seq p (.inr rfl) ho hc hd (fun h' c' kp e=>fin its r' hz h' c' kp e) (by simp only [List.size_toArray]<;>omega)
def tyV (K:PySem.W.Frag) (T:String) (x:V) (H:Hp):Prop:=match x with
  | .str _=>T = "str"
  | .int _=>T = "int"
  | .ref p => (T = "list" ∧ ∃ xs, SqL K H p xs) ∨ (T = "tuple" ∧ ∃ o, K.lookup p = some o ∧ o.cls = .type "tuple" ∧ o.dict = none) ∨
      (T = "dict"∧((∃ kvs,H p=some (.dK kvs))∨∃ kvs,H p=some (.dT kvs)))∨(T = "set"∧∃ S n,H p=some (.set S n))
  | _=>False
theorem zec {pins:List (Addr×Obj)} {σ : St} {H:Hp} {s:Shared} {T:String} {x:V} {v:Value} (I:Inv X pins σ H s) (r:RelV x v) (ty:tyV X.K T x H) :
    s.TypeIs v T∧∀ a,v=.ref a→∃ ob,s.heap.get? a=some ob∧ob.dict=none:=by
  cases x with
  | str z=>
    obtain⟨t,rfl⟩:=r;cases(show T = "str" from ty)
    exact⟨typeIs_str s z t,fun _ e=>nomatch e⟩
  | int i=>
    obtain⟨t,rfl⟩:=r;cases(show T = "int" from ty)
    exact⟨typeIs_int s i t,fun _ e=>nomatch e⟩
  | ref p=>
    cases r
    rcases ty with ⟨rfl,xs,hq⟩|⟨rfl,o,hk,hc,hd⟩|⟨rfl,hk⟩|⟨rfl,S,n,hk⟩
    · obtain⟨its,_,pl,_⟩:=I.list hq
      refine⟨pl.isList.typeIs,fun a e=>?_⟩
      cases e;obtain⟨o,n,e,c,hd,_⟩:=pl
      exact⟨o,e,hd⟩
    · refine⟨⟨o,I.kIn p o hk,hc⟩,fun a e=>?_⟩
      cases e;exact⟨o,I.kIn _ o hk,hd⟩
    · have z:∃ o,s.heap.get? p=some o∧o.ExactDict:=by
        rcases hk with ⟨kvs,hk⟩|⟨kvs,hk⟩
        · obtain⟨_,_,_,_,o,_,_,e,ex,_⟩:=I.hok p _ hk
          exact⟨o,e,ex⟩
        · obtain⟨_,_,_,_,o,_,_,e,ex,_⟩:=I.hok p _ hk
          exact⟨o,e,ex⟩
      obtain⟨o,e,ex⟩:=z;refine⟨⟨o,e,ex.1⟩,fun a e2=>?_⟩
      cases e2;exact⟨o,e,ex.2.1⟩
    · obtain⟨o,_,_,_,e,ex,_⟩:=I.hok p _ hk
      refine⟨⟨o,e,ex.1⟩,fun a e2=>?_⟩
      cases e2;exact⟨o,e,ex.2.1⟩
  | _=>exact False.elim ty
def tBM (K:PySem.W.Frag) (T:String) (r:V→List V→Hp→VK→Prop) (to:TE) (t:TA):TE:=fun σ H Q=>to σ H fun x H1=>tyV K T x H1∧t σ H1 fun xs H2=>r x xs H2 Q
variable {o e:Expr} {es:List Expr} {to:TE} {t:TA} {name:Str} {apos cpos:Pos} {T id:String} {r:V→List V→Hp→VK→Prop}
theorem ZQ (pa:PlainAttrs T) (slot:Slot T name id) (hty:typeOf (.builtin id)=pure (.type "method_descriptor")) (hm:MtR X id r) (ho:PE X o to) (ha:PA X (e::es) t)
    (hbase:attributeBase o name X.env (eval o X.env)=eval o X.env:=by rfl)
    (hfew:((backTo cpos (starEach (e::es) X.env)).all (fun x=>!x.1)&&(backToKw cpos (keywordEach [] X.env)).all (fun x=>x.1.isSome)
      && decide ((e::es).length+([]:List Keyword).length+(if([]:List Keyword).isEmpty then 0 else 1)<30))=true:=by rfl)
    (hline:(apos.endLine==cpos.line)=true:=by rfl) (hs:starEach (e::es) X.env=(false,eval e X.env)::starEach es X.env:=by rfl) (hplain:(backTo cpos (starEach es X.env)).any (·.1)=false:=by rfl) :
    PE X (.Call (.Attribute o name apos) (e::es) [] cpos) (tBM X.K T r to t):=by
  intro pins s σ H Q I h;refine wpAny_Call_method_late hbase hfew hline rfl (thn (ho pins s σ H _ I h) fun v s1 ⟨x,H1,I1,r1,ty,q1⟩=>?_)
  obtain⟨h1,h2⟩:=zec I1 r1 ty;refine⟨T,id,pa,slot,hty,h1,h2,?_⟩;have hA:=ha cpos pins s1 σ H1 _ I1 q1;rw [hs] at hA ⊢;refine Calls.callWith_builtin (by show(false||(backTo cpos (starEach es X.env)).any (·.1))=false;rw [hplain]<;>rfl) (Calls.evalArgs_plain ?_)
  exact thn hA fun us s2 ⟨vs,H2,I2,r2,q2⟩=>hm pins s2 σ H2 x vs v us Q I2 r1 r2 q2
end
def MtM (X:Cx) (id:String) (r:V→List V→Hp→VK→Prop):Prop:=
  ∀ (pins:List (Addr×Obj)) (s:Shared) (σ : St) (H:Hp) (x:V) (xs:List V) (v:Value) (us:List Value) (Q:VK),Inv X pins σ H s→RelV x v→Vals xs us→r x xs H Q→
    wpAny (model X.prog X.w) X.A (call (.builtin id) (v::us)) (EP X pins σ Q) X.xe s
theorem Vals.one:∀ {x:V} {us:List Value},Vals [x] us→∃ u,us=[u]∧RelV x u
  | _,_,.cons r .nil=>⟨_,rfl,r⟩
theorem Vals.zero:∀ {us:List Value},Vals [] us→us=[]
  | _,.nil=>rfl
theorem Vals.eraseIdx:∀ {xs:List V} {us:List Value} (i:Nat),Vals xs us→Vals (xs.eraseIdx i) (us.eraseIdx i)
  | _,_,_,.nil=>.nil
  | _,_,0,.cons _ t=>t
  | _,_,i+1,.cons r t=>.cons r (Vals.eraseIdx i t)
theorem Vals.rep {xs:List V} {us:List Value} (h:Vals xs us):∀ k:Nat,Vals (List.replicate k xs).flatten (List.replicate k us).flatten
  | 0=>.nil
  | k + 1 => by
    rw [List.replicate_succ,List.replicate_succ,List.flatten_cons,List.flatten_cons];exact Vals.append h (Vals.rep h k)
theorem zbC (its:List Value):∀ (k:Nat) (acc:List Value),
    List.foldl (fun x1 x2=>x1++x2) acc.toArray (List.replicate k its.toArray)=(acc++(List.replicate k its).flatten).toArray
  | 0,acc=>by simp
  | k + 1, acc => by
    have e:acc.toArray++its.toArray=(acc++its).toArray:=by simp
    have e2:(acc++its)++(List.replicate k its).flatten=acc++(List.replicate (k+1) its).flatten:=by
      rw [List.replicate_succ,List.flatten_cons,List.append_assoc]
    rw [←e2,←zbC its k (acc++its),←e,List.replicate_succ,List.foldl_cons]
section
variable {X:Cx} {pins:List (Addr×Obj)} {σ : St} {H:Hp} {s:Shared} {l b:Addr} {xs ys zs:List V}
theorem Inv.lset {its its':List Value} {n:Nat} {f:Array Value→Array Value} {t':Nat} (I:Inv X pins σ H s) (hH:H l=some (.lst xs))
    (e:s.heap.get? l=some { cls:=.type "list", data:=.seq its.toArray n }) (hf:f its.toArray=its'.toArray) (hv:Vals ys its') (hz:ys.length≤sizeLine) :
    Inv X pins σ (upd H l (.lst ys)) { s with heap:=s.heap.update l (Obj.mapSeq f),toks:=t' }:=by
  have q:=PySem.IsL.update e f;rw [hf] at q;refine I.write (x:=l) (e:=l) (by rw [hH];exact trivial) (.inl rfl) (fun b' u hb hu=>(Heap.get?_update_other s.heap (Obj.mapSeq f) (Ne.symm hb)).trans hu) ⟨_,q⟩ ?_
  exact⟨hz,its',_,hv,q⟩
theorem Inv.lnew {its:List Value} {t':Nat} (I:Inv X pins σ H s) (hv:Vals ys its) (hz:ys.length≤sizeLine) :
    Inv X pins σ (upd H s.heap.objs.size (.lst ys)) { s with heap:=s.heap.push { cls:=.type "list", data:=.seq its.toArray },toks:=t' }:=
  I.laid (fun _ _ q=>Heap.get?_push_of_some _ q) (Nat.le_refl _) ⟨hz,its,0,hv,Heap.get?_push_size _ rfl⟩
theorem Inv.fresh (I:Inv X pins σ H s):H s.heap.objs.size=none:=I.hok.fresh (Nat.le_refl _)
theorem Inv.lstM (I:Inv X pins σ H s) (hH:H l=some (.lst xs)):xs.length≤sizeLine∧∃ (its:List Value) (n:Nat),Vals xs its∧xs.length=its.length∧s.heap.get? l=some { cls:=.type "list", data:=.seq its.toArray n }:=by
  obtain⟨z,its,n,r,e⟩:=I.hok l _ hH;exact⟨z,its,n,r,r.length,e⟩
theorem zcQ {n:Nat} (h:n≤sizeLine):Builtin.List.listTooLong n=false:=by
  unfold Builtin.List.listTooLong;exact decide_eq_false (by omega)
end
section
variable {X:Cx}
def rAppend:V→List V→Hp→VK→Prop:=fun x vs H Q=>∃ l xs y,x=.ref l∧vs=[y]∧H l=some (.lst xs)∧xs.length<sizeLine∧Q .non (upd H l (.lst (xs++[y])))
theorem zbZ:MtM X "list.append" rAppend:=by
  intro pins s σ H x vs v us Q I rx rv h;obtain⟨l,xs,y,rfl,rfl,hH,hz,q⟩:=h;cases rx;obtain⟨u,rfl,ru⟩:=rv.one;obtain⟨z,its,n,r,hl,e⟩:=I.lstM hH;refine call_meets F.slot_list_append ⟨_,e,rfl⟩ F.entry_list_append (F.args_list_append_2 _ _) (PySem.list_append l its.toArray n u (by rw [List.size_toArray];omega)) ⟨e,?_⟩
  refine⟨.non,_,I.lset (its':=its++[u]) hH e (by simp) (r.append (.cons ru .nil)) ?_,rfl,q⟩
  rw [List.length_append,List.length_singleton]
  omega
def rExtend:V→List V→Hp→VK→Prop:=fun x vs H Q=>∃ l b xs zs,x=.ref l∧vs=[.ref b]∧H l=some (.lst xs)∧H b=some (.lst zs)∧xs.length+zs.length≤sizeLine∧Q .non (upd H l (.lst (xs++zs)))
theorem zeD:MtM X "list.extend" rExtend:=by
  intro pins s σ H x vs v us Q I rx rv h;obtain⟨l,b,xs,zs,rfl,rfl,hH,hB,hz,q⟩:=h;cases rx;obtain⟨u,rfl,ru⟩:=rv.one;cases ru;obtain⟨z,its,n,r,hl,e⟩:=I.lstM hH;obtain⟨z2,its2,n2,r2,hl2,e2⟩:=I.lstM hB;have hsz:its.toArray.size+its2.toArray.size≤sizeLine:=by rw [List.size_toArray,List.size_toArray];omega
  have hlong:¬(!its.toArray.isEmpty&&Builtin.List.listTooLong (its.toArray.size+its2.toArray.size))=true:=by
    rw [zcQ hsz,Bool.and_false];exact Bool.false_ne_true
  refine call_meets F.slot_list_extend ⟨_,e,rfl⟩ F.entry_list_extend (F.args_list_extend_2 _ _)
    (AutoSeq1.list_extend_list_list_0 l its.toArray n b its2.toArray n2 hlong (by rw [List.size_toArray];omega) (by omega)) ⟨e,e2,?_⟩
  refine⟨.non,_,I.lset (its':=its++its2) hH e (by simp) (r.append r2) ?_,rfl,q⟩
  rw [List.length_append]
  omega
def rRep:R2:=fun x y H Q=>∃ l k xs,x=.ref l∧y=.int k∧H l=some (.lst xs)∧-(2 ^ 63)≤k∧k<2 ^ 63∧xs.length*k.toNat≤sizeLine∧
  ∀ p,H p=none→Q (.ref p) (upd H p (.lst (List.replicate k.toNat xs).flatten))
theorem zg2 {α : Type} (xs:List α) (k:Nat):(List.replicate k xs).flatten.length=k*xs.length:=by
  induction k with
  | zero=>simp
  | succ k ih=>rw [List.replicate_succ,List.flatten_cons,List.length_append,ih,Nat.succ_mul,Nat.add_comm]
theorem zhz:OpR X (binaryOp .Mult) rRep:=by
  intro pins s σ H x y v u Q I rx ry h;obtain⟨l,k,xs,rfl,rfl,hH,h1,h2,hz,q⟩:=h;cases rx;obtain⟨t,rfl⟩:=ry;obtain⟨z,its,n,r,hl,e⟩:=I.lstM hH;have hlen:its.toArray.size*k.toNat≤sizeLine:=by rw [List.size_toArray,←hl];exact hz
  have hcap:¬its.toArray.size*k.toNat > (2 ^ 63 - 1)/8:=by
    have:(sizeLine:Nat)≤(2 ^ 63 - 1)/8:=by decide
    omega
  have hfit:¬(!Builtin.List.listFitsIndex k)=true:=by
    rw [fitsIndex_both h1 h2];exact Bool.false_ne_true
  have hlong:¬Builtin.List.listTooLong (its.toArray.size*k.toNat)=true:=by
    rw [zcQ hlen];exact Bool.false_ne_true
  have hnew:List.foldl (fun x1 x2=>x1++x2) #[] (List.replicate (if its.toArray.isEmpty=true then 0 else k.toNat) its.toArray)=(List.replicate k.toNat its).flatten.toArray:=by
    have f0:∀ m:Nat,List.foldl (fun x1 x2=>x1++x2) #[] (List.replicate m its.toArray)=(List.replicate m its).flatten.toArray:=fun m=>by
      have:=zbC its m [];rw [List.nil_append] at this;exact this
    rw [f0];cases its with
    | nil=>simp
    | cons a r'=>rw [if_neg (by simp)]
  refine wpAny_binaryOp_repeat_ref (T:="list") (U:="int") (by decide) ⟨_,e,rfl⟩ (fun s'=>typeIs_int s' k t) noFill_list_mul F.fills_int_mul F.slot_int_rmul repeat_list F.slot_int_index.lookup
    (call_meets F.slot_int_rmul (typeIs_int s k t) F.entry_int_rmul (F.args_int_rmul_2 _ _) (int___rmul___int_list k t l its.toArray n)
      ⟨e,rfl,⟨_,e,rfl⟩,call_meets F.slot_list_mul ⟨_,e,rfl⟩ F.entry_list_mul (F.args_list_mul_2 _ _) (AutoListH.list___mul___list_int_3 l its.toArray n k t hfit hcap hlong) ⟨e,?_⟩⟩)
  rw [hnew];exact⟨.ref _,_,I.lnew (t':=s.toks) (r.rep k.toNat) (by rw [zg2,Nat.mul_comm];exact hz),rfl,q _ I.fresh⟩
end
section
variable {prog:Program} {w:World} {A:Around} {E:Value→Shared→Prop} {s:Shared}
end
section
variable {X:Cx}
end
end L2
namespace Att
open PySem PySem.W PySem.Calls PyProof.Rows
theorem zjK {P:Params} {h:Heap}:∀ (ns:List Int) (vs:List Value),WellAll P h vs (ns.map WData.int)→IntsAre vs ns:=by
  intro ns
  induction ns with
  | nil=>
    intro vs w;rw [List.map_nil] at w;cases w;exact .nil
  | cons n ns ih=>
    intro vs w;rw [List.map_cons] at w;cases w with
    | cons a b=>
      cases a;exact .cons _ _ (ih _ b)
theorem zfD {l:OpenLaw} {n:Nat} (hn:l.most=some n) {P:Params} {h:Heap} {args:List WData} {vals:List Value}
    (hpre:l.row.toRowW.claim.pre args=true) (hwl:WellAll P h vals args) :
    ∃ a vs ns,vals=[Value.ref a]∧args=[WData.list (ns.map WData.int)]∧h.get? a=some { cls:=.type "list", data:=.seq vs.toArray }∧IntsAre vs ns∧ns.length≤n:=by
  have hsh:WShape.hasAll [] args [.list .int]=true:=(pre_splitW hpre).1;have hc:l.pre.holds [] { args:=args }=true:=(pre_splitW hpre).2;obtain⟨d,r,rfl,h1,h2⟩:=hasAllW_cons hsh;obtain rfl:=hasAllW_nil h2;obtain⟨xs,rfl,h3⟩:=hasW_list h1;obtain⟨ns,rfl⟩:=items_int h3;have hlen:ns.length≤n:=by
    unfold OpenLaw.pre at hc;have h4:(WTm.not (.lt (.lit (.int (n:Int))) (.len (.arg 0)))).holds [] { args:=[.list (ns.map .int)] }=true:=by
      have h4:=(holds_andW hc).1;rw [hn] at h4;exact h4
    have h5:=condW_of h4 (w_not (w_lt w_lit (w_len_list (w_arg rfl))));rw [List.length_map] at h5;refine Nat.le_of_not_lt fun q=>?_
    have q':(n:Int)<((ns.length:Nat):Int):=by omega
    first
      | (rw [decide_eq_true q'] at h5;exact absurd h5 (by decide))
      | (simp at h5;omega)
  cases hwl with
  | cons w1 w2=>
    cases w2;cases w1 with
    | list ho hall=>exact⟨_,_,ns,rfl,rfl,ho,zjK ns _ hall,hlen⟩
theorem ziV (l:OpenLaw) (args:List WData):l.row.toRowW.claim.post args (.bool true) args=true:=
  postW_of (r:=l.row.toRowW) (X:=(true==true))
    (show WShape.has [] (.bool true) .bool=true by first|rfl|decide|simp [WShape.has,WShape.arms,WShape.armsAll])
    (show(WTm.eq .res (.lit (.bool true))).value [] { args:=args,res:=some (.bool true),after:=args }=some (.bool (true==true)) from w_eq_bool (w_res rfl) w_lit) rfl
theorem attach_call {l:OpenLaw} {n:Nat} {q:Program} {loose:List Str} {XP:(Str→Option Value)→Heap→Prop} {YP:World→Heap→Prop} {d:DefRec}
    (hn:l.most=some n) (hdf:d.params.defaults=[])
    (call:∀ (w:World) (s₀ s₁ : Shared) (mg mb:Str→Option Value) (fa:Addr) (o:Obj) (pm cd doc:Value) (a:Addr) (vs:List Value) (ns:List Int),
      Ground q loose [] XP w s₀ mg mb s₁.heap→YP w s₁.heap→
      s₁.heap.get? fa=some o→o.data=.func (docDef d.name d.params d.body d.scope pm cd doc)→s₁.heap.CodeRec cd d.name→mg d.name=some (.ref fa)→
      s₁.heap.get? a=some { cls:=.type "list", data:=.seq vs.toArray }→IntsAre vs ns→ns.length≤n→s₁.gens = #[]→
      codeAny (model l.prog w) callerA (.call (.ref fa) ⟨[.ref a],[]⟩) (fun r s'=>r=.ok (.ret (.bool true))∧OldK s₁.heap s'.heap∧s'.os=s₁.os∧AllBare s'.gens) s₁) :
    WalkO q loose XP YP l.row.toRowW d [] (fun f vs=>PySem.call f vs):=by
  intro w s₀ s₁ mg mb G Y fa o pm cd doc dV kV ho hd hcd hD hmg hg args vals as hpre hlay hrd hwl hlo;obtain rfl:dV=.none:=Dflts.none hD hdf;obtain rfl:kV=.none:=Dflts.noKw hD;obtain⟨a,vs,ns,rfl,rfl,hobj,hints,hlen⟩:=zfD hn hpre hwl;refine enter_call (codeAny_mono (call w s₀ s₁ mg mb fa o pm cd doc a vs ns G Y ho (fd_plain hd) hcd hmg hobj hints hlen hg) fun r s' hq=>?_)
  obtain⟨rfl,h2,h3,h4⟩:=hq;exact⟨.inl ⟨.bool true,.bool true,[],rfl,fun _=>rfl,.bool true,ziV l _,fun _=>⟨List.Pairwise.nil,fun _ hm=>(nomatch hm)⟩⟩,h2,h3,h4⟩
section
variable {prog:Program} {w:World} {A:Around} {E:Value→Shared→Prop} {s:Shared} {K:Frag}
end
end Att
namespace L2
open PySem PySem.Spec PyProof.Rows
theorem zcG:∀ {vs:List Value} {ns:List Int},IntsAre vs ns→Vals (ns.map V.int) vs
  | _,_,.nil=>.nil
  | _,_,.cons n t h=>.cons ⟨t,rfl⟩ (zcG h)
def Only (H:Hp):Prop:=∀ b,H b=none∨∃ o xs,H b=some (.frz o (.lst xs))
theorem zg9 {P:Program} {w:World} {K:PySem.W.Frag} {mg mb:Str→Option Value} {CX:CXT} {k:Nat} {fa a:Addr} {fd:FuncData} {x:Str} {sp:Sp} {s₁ : Shared} {vs:List Value} {ns:List Int}
    (KX:K.In s₁.heap) (hns:s₁.heap.Ns mainGlobals mg) (hb:s₁.heap.Ns builtinsNs mb) (hbb:∀ x:Str,x≠"__name__"→mb x=bootBuiltins x) (hlim:s₁.heap.NoLimit) (hg:s₁.gens = #[])
    (ha:s₁.heap.get? a=some { cls:=.type "list", data:=.seq vs.toArray }) (hi:IntsAre vs ns) (hl:ns.length≤sizeLine) (hr:Room k callerA)
    (F:∀ base:Heap,K.In base→base.Ns mainGlobals mg→FnOk P w K mg base CX k fa fd [x] sp) (hbind:∀ (s:Shared) (u:Value),BindsTo s fd ⟨[u],[]⟩ [(x,u)])
    (hsp:∀ H:Hp,Only H→SqL K H a (ns.map V.int)→sp [.ref a] H (fun v _=>v=.bl true) fun _ _ _=>False)
    (hCX:∀ H e s',CX [] H s₁ (fun _ _ _=>False) e s'→False) :
    codeAny (model P w) callerA (.call (.ref fa) ⟨[.ref a],[]⟩) (fun r s'=>r=.ok (.ret (.bool true))∧OldK s₁.heap s'.heap∧s'.os=s₁.os∧AllBare s'.gens) s₁:=by
  have rv:=zcG hi;have lenV:=hi.length;have core:∀ H:Hp,Only H→SqL K H a (ns.map V.int)→HOk P w H s₁.heap→(∀ b,H b≠none→b=a)→(H a≠none→K.lookup a=none)→
      codeAny (model P w) callerA (.call (.ref fa) ⟨[.ref a],[]⟩) (fun r s'=>r=.ok (.ret (.bool true))∧OldK s₁.heap s'.heap∧s'.os=s₁.os∧AllBare s'.gens) s₁:=by
    intro H hO hS hok hA hK;have base_of:∀ {b:Addr} {o:Obj},s₁.heap.get? b=some o→H b=none→(hidT s₁.heap H).get? b=some o:=fun e n=>ziB e n
    have noA:∀ {b:Addr} {o:Obj} {es:Array DictEntry} {ep:Nat},s₁.heap.get? b=some o→o.data=.dict es ep→H b=none:=fun {b o es ep} e d=>by
      cases q:H b with
      | none=>rfl
      | some u=>
        have e':b=a:=hA b (by rw [q];simp)
        subst e';rw [ha] at e;cases e;have d':Data.seq vs.toArray _=Data.dict es ep:=d;cases d'
    have nsK:∀ {b:Addr} {m:Str→Option Value},s₁.heap.Ns b m→(hidT s₁.heap H).Ns b m:=fun {b m} ⟨o,es,ep,e,d,r⟩=>⟨o,es,ep,base_of e (noA e d),d,r⟩
    have hKb:K.In (hidT s₁.heap H):=fun b o e=>base_of (KX b o e) (by
      cases q:H b with
      | none=>rfl
      | some u=>
        have e':b=a:=hA b (by rw [q];simp)
        subst e';rw [hK (by rw [q];simp)] at e;cases e)
    have hM:Mod K mg (hidT s₁.heap H):=⟨hKb,nsK hns,⟨mb,nsK hb,hbb⟩,let ⟨mc,h1,h2⟩:=hlim;⟨mc,nsK h1,h2⟩⟩;have e0:Env0 P w K mg (hidT s₁.heap H) callerA [] s₁ H:=⟨rfl,hM,fun b o e=>zg6 e,Nat.le_of_eq (zg3 _ _),trivial,fun b hb=>absurd (show b∈([]:List Addr) from hb) (by simp),hok,.of_eq hg⟩
    refine codeAny_mono ((F _ hKb (nsK hns)).run callerA [] s₁ H ⟨[.ref a],[]⟩ [.ref a] [.ref a] _ _ hr e0 (hbind s₁ (.ref a)) (.cons rfl .nil) (hsp H hO hS)) fun r s' h=>?_
    cases r with
    | error e=>exact(hCX H e s' h).elim
    | ok fl=>
      cases fl with
      | next=>exact False.elim h
      | brk=>exact False.elim h
      | cont=>exact False.elim h
      | ret u=>
        obtain⟨v,H',os,bare,un,hok',r',q⟩:=h;have q':v=.bl true:=q;subst q';obtain rfl:u=Value.bool true:=r';refine⟨rfl,OldK.of_keep fun b o e=>?_,os,bare⟩
        cases q:H b with
        | none=>exact un.keep b o e q (by intro z;exact absurd (show b∈([]:List Addr) from z) (by simp)) (by simp)
        | some u=>
          rcases hO b with z|⟨ob,xs,z⟩
          · rw [q] at z;cases z
          · have z2:=un.frzs b ob _ z
            obtain⟨e1,_⟩:=hok b _ z;obtain⟨e2,_⟩:=hok' b _ z2;rw [e] at e1;cases e1;exact e2
  cases hk:K.lookup a with
  | some o=>
    have e:=KX a o hk;rw [ha] at e;cases e;refine core (fun _=>none) (fun _=>.inl rfl) (.inr ⟨_,vs.toArray,_,hk,rfl,rfl,rfl,by rw [List.size_toArray,lenV];exact hl,by simpa using rv⟩) (fun b u z=>by have z':(none:Option HO)=some u:=z;cases z') (fun b z=>absurd rfl z) fun z=>absurd rfl z
  | none=>
    refine core (fun b=>if b=a then some (.frz { cls:=.type "list", data:=.seq vs.toArray } (.lst (ns.map V.int))) else none) (fun b=>?_) (.inl (.inr ⟨{ cls:=.type "list", data:=.seq vs.toArray },if_pos rfl⟩)) (fun b u z=>?_) (fun b z=>?_) fun _=>hk
    · by_cases hb:b=a
      · exact .inr ⟨_,_,if_pos hb⟩
      · exact .inl (if_neg hb)
    · by_cases hb:b=a
      · have z':=(if_pos hb).symm.trans z
        cases z';subst hb
        exact⟨ha,by rw [List.length_map];exact hl,vs,_,rv,ha⟩
      · have z':=(if_neg hb).symm.trans z
        cases z'
    · by_cases hb:b=a
      · exact hb
      · exact absurd (if_neg hb) z
theorem zgL {l:PySem.W.OpenLaw} {n k:Nat} {q:Program} {loose:List Str} {XP:(Str→Option Value)→Heap→Prop} {YP:World→Heap→Prop} {d:DefRec} {K:Params→PySem.W.Frag} {CX:World→CXT} {sp:World→Sp} {x:Str}
    (hn:l.most=some n) (hn2:n≤sizeLine) (hdf:d.params.defaults=[]) (hr:Room k callerA)
    (hY:∀ (w:World) (h:Heap),YP w h→(K w.params).In h)
    (F:∀ (w:World) (mg:Str→Option Value) (fa:Addr) (h:Heap),(K w.params).In h→h.Ns mainGlobals mg→mg d.name=some (.ref fa)→
      ∃ fd:FuncData,(∀ (s:Shared) (u:Value),BindsTo s fd ⟨[u],[]⟩ [(x,u)])∧
        ∀ base:Heap,(K w.params).In base→base.Ns mainGlobals mg→FnOk l.prog w (K w.params) mg base (CX w) k fa fd [x] (sp w))
    (hsp:∀ (w:World) (H:Hp) (a:Addr) (ns:List Int),ns.length≤n→Only H→SqL (K w.params) H a (ns.map V.int)→sp w [.ref a] H (fun v _=>v=.bl true) fun _ _ _=>False)
    (hCX:∀ (w:World) (H:Hp) (s:Shared) (e:Value) (s':Shared),CX w [] H s (fun _ _ _=>False) e s'→False) :
    PySem.W.WalkO q loose XP YP l.row.toRowW d [] (fun f vs=>PySem.call f vs):=by
  refine Att.attach_call hn hdf fun w s₀ s₁ mg mb fa o pm cd doc a vs ns G Y ho hd hcd hmg hobj hints hlen hg=>?_
  have KX:=hY w _ Y;obtain⟨fd,hb,hF⟩:=F w mg fa _ KX G.T.g hmg;exact zg9 KX G.T.g G.T.b G.T.builtins G.T.nolimit hg hobj hints (Nat.le_trans hlen hn2) hr hF hb (fun H hO hS=>hsp w H a ns hlen hO hS) fun H e s'=>hCX w H s₁ e s'
def zu (s:Stmt):Arguments:=match s with
  | .FunctionDef _ a _ _ _ _ _ _ _ _=>a
  | _=>{ posonlyargs:=[],args:=[],vararg:=none,kwonlyargs:=[],kw_defaults:=[],kwarg:=none,defaults:=[] }
def zq (s:Stmt):List Stmt:=match s with
  | .FunctionDef _ _ b _ _ _ _ _ _ _=>b
  | _=>[]
def ze (s:Stmt):Scope:=match s with
  | .FunctionDef _ _ _ _ _ _ sc _ _ _=>sc
  | _=>{ kind:=.function,names:=[],isGenerator:=false,isCoroutine:=false }
abbrev CX0:CXT:=fun _ _ _ _ _ _=>False
structure Fun (K:PySem.W.Frag) (x qual:Str) (st:Stmt) (f:Addr) (fd:FuncData):Prop where
  ex:∃ (oc:Value) (od:Option Addr) (kV doc pm:Value) (an:Option Addr) (cdv ct:Value) (osl:Array (Option Value)),
    fd=PySem.W.fnOf x qual (zu st) (zq st) (ze st) .none kV doc pm an cdv ct∧K.lookup f=some ⟨oc,od,.func fd,osl⟩∧PySem.W.codeIn K cdv qual=true
  kp:PySem.W.keepIn K (.ref f)=true
section
variable {P:Program} {w:World} {K:PySem.W.Frag} {mg:Str→Option Value} {base:Heap}
theorem Fun.ok {x qual:Str} {st:Stmt} {f:Addr} {fd:FuncData} {N ps:List Str} {k:Nat} {sp:Sp} (F:Fun K x qual st f fd) (S:FnScope N ps (ze st)) (len:∀ vs H Q E,sp vs H Q E→vs.length=ps.length)
    (hbody:∀ (cdv:Value) (A:Around) (outer:List Env) (s:Shared) (H:Hp) (vs:List V) (Q:VK) (E:XK),Room k (A.deeper (envOfC qual (ze st) s.heap.objs.size f cdv))→sp vs H Q E→
      ∃ t,PSs (cxOf CX0 P w K mg base N qual (ze st) f cdv A outer s H E).nox (zq st) t∧t { nx:=fun _ H'=>Q .non H',rt:=Q } (start N vs) H):FnOk P w K mg base CX0 (k+1) f fd ps sp:=by
  obtain⟨oc,od,kV,doc,pm,an,cdv,ct,osl,rfl,lk,hcd⟩:=F.ex;refine zcl lk hcd S len fun A outer s H vs Q E hr hsp=>?_
  obtain⟨t,h,q⟩:=hbody cdv A outer s H vs Q E hr hsp;exact⟨t,h.nox,q⟩
theorem Fun.binds {x qual:Str} {st:Stmt} {f:Addr} {fd:FuncData} {ps:List Str} (F:Fun K x qual st f fd)
    (h:∀ (kV doc pm:Value) (an:Option Addr) (cdv ct:Value) (us:List Value),us.length=ps.length→bindArgs (PySem.W.fnOf x qual (zu st) (zq st) (ze st) .none kV doc pm an cdv ct) ⟨us,[]⟩=pure (ps.zip us)):Binds K fd ps []:=by
  obtain⟨oc,od,kV,doc,pm,an,cdv,ct,osl,rfl,lk,hcd⟩:=F.ex;exact .all (h kV doc pm an cdv ct)
theorem zx {x qual:Str} {st:Stmt} {f:Addr} {oc:Value} {od an:Option Addr} {osl:Array (Option Value)} {kV doc pm cdv ct:Value} (l:K.lookup f=some ⟨oc,od,.func (PySem.W.fnOf x qual (zu st) (zq st) (ze st) .none kV doc pm an cdv ct),osl⟩)
    (c:PySem.W.codeIn K cdv qual=true) (k:PySem.W.keepIn K (.ref f)=true):Fun K x qual st f (PySem.W.fnOf x qual (zu st) (zq st) (ze st) .none kV doc pm an cdv ct):=⟨⟨oc,od,kV,doc,pm,an,cdv,ct,osl,rfl,l,c⟩,k⟩
end
section
variable {X:Cx}
end
theorem ite2 {c A B:Prop} [Decidable c] (h1:c→A) (h2:¬c→B):if c then A else B:=by
  by_cases h:c
  · rw [if_pos h]
    exact h1 h
  · rw [if_neg h]
    exact h2 h
def Same (H H':Hp):Prop:=∀ b o,H b=some o→H' b=some o
theorem Same.refl (H:Hp):Same H H:=fun _ _ h=>h
theorem Same.trans {H H1 H2:Hp} (a:Same H H1) (b:Same H1 H2):Same H H2:=fun c o h=>b c o (a c o h)
theorem Same.free {H H':Hp} (e:Same H H') {l:Addr} (h:H' l=Option.none):H l=Option.none:=by
  cases q:H l with
  | none=>rfl
  | some o=>
    rw [e l o q] at h;cases h
theorem Same.seq {K:PySem.W.Frag} {H H':Hp} {a:Addr} {xs:List V} (e:Same H H') (h:SqL K H a xs):SqL K H' a xs:=by
  rcases h with (h|⟨o,h⟩)|h
  · exact .inl (.inl (e _ _ h))
  · exact .inl (.inr ⟨o,e _ _ h⟩)
  · exact .inr h
end L2
end
set_option Elab.async false
set_option linter.all false
set_option maxRecDepth 100000
namespace L2
open PySem PySem.Spec PyProof.Rows
def Bits (k:Nat) (x:Int):Prop:=x.natAbs<2 ^ k
theorem Bits.mono {j k:Nat} {x:Int} (h:Bits j x) (hk:j≤k):Bits k x:=Nat.lt_of_lt_of_le h (Nat.pow_le_pow_right (by decide) hk)
theorem Bits.mul {j k:Nat} {x y:Int} (h:Bits j x) (h':Bits k y):Bits (j+k) (x*y):=by
  unfold Bits at *;rw [Int.natAbs_mul,Nat.pow_add];exact Nat.mul_lt_mul'' h h'
theorem Bits.neg {k:Nat} {x:Int} (h:Bits k x):Bits k (-x):=by unfold Bits at *;rw [Int.natAbs_neg];exact h
theorem Bits.add {k:Nat} {x y:Int} (h:Bits k x) (h':Bits k y):Bits (k+1) (x+y):=by
  unfold Bits at *;have:=Int.natAbs_add_le x y;rw [Nat.pow_succ];omega
theorem Bits.sub {k:Nat} {x y:Int} (h:Bits k x) (h':Bits k y):Bits (k+1) (x - y):=by
  have:=h.add h'.neg;rwa [←Int.sub_eq_add_neg] at this
theorem Bits.le {k:Nat} {x y:Int} (h:Bits k x) (hy:y.natAbs≤x.natAbs):Bits k y:=Nat.lt_of_le_of_lt hy h
theorem Bits.log2 {k:Nat} {x:Int} (h:Bits k x) (hk:0<k):x.natAbs.log2<k:=by
  rcases Nat.eq_zero_or_pos x.natAbs with h0|hp
  · rw [h0];exact hk
  · exact(Nat.log2_lt (Nat.ne_of_gt hp)).mpr h
theorem Bits.bits {k:Nat} {x:Int} (h:Bits k x):Builtin.Int.intBits x≤k:=by
  unfold Builtin.Int.intBits
  split
  · exact Nat.zero_le _
  · rename_i hx
    have hx':x.natAbs≠0:=by
      intro e;apply hx;rw [Int.natAbs_eq_zero.mp e];rfl
    exact(Nat.log2_lt hx').mpr h
theorem Bits.mulOk {j k:Nat} {x y:Int} (h:Bits j x) (h':Bits k y) (hk:j+k≤134217728):IntMulOk x y:=by
  unfold IntMulOk;have e1:=h.bits;have e2:=h'.bits;have e:Builtin.Int.intTooBig ((Builtin.Int.intBits x:Int)+(Builtin.Int.intBits y:Int))=false:=by
    unfold Builtin.Int.intTooBig;refine decide_eq_false ?_;have:(bitsLine:Nat)=134217728:=by unfold bitsLine;decide
    omega
  intro z;rw [Bool.and_eq_true] at z;have z2:=z.2;rw [e] at z2;cases z2
section
variable {X:Cx}
theorem zfr:OpR X (binaryOp .Mult) (rI IntMulOk fun i j=>.int (i*j)):=opI fun _ _ _ _ _ _ _ hc q=>mul_int q hc
def jP (i j:Int):Prop:=0≤j∧(Builtin.Int.intBits i:Int)*j≤134217728
theorem zin:OpR X (binaryOp .Pow) (rI jP fun i j=>.int (i ^ j.toNat)):=opI fun i j _ _ _ _ _ hc q=>by
  refine pow_int hc.1 ?_ q
  have e:((2:Int) ^ 27)=134217728:=by decide
  rw [e];exact hc.2
end
theorem zX.got {P:Program} {w:World} {H:Hp} {h:Heap} {a:Addr} {o:HO} (x:zX P w H h a o):∃ ob,h.get? a=some ob:=by
  cases o with
  | lst xs=>obtain⟨_,_,_,_,e⟩:=x;exact⟨_,e⟩
  | tup xs=>obtain⟨_,_,_,ob,e,_⟩:=x;exact⟨_,e⟩
  | dK kvs=>obtain⟨_,_,_,_,o,_,_,e,_⟩:=x;exact⟨_,e⟩
  | dT kvs=>obtain⟨_,_,_,_,o,_,_,e,_⟩:=x;exact⟨_,e⟩
  | set S n=>obtain⟨o,_,_,_,e,_⟩:=x;exact⟨_,e⟩
  | ins C dx fs=>obtain⟨_,_,_,e,_⟩:=x;exact⟨_,e⟩
  | own y=>obtain⟨_,e⟩:=x;exact⟨_,e⟩
  | xd fs=>obtain⟨_,⟨_,_,_,e,_⟩,_⟩:=x;exact⟨_,e⟩
  | rng lo hi=>obtain⟨_,_,_,e⟩:=x;exact⟨_,e⟩
  | frz ob u=>obtain⟨e,_⟩:=x;exact⟨_,e⟩
  | tbl ps=>exact⟨_,(show h.get? a=some _ from x)⟩
  | met f y=>exact⟨_,(show h.get? a=some _ from x)⟩
  | ext φ=>obtain⟨_,⟨_,e⟩,_⟩:=x;exact⟨_,e⟩
theorem HOk.through {P:Program} {w:World} {H:Hp} {B h h':Heap} (x:HOk P w H h) (k:B.StaysIn h) (k':B.StaysIn h') (t:∀ b o,H b=some o→∃ o',B.get? b=some o'):HOk P w H h':=fun a o e=>
  (x a o e).stay (fun b u hb q=>by
    have hB:∃ ob,B.get? b=some ob:=by
      rcases hb with z|z
      · exact t b o (z ▸ e)
      · exact t b _ z
    obtain⟨ob,hob⟩:=hB;have e1:=k b ob hob;rw [q] at e1;cases e1;exact k' b _ hob) (fun _ q=>q) fun _ _ q=>q
theorem Un.through {fs:List Addr} {H H':Hp} {B h h1 h2:Heap} (un:Un fs [] H H' h h1) (cov:∀ b o,h.get? b=some o→b∉fs→∃ o',B.get? b=some o') (k:B.StaysIn h1) (k':B.StaysIn h2)
    (fr:∀ b∈fs,∀ o,h1.get? b=some o→∃ sl,h2.get? b=some { o with slots:=sl }):Un fs [] H H' h h2 where
  keep:=fun b o q n hb hx=>by
    obtain⟨o',ho⟩:=cov b o q hb;have e:=un.keep b o q n hb hx;have e1:=k b o' ho;rw [e] at e1;cases e1;exact k' b _ ho
  slot:=fun b o q n hb hx=>by
    obtain⟨sl,e⟩:=un.slot b o q n hb hx;obtain⟨sl',e'⟩:=fr b hb _ e;exact⟨sl',e'⟩
  free:=un.free
  there:=fun b o q hx=>by
    by_cases hb:b∈fs
    · obtain⟨o',e⟩:=un.there b o q hx
      obtain⟨sl,e'⟩:=fr b hb _ e;exact⟨_,e'⟩
    · obtain⟨o',ho⟩:=cov b o q hb
      exact⟨o',k' b _ ho⟩
  tups:=un.tups
  frzs:=un.frzs
  tbls:=un.tbls
structure Fly (P:Program) (w:World) (stack:List Env) (H:Hp) (s:Shared) (ea C:Addr) (H':Hp) (s':Shared):Prop where
  os:s'.os=s.os
  bare:AllBare s'.gens
  un:Un (frs stack) [] H H' s.heap s'.heap
  hok:HOk P w H' s'.heap
  fly:∃ B a0,Heap.FlyingW B stack ea (.ref C) a0 s'.heap∧(∀ b o,s.heap.get? b=some o→b∉frs stack→∃ o',B.get? b=some o')∧(∀ b o,H' b=some o→∃ o',B.get? b=some o')
def CXR (P:Program) (w:World):CXT:=fun outer H s E e s'=>∃ ea C H',e=.ref ea∧Fly P w outer H s ea C H' s'∧E (.ref C) none H'
theorem zaZ {B h h':Heap} {l:List Env} (fr:h.FunFrames B l) (sm:h.UpToSlots h'):∀ b∈frs l,∀ o,h.get? b=some o→∃ sl,h'.get? b=some { o with slots:=sl }:=fun b hb o ho=>by
  obtain⟨_,o2,ho2,hd⟩:=fr.mem hb;rw [ho] at ho2;cases ho2;exact sm b o ho hd
section
variable {P:Program} {w:World} {K:PySem.W.Frag} {mg:Str→Option Value} {base:Heap} {N:List Str} {qual:Str} {scope:Scope} {f:Addr} {cd:Value} {A:Around} {outer:List Env} {s₀ : Shared} {H₀ : Hp} {E:XK} {CX:CXT}
theorem zbF {pins:List (Addr×Obj)} {σ : St} {H:Hp} {s:Shared} (I:Inv (cxOf CX P w K mg base N qual scope f cd A outer s₀ H₀ E) pins σ H s) {b:Addr} {o:Obj} (q:s₀.heap.get? b=some o) (hb:b∉frs outer) :
    b∉frs (cxOf CX P w K mg base N qual scope f cd A outer s₀ H₀ E).stack:=fun z=>by
  rcases List.mem_cons.mp (I.stkSub b z) with e|e
  · have h1:=Heap.lt_size q
    rw [show b=s₀.heap.objs.size from e] at h1
    exact Nat.lt_irrefl _ h1
  · exact hb e
theorem zcc {pins:List (Addr×Obj)} {σ : St} {H:Hp} {s:Shared} (I:Inv (cxOf CX P w K mg base N qual scope f cd A outer s₀ H₀ E) pins σ H s) {b:Addr} {o:Obj} (q:s₀.heap.get? b=some o):∃ o',s.heap.get? b=some o':=
  I.base.there b o q (fun z=>absurd (show b∈([]:List Addr) from z) (by simp))
theorem zi:Passes (CXR P w) (cxOf (CXR P w) P w K mg base N qual scope f cd A outer s₀ H₀ E) E:=by
  intro pins σ H s e s' I h;obtain⟨ea,C,H',rfl,F,q⟩:=h;obtain⟨B,a0,fl,cov,trk⟩:=F.fly;have J:=I.call' (ch:=[]) F.os F.un F.hok F.bare (fun b z=>absurd z (by simp))
  have cov':∀ b o,s₀.heap.get? b=some o→b∉frs outer→∃ o',B.get? b=some o':=fun b o z hb=>by
    obtain⟨o1,h1⟩:=zcc I z;exact cov b o1 h1 (zbF I z hb)
  refine wpAny_leaves_onW (base:=B) (outer:=outer) (L:=s₀.heap.objs.size) I.ok.frames rfl fl fun h' fl' sm=>?_
  have fr:=zaZ (fl.2.2.1).2.2 sm;exact⟨ea,C,H',rfl,⟨J.os,F.bare,J.base.through cov' fl.1 fl'.1 fr,F.hok.through fl.1 fl'.1 trk,B,a0,fl',cov',trk⟩,q⟩
def Flies (X:Cx) (E:XK):Prop:=∀ (pins:List (Addr×Obj)) (σ : St) (H:Hp) (s:Shared) (e C:Addr) (vs:List Value) (h1:Heap),Inv X pins σ H s→Heap.MadeExcOf s.heap h1 e (.ref C) vs→E (.ref C) none H→X.xe (.ref e) { s with heap:=h1 }
theorem z7:Flies (cxOf (CXR P w) P w K mg base N qual scope f cd A outer s₀ H₀ E) E:=by
  intro pins σ H s e C vs h1 I M q;have kB:(PySem.W.hideAll s.heap (frs (cxOf (CXR P w) P w K mg base N qual scope f cd A outer s₀ H₀ E).stack)).StaysIn s.heap:=fun b o z=>PySem.W.of_hideAll _ z
  have trk:∀ b o,H b=some o→∃ o',(PySem.W.hideAll s.heap (frs (cxOf (CXR P w) P w K mg base N qual scope f cd A outer s₀ H₀ E).stack)).get? b=some o':=fun b o z=>by
    obtain⟨ob,hob⟩:=(I.hok b o z).got;exact⟨ob,PySem.W.hideAll_get _ hob fun hm=>by rw [I.stkFree b hm] at z;cases z⟩
  have cov:∀ b o,s₀.heap.get? b=some o→b∉frs outer→∃ o',(PySem.W.hideAll s.heap (frs (cxOf (CXR P w) P w K mg base N qual scope f cd A outer s₀ H₀ E).stack)).get? b=some o':=fun b o z hb=>by
    obtain⟨o1,h1⟩:=zcc I z;exact⟨o1,PySem.W.hideAll_get _ h1 (zbF I z hb)⟩
  refine wpAny_leaves_madeW (base:=PySem.W.hideAll s.heap (frs (cxOf (CXR P w) P w K mg base N qual scope f cd A outer s₀ H₀ E).stack)) (h:=s.heap) (outer:=outer) (L:=s₀.heap.objs.size) I.ok.frames rfl kB
    (PySem.W.funFrames_hide I.stack fun env he b hb=>List.mem_filterMap.mpr ⟨env,he,hb⟩) M fun h' t fl tu bt sm=>?_
  have fr:∀ b∈frs outer,∀ o,s.heap.get? b=some o→∃ sl,h'.get? b=some { o with slots:=sl }:=fun b hb o ho=>by
    obtain⟨_,o2,ho2,hd⟩:=I.funs.mem hb;rw [ho] at ho2;cases ho2;exact sm b o (M.keeps b o ho) hd
  exact⟨e,C,H,rfl,⟨I.os,I.bare,I.base.through cov kB fl.1 fr,I.hok.through kB fl.1 trk,_,_,fl,cov,trk⟩,q⟩
end
def bmVE:List Value:=[.type "ValueError", .type "Exception", .type "BaseException", .type "object"]
theorem ze4 {K:PySem.W.Frag} {h:Heap} {C:Addr} (X:K.In h) (q:PySem.W.excIn K C bmVE "ValueError.__new__" = true) :
    ∃ bm N nm qn bs hdct sn sub ab col dd k0 k1 k2 k3 k5 mN,h.get? C=some (excClassObj nm qn C N bs bm hdct sn sub ab col dd k0 k1 k2 k3 k5 "ValueError.__new__")∧h.Ns N mN∧mN "__init__" = none∧OwnTail h bmVE bm:=by
  unfold PySem.W.excIn at q
  split at q
  · rename_i dd cdx sl ho
    split at q
    · rename_i C' bm k0 k1 k2 k3 n k5 hm hs
      rw [Bool.and_eq_true,Bool.and_eq_true,Bool.and_eq_true,Bool.and_eq_true,Bool.and_eq_true] at q;obtain⟨⟨⟨⟨⟨q1,q2⟩,q3⟩,q4⟩,q5⟩,q6⟩:=q;have e1:C'=C:=beq_iff_eq.mp q1;have e2:n = "ValueError.__new__":=beq_iff_eq.mp q2;have e6:=beq_iff_eq.mp q6;obtain⟨nm,bs,mro,ns,qn,hd,sn,sub,ab,col,del⟩:=cdx;obtain⟨l⟩:=sl;dsimp only at hm q3 q5 e6 hs;have e3:del=false:=by simpa using q3
      subst e1 e2 e3 hm hs;exact⟨bm,ns,nm,qn,bs,hd,sn,sub,ab,col,dd,k0,k1,k2,k3,k5,_,X _ _ ho,.of_isNs (PySem.W.isNs_of_in X q5),PySem.W.nsMap_none_of_in X q5 e6,PySem.W.tail_of_in X q4⟩
    · cases q
  · cases q
def zfU (C:Addr) (E:XK) (t:TA):TS:=fun _ σ H=>t σ H fun vs H1=>vs.length≤sizeLine∧E (.ref C) none H1
theorem zds {X:Cx} {x:Str} {C:Addr} {e0:Expr} {t:TA} {E:XK} {np cpos pos:Pos} (hf:Flies X E) (hc:X.calm=true) (hg:Gl X x) (hm:X.mg x=some (.ref C)) (hx:PySem.W.excIn X.K C bmVE "ValueError.__new__" = true) (ha:PA X [e0] t)
    (hdb:(x==("__debug__" : Str))=false:=by decide) (hs:starEach [e0] X.env=[(false,eval e0 X.env)]:=by rfl):PS X (.Raise (some (.Call (.Name x np) [e0] [] cpos)) none pos) (zfU C E t):=by
  intro pins s σ H D I h;obtain⟨bm,Nn,nm,q,bs,hdct,sn,sub,ab,col,dd,k0,k1,k2,k3,k5,mN,hC,hN,hni,T⟩:=ze4 I.ok.mod.kin hx;refine wpAny_Raise_call_subT (C:=C) (nm:=nm) (q:=q) (N:=Nn) (bs:=bs) (bm:=bm) (hdct:=hdct) (sn:=sn) (sub:=sub) (ab:=ab) (col:=col) (dd:=dd) (k0:=k0) (k1:=k1) (k2:=k2) (k3:=k3) (k5:=k5)
    PySem.F.excBase_ValueError (mN:=mN) (T.hasType rfl) (I.ok.hd hc) (by rw [hs];rfl) hni (ZK I hg hm ⟨rfl,?_⟩ hdb)
  have h1:=ha cpos pins s σ H _ I h;rw [hs] at h1 ⊢;refine Calls.evalArgs_plain (wpAny_mono h1 (fun us s2 z=>?_) fun _ _ z=>z)
  obtain⟨vs,H1,I1,r,z,qE⟩:=z;exact⟨rfl,by show us.length≤sizeLine;rw [←r.length];exact z,I1.bk _ _ hC,hN.keeps I1.bk,T.keeps I1.bk,fun h' e M=>hf pins σ H1 s2 e C us h' I1 M qE⟩
theorem Fun.okR {P:Program} {w:World} {K:PySem.W.Frag} {mg:Str→Option Value} {base:Heap} {x qual:Str} {st:Stmt} {f:Addr} {fd:FuncData} {N ps:List Str} {k:Nat} {sp:Sp} (F:Fun K x qual st f fd) (S:FnScope N ps (ze st)) (len:∀ vs H Q E,sp vs H Q E→vs.length=ps.length)
    (hbody:∀ (cdv:Value) (A:Around) (outer:List Env) (s:Shared) (H:Hp) (vs:List V) (Q:VK) (E:XK),Room k (A.deeper (envOfC qual (ze st) s.heap.objs.size f cdv))→sp vs H Q E→
      ∃ t,PSs (cxOf (CXR P w) P w K mg base N qual (ze st) f cdv A outer s H E) (zq st) t∧t { nx:=fun _ H'=>Q .non H',rt:=Q } (start N vs) H):FnOk P w K mg base (CXR P w) (k+1) f fd ps sp:=by
  obtain⟨oc,od,kV,doc,pm,an,cdv,ct,osl,rfl,lk,hcd⟩:=F.ex;exact zcl lk hcd S len fun A outer s H vs Q E hr hsp=>hbody cdv A outer s H vs Q E hr hsp
abbrev TX:=Ends→(Addr→Hp→Prop)→St→Hp→Prop
def XE (X:Cx) (pins:List (Addr×Obj)) (σ : St) (E:Addr→Hp→Prop) (e:Value) (s':Shared):Prop:=
  ∃ ea C H1 s1 H',e=.ref ea∧Inv X pins σ H1 s1∧Fly X.prog X.w X.stack H1 s1 ea C H' s'∧E C H'
def PX (X:Cx) (st:List Stmt) (t:TX):Prop:=
  ∀ (pins:List (Addr×Obj)) (s:Shared) (σ : St) (H:Hp) (D:Ends) (E:Addr→Hp→Prop),Inv X pins σ H s→t D E σ H→wpAny (model X.prog X.w) X.A (execs st X.env) (SP X pins D) (XE X pins σ E) s
def zcj (sp:Sp) (t:TA):TX:=fun D E σ H=>t σ H fun vs H1=>sp vs H1 (fun _ H2=>D.nx σ H2) (fun c _ H2=>∃ C,c=.ref C∧E C H2)
theorem PA.nox {X:Cx} {es:List Expr} {t:TA} (h:PA X.nox es t) (pos:Pos) {pins:List (Addr×Obj)} {s:Shared} {σ : St} {H:Hp} {Q:List V→Hp→Prop} {E:Value→Shared→Prop} (I:Inv X pins σ H s) (q:t σ H Q) :
    wpAny (model X.prog X.w) X.A (spliced (backTo pos (starEach es X.env))) (AP X pins σ Q) E s:=
  wpAny_mono (h pos pins s σ H Q (I.wish _) q) (fun us s1 ⟨vs,H1,I1,r,q1⟩=>⟨vs,H1,I1.unwish,r,q1⟩) fun _ _ z=>z.elim
theorem zig {X:Cx} {k:Nat} {f:Addr} {fd:FuncData} {ps:List Str} {sp:Sp} {x:Str} {p pos pos':Pos} {e:Expr} {es:List Expr} {t:TA} (F:FnOk X.prog X.w X.K X.mg X.base (CXR X.prog X.w) k f fd ps sp) (hr:Room k X.A) (hg:Gl X x)
    (hm:X.mg x=some (.ref f)) (hk:PySem.W.keepIn X.K (.ref f)=true) (hb:Binds X.K fd ps []) (ha:PA X.nox (e::es) t) (hdb:(x==("__debug__" : Str))=false:=by decide)
    (he:starEach (e::es) X.env=(false,eval e X.env)::starEach es X.env:=by rfl) (hpl:(backTo pos (starEach es X.env)).any (·.1)=false:=by rfl)
    (hs:swapsWith (.Call (.Name x p) (e::es) [] pos) none pos'.line X.env=pure false:=by rfl):PX X [.Expr (.Call (.Name x p) (e::es) [] pos) pos'] (zcj sp t):=by
  intro pins s σ H D E I h;refine wpAny_execs_cons (wpAny_Expr_any (wpAny_Call_Name_kw (ZK I hg hm ?_ hdb)) I.quiet hs);refine PySem.W.callWith_K (h₀:=X.base) I.ok.mod.kin hk (wpAny_mono (PA.nox ha pos I h) (fun us s1 z=>?_) fun _ _ z=>z) he hpl
  obtain⟨vs,H1,I1,r,q⟩:=z;refine⟨I1.kIn,?_⟩;have hl:us.length=ps.length:=by rw [←r.length];exact F.len _ _ _ _ q
  have hb1:BindsTo s1 fd ⟨us,[]⟩ (ps.zip us):=by
    have:=hb s1 us I1.kIn (by rw [List.append_nil];exact hl)
    rwa [List.append_nil] at this
  refine wpAny_call (codeAny_mono (F.run X.A X.stack s1 H1 ⟨us,[]⟩ us vs _ _ hr I1.env0 hb1 r q) fun r' s' hq=>?_)
  cases r' with
  | error e=>
    obtain⟨ea,C,H',rfl,F',C',e',hE⟩:=hq;cases e';exact⟨ea,C,H1,s1,H',rfl,I1,F',hE⟩
  | ok fl=>
    cases fl with
    | ret u=>
      obtain⟨v,H2,I2,_,q2⟩:=I1.after hq;exact wpAny_execs_nil ⟨σ,H2,I2,q2⟩
    | next=>exact False.elim hq
    | brk=>exact False.elim hq
    | cont=>exact False.elim hq
def xIf (c:TT) (t u:TX):TX:=fun D E σ H=>c σ H fun b H1=>if b=true then t D E σ H1 else u D E σ H1
theorem zg5 {X:Cx} {c:Expr} {a b:List Stmt} {tc:TT} {t u:TX} {pos:Pos} (hc:PT X.nox c tc) (ha:PX X a t) (hb:PX X b u):PX X [.If c a b pos] (xIf tc t u):=by
  intro pins s σ H D E I h;have fin:∀ f s1,SP X pins D f s1→(match f with|.next=>wpAny (model X.prog X.w) X.A (execs [] X.env) (SP X pins D) (XE X pins σ E) s1|f=>SP X pins D f s1):=fun f s1 q=>by
    cases f with
    | next=>exact wpAny_execs_nil q
    | ret v=>exact q
    | brk=>exact q
    | cont=>exact q
  refine wpAny_execs_cons (wpAny_If (wpAny_mono (hc pins s σ H _ (I.wish _) h) (fun d s1 z=>?_) fun _ _ z=>z.elim))
  obtain⟨H1,I1,q1⟩:=z;cases d with
  | true=>exact wpAny_mono (ha pins s1 σ H1 D E I1.unwish q1) fin fun _ _ z=>z
  | false=>exact wpAny_mono (hb pins s1 σ H1 D E I1.unwish q1) fin fun _ _ z=>z
def excO (ea C:Addr):HO:=.ext fun h=>∃ o vs,h.get? ea=some o∧o.cls=.ref C∧o.data=.fields vs
abbrev Cx.inExc (X:Cx) (ea:Addr):Cx:={ X with A:=X.A.mark (some (.ref ea)),calm:=false,xe:=fun _ _=>False }
section
variable {X:Cx} {pins:List (Addr×Obj)} {σ : St} {H:Hp} {s:Shared}
theorem Inv.exc (I:Inv X pins σ H s) (ea:Addr):Inv (X.inExc ea) pins σ H s:=
  ⟨⟨I.ok.mod,I.ok.kind,I.ok.glob,I.ok.blt,I.ok.above,I.ok.inj,I.ok.has,I.ok.cab,(fun z=>absurd z Bool.false_ne_true),I.ok.frames,I.ok.stk,I.ok.exf,I.ok.bs,I.ok.bsz,I.ok.noex,I.ok.exfs,I.ok.funs,I.ok.frf⟩,
    I.os,I.bare,I.base,I.loc,I.cell,I.free,I.freeC,I.pin,I.hok,I.len⟩
theorem Inv.unexc {ea:Addr} (I:Inv (X.inExc ea) pins σ H s) (ok:X.Ok):Inv X pins σ H s:=⟨ok,I.os,I.bare,I.base,I.loc,I.cell,I.free,I.freeC,I.pin,I.hok,I.len⟩
theorem zal {M:Model} {A:Around} {E:Value→Shared→Prop} {i:Nat} {n:Str} {pos:Pos} {Q:Unit→Shared→Prop} (I:Inv X pins σ H s) (hN:X.N.Nodup) (hi:X.N[i]?=some n) (hk:X.env.scope.names.lookup n=some .local)
    (h:∀ s',Inv X pins (σ.set i none) H s'→Q () s'):wpAny M A (do bindName X.env n .none;unbindBehindTheSuite X.env n pos) Q E s:=by
  obtain⟨m,hn,hl⟩:=id I.loc;refine wpAny_nameGoes_keeps hk hn (by rw [I.ok.kind];rfl) fun h' v hn' hs=>h _ ?_
  have old:∀ {b:Addr} {o:Obj},X.s₀.heap.get? b=some o→b≠X.env.locals:=fun e=>Nat.ne_of_lt (Nat.lt_of_lt_of_le (Heap.lt_size e) I.ok.above)
  refine⟨I.ok,I.os,I.bare,⟨fun b o e n hb hx=>(hs.2 b (old e)).trans (I.base.keep b o e n hb hx),fun b o e n hb hx=>?_,I.base.free,fun b o e hx=>?_,I.base.tups,I.base.frzs,I.base.tbls⟩,⟨_,hn',fun j y v' e1 e2 e3=>?_⟩,fun y c e=>?_,I.free,I.freeC,fun p hp=>?_,fun b ob e=>?_,by simpa using I.len⟩
  · obtain⟨sl,e1⟩:=I.base.slot b o e n hb hx
    exact⟨sl,(hs.2 b (old e)).trans e1⟩
  · obtain⟨o',e1⟩:=I.base.there b o e hx
    exact⟨o',(hs.2 b (old e)).trans e1⟩
  · by_cases hj:j=i
    · subst hj
      have hiσ : j < σ.length:=by rw [I.len];exact(List.getElem?_eq_some_iff.mp hi).1
      rw [List.getElem?_set_self hiσ] at e2;cases e2
    · rw [List.getElem?_set_ne (Ne.symm hj)] at e2
      obtain⟨u',r',q⟩:=hl j y v' e1 e2 e3;refine⟨u',r',?_⟩
      rcases q with ⟨k,e⟩|⟨k,c,e,z⟩
      · refine .inl ⟨k,?_⟩
        have:y≠n:=fun e=>hj (zba hN e1 (e ▸ hi))
        simp [this,e]
      · exact .inr ⟨k,c,e,z.sameBut hs (I.cne y c e)⟩
  · obtain⟨w',z⟩:=I.cell y c e
    exact⟨w',z.sameBut hs (I.cne y c e)⟩
  · obtain⟨e,n,ne,nf,d⟩:=I.pin p hp
    exact⟨(hs.2 p.1 ne).trans e,n,ne,nf,d⟩
  · refine(I.hok b ob e).stay (fun c w' hc q=>(hs.2 c ?_).trans q) (fun _ q=>q) fun _ _ q=>q
    rintro rfl
    rcases hc with z|z
    · have:=I.free;rw [z,e] at this;cases this
    · have:=I.free;rw [z] at this;cases this
end
theorem HOk.track {P:Program} {w:World} {H:Hp} {h:Heap} {a:Addr} {o:HO} (x:HOk P w H h) (hn:H a=none) (new:zX P w (upd H a o) h a o):HOk P w (upd H a o) h:=fun b u e=>by
  by_cases hb:b=a
  · subst hb;rw [zB] at e;cases e;exact new
  · rw [zh hb] at e
    exact(x b u e).stay (fun c v _ q=>q) (fun c q=>by rw [zh (zN q hn)];exact q) fun c xs q=>by rw [zh (zN q hn)];exact q
theorem Un.track {fs:List Addr} {H H':Hp} {h h':Heap} {a:Addr} {o:HO} (un:Un fs [] H H' h h') (hn:H' a=none) (ha:h.get? a=none):Un fs [] H (upd H' a o) h h' where
  keep:=un.keep
  slot:=un.slot
  free:=fun b ob q n hx=>by
    rw [zh (fun z=>by subst z;rw [q] at ha;cases ha)]
    exact un.free b ob q n hx
  there:=un.there
  tups:=fun b xs q=>by have e:=un.tups b xs q;rw [zh (zN e hn)];exact e
  frzs:=fun b ob u q=>by have e:=un.frzs b ob u q;rw [zh (zN e hn)];exact e
  tbls:=fun b ps q=>by obtain⟨m,e⟩:=un.tbls b ps q;exact⟨m,by rw [zh (zN e hn)];exact e⟩
def tTry (K:PySem.W.Frag) (CC:Addr) (i:Nat) (tx:TX) (th:Addr→TS):TS:=fun D σ H=>tx D (fun C H1=>PySem.W.exmOne K (.ref C) (.ref CC)=some true∧∀ ea,H1 ea=none→
  th ea { nx:=fun σ' H'=>D.nx (σ'.set i none) H',rt:=D.rt,bk:=fun σ' H'=>D.bk (σ'.set i none) H',ct:=fun σ' H'=>D.ct (σ'.set i none) H' } (σ.set i (some (.ref ea))) (upd H1 ea (excO ea C))) σ H
theorem zfF {X:Cx} {rest:List ExceptHandler} {body:List Stmt} {b₀ : Stmt} {suite:List Stmt} {cx n:Str} {CC:Addr} {i:Nat} {np hpos pos:Pos} {tx:TX} {th:Addr→TS} (hst:X.stack=X.env::X.outer) (hfr:X.env.frame=some X.env.locals) (hN:X.N.Nodup) (hi:X.N[i]?=some n)
    (hk:X.env.scope.names.lookup n=some .local) (hg:Gl X cx) (hm:X.mg cx=some (.ref CC)) (hb:PX X body tx) (hh:∀ ea,PSs (X.inExc ea) (b₀ :: suite) (th ea)) (hdb:(cx==("__debug__" : Str))=false:=by decide) :
    PS X (.Try body (.ExceptHandler (some (.Name cx np)) (some n) (b₀ :: suite) hpos::rest) [] [] pos) (tTry X.K CC i tx th):=by
  intro pins s σ H D I h;refine wpAny_Try_except (wpAny_mono (hb pins s σ H D _ I h) (fun fl s1 q=>?_) fun e s' z=>?_)
  · cases fl with
    | next=>exact wpAny_execs_nil q
    | ret v=>exact q
    | brk=>exact q
    | cont=>exact q
  obtain⟨ea,C,H1,s1,H',rfl,I1,F,hx,hth⟩:=z;obtain⟨B,a0,fl,cov,trk⟩:=F.fly;have fr0:X.A.frames=some (X.env::X.outer):=by rw [←hst];exact I.ok.frames
  have flx:Heap.FlyingW B (X.env::X.outer) ea (.ref C) a0 s'.heap:=hst ▸ fl;have hea:H' ea=none:=by
    cases q:H' ea with
    | none=>rfl
    | some o=>
      obtain⟨o',e⟩:=trk ea o q;have:=fl.2.1;rw [e] at this;cases this
  have hs1:s1.heap.get? ea=none:=by
    cases q:s1.heap.get? ea with
    | none=>rfl
    | some o=>
      exfalso
      by_cases hm:ea∈frs X.stack
      · obtain⟨_,o2,ho2,hd2⟩:=fl.2.2.1.mem hm
        obtain⟨oe,vs,T,oT,ts,he,_,hd,_⟩:=fl.2.2.2;rw [he] at ho2;cases ho2;exact hd2 _ hd
      · obtain⟨o',e⟩:=cov ea o q hm
        have:=fl.2.1;rw [e] at this;cases this
  refine wpAny_looks_onW fr0 hfr flx fun h4 held sm4=>?_
  refine wpAny_landsW held fun h5 fl5 sm5=>?_
  have un5:Un (frs X.stack) [] H1 H' s1.heap h5:=F.un.through cov fl.1 fl5.1 (zaZ fl.2.2.1 (sm4.trans sm5));have I5:Inv X pins σ H' { s' with heap:=h5 }:=I1.call' (ch:=[]) F.os un5 (F.hok.through fl.1 fl5.1 trk) F.bare (fun b z=>absurd z (by simp))
  refine wpAny_handleBy_cons (codeAny_handlers_test (ZK (I5.exc ea) hg hm ?_ hdb)) (by intro q;cases q)
  have LT:PySem.W.Looks (model X.prog X.w) h5 (typeOf (.ref ea)) (.ref C):=by
    obtain⟨ob,hob,hc⟩:=fl5.there;rw [←hc];exact(PySem.W.Looks.ld hob).andThen .now
  refine PySem.W.Looks.here (s:={ s' with heap:=h5 }) (PySem.W.exm_one I5.kIn LT hx) ?_
  refine codeAny_handlers_suite_as (lands_againW fl5 fun h6 fl6 sm6=>?_)
  have un6:Un (frs X.stack) [] H1 H' s1.heap h6:=F.un.through cov fl.1 fl6.1 (zaZ fl.2.2.1 ((sm4.trans sm5).trans sm6));have hokx:HOk X.prog X.w (upd H' ea (excO ea C)) h6:=(F.hok.through fl.1 fl6.1 trk).track hea (by
    obtain⟨oe,vs,T,oT,ts,he,⟨hc,_⟩,hd,_⟩:=fl6.2.2.2;exact⟨⟨oe,vs,he,hc,hd⟩,⟨oe,he⟩,fun x1 x2 ⟨o,ws,y1,y2,y3⟩ kk=>⟨o,ws,kk o y1,y2,y3⟩⟩)
  have I6:Inv X pins σ (upd H' ea (excO ea C)) { s' with heap:=h6 }:=I1.call' (ch:=[]) F.os (un6.track hea hs1) hokx F.bare (fun b z=>absurd z (by simp))
  refine J1 (X:=X.inExc ea) (i:=i) (x:=n) (v:=.ref ea) (I6.exc ea) hN hi (.inl hk) rfl (fun s7 I7=>?_) (.inr hk)
  refine wpAny_mono (hh ea pins s7 _ _ _ I7 (hth ea hea)) (fun f8 s8 q8=>?_) fun _ _ z=>z.elim
  show wpAny (model X.prog X.w) X.A (do bindName X.env n .none;unbindBehindTheSuite X.env n hpos) (fun _ s9=>SP X pins D f8 s9) X.xe s8
  cases f8 with
  | next=>obtain⟨σ8,H8,I8,q⟩:=q8;exact zal (I8.unexc I.ok) hN hi hk fun s9 I9=>⟨_,_,I9,q⟩
  | brk=>obtain⟨σ8,H8,I8,q⟩:=q8;exact zal (I8.unexc I.ok) hN hi hk fun s9 I9=>⟨_,_,I9,q⟩
  | cont=>obtain⟨σ8,H8,I8,q⟩:=q8;exact zal (I8.unexc I.ok) hN hi hk fun s9 I9=>⟨_,_,I9,q⟩
  | ret u=>obtain⟨v,σ8,H8,I8,r,q⟩:=q8;exact zal (I8.unexc I.ok) hN hi hk fun s9 I9=>⟨v,_,_,I9,r,q⟩
theorem zjr:bootBuiltins "int" = some (.type "int"):=by decide +kernel
theorem zdL:bootBuiltins "bool" = some (.type "bool"):=by decide +kernel
theorem zbl:bootBuiltins "list" = some (.type "list"):=by decide +kernel
theorem zhU:bootBuiltins "zip" = some (.type "zip"):=by decide +kernel
theorem zht:bootBuiltins "ValueError" = some (.type "ValueError"):=by decide +kernel
theorem zak:bootBuiltins "isinstance" = some (.builtin "isinstance"):=by decide +kernel
theorem zK:bootBuiltins "len" = some (.builtin "len"):=by decide +kernel
theorem zaO:bootBuiltins "abs" = some (.builtin "abs"):=by decide +kernel
theorem zbt:bootBuiltins "max" = some (.builtin "max"):=by decide +kernel
theorem zdU:bootBuiltins "min" = some (.builtin "min"):=by decide +kernel
theorem Jz:bootBuiltins "sum" = some (.builtin "sum"):=by decide +kernel
structure XAttr (K:PySem.W.Frag) (C:Addr):Prop where
  ga:PySem.W.findIn K (.ref C) "__getattribute__" = some (some (.builtin "BaseException.__getattribute__"))
  gt:PySem.W.findIn K (.ref C) "__getattr__" = some none
  cl:PySem.W.findIn K (.ref C) "__class__" = some (some (.builtin "object.__class__"))
  ob:PySem.W.mroIn K C (.type "object")=some true
  be:PySem.W.mroIn K C (.type "BaseException")=some true
  ty:PySem.W.isClsIn K C=true
def XAt (ea C:Addr) (h:Heap):Prop:=∃ o vs,h.get? ea=some o∧o.cls=.ref C∧o.data=.fields vs
section
variable {prog:Program} {w:World} {A:Around} {E:Value→Shared→Prop} {s:Shared} {K:PySem.W.Frag} {ea C:Addr}
theorem zbd {M:Model} {h:Heap} (p:XAt ea C h):PySem.W.Looks M h (typeOf (.ref ea)) (.ref C):=by
  obtain⟨o,_,h1,h2,_⟩:=p;rw [←h2];exact(PySem.W.Looks.ld h1).andThen .now
theorem zey {R:Result→Shared→Prop} {tp:Value} (Y:XAttr K C) (X:K.In s.heap) (p:XAt ea C s.heap) (h:R (.ok (.ret (.ref C))) s) :
    codeAny (model prog w) A (.call (.builtin "getset_descriptor.__get__") ⟨[.builtin "object.__class__", .ref ea,tp],[]⟩) R s:=by
  obtain⟨hh,g,dr,t,os⟩:=s;have L0:=zbd (M:=model prog w) p;have L1:=PySem.W.looks_mroIn (M:=model prog w) X Y.ob;refine codeAny_call_builtin PySem.W.KF.slot_gs.plain PySem.W.KF.entry_gs (PySem.W.KF.slot_gs.check _ _ _ _ _ _ _ _ PySem.W.KF.type_class (PySem.W.KF.args_gs _ _ _) ?_);unfold Builtin.«getset_descriptor.__get__» Builtin.Getset_descriptor.descrGet;rw [PySem.W.dga_obj];refine wpAny_bind (wpAny_pure ?_)
  unfold Builtin.Getset_descriptor.descrGetter Builtin.Getset_descriptor.descrCheckInstance Builtin.Getset_descriptor.descrNameAndClass isInstance;simp only [PySem.W.KF.owner_class]
  repeat lk
  refine⟨Code.quiet_builtin _ (by decide +kernel),codeAny_builtin PySem.W.KF.entry_class ?_⟩
  unfold Builtin.«object.__class__» shownTypeOf
  repeat lk
  exact h
theorem zjd {M:Model} {nameV:Value} {Q:Unit→Shared→Prop} (Y:XAttr K C) (X:K.In s.heap) (p:XAt ea C s.heap) (hq:Q () s):wpAny M A (checkBuiltinCall "BaseException.__getattribute__" ⟨[.ref ea,nameV],[]⟩) Q E s:=by
  have hk:builtinKind "BaseException.__getattribute__" = some .slot:=by decide +kernel
  have hsplit:splitId "BaseException.__getattribute__" = some ("BaseException", "__getattribute__"):=by decide +kernel
  have ha:=F.args_bexc_ga (.ref ea) nameV;obtain⟨hh,g,d,t,os⟩:=s;have L0:=zbd (M:=M) p;have L1:=PySem.W.looks_mroIn (M:=M) X Y.be;simp only [checkBuiltinCall,hk,hsplit];refine wpAny_bind ?_;unfold isInstance
  repeat (first|with_reducible refine PySem.W.Looks.at L0 ?_|with_reducible refine PySem.W.Looks.at L1 ?_|wp_step)
  exact hq
theorem zhE {tk:Tok} {Q:Fin→Shared→Prop} (Y:XAttr K C) (X:K.In s.heap) (p:XAt ea C s.heap) (hq:Q (.done (.ret (.ref C))) s) :
    wpAny (model prog w) A (Builtin.«object.__getattribute__» ⟨[.ref ea,.str "__class__" tk],[]⟩) Q E s:=by
  have p':=p;obtain⟨o,vs,hx,hc,hd⟩:=p;obtain⟨h,g,d,t,os⟩:=s;have hT5:(⟨h,g,d,t,os⟩:Shared).TypeIs (.builtin "object.__class__") "getset_descriptor":=F.typeOf_object_class;have f5:=F.typeOf_object_class;have f6:=F.slot_gs_get.lookup;have f7:=F.slot_gs_set.lookup;have L1:=PySem.W.looks_findIn (M:=model prog w) X Y.cl
  repeat (any_goals (first|assumption|(with_reducible refine wpAny_loadPart_at hx ?_;rw [hc])|with_reducible refine PySem.W.Looks.at L1 ?_|wp_step))
  refine zey (s:=⟨h,g,d,t,os⟩) Y X p' ?_
  repeat (any_goals (first|assumption|wp_step))
theorem zg8 {tk:Tok} {fill expr:Bool} {Q:Value→Shared→Prop} (Y:XAttr K C) (X:K.In s.heap) (p:XAt ea C s.heap) (hq:Q (.ref C) s) :
    wpAny (model prog w) A (getAttrBy (.ref ea) (.str "__class__" tk) fill expr) Q E s:=by
  have p':=p;obtain⟨o,vs,hx,hc,hd⟩:=p;obtain⟨h,g,d,t,os⟩:=s;have f3:=F.excAttr_ValueError.ga.bind (.ref ea);have hx0:(expr&&onTheHeap (Value.builtin "BaseException.__getattribute__"))=false:=by cases expr<;>rfl
  have hx2:(Value.builtin "BaseException.__getattribute__" == Value.builtin "object.__getattribute__")=false:=by decide +kernel
  have hx1:(onTheHeap (Value.ref C)&&Value.builtin "BaseException.__getattribute__" == Value.builtin "object.__getattribute__")=false:=by rw [hx2];rfl
  have L1:=PySem.W.looks_findIn (M:=model prog w) X Y.ga;have L2:=PySem.W.looks_findIn (M:=model prog w) X Y.gt
  repeat (any_goals (first|assumption|(with_reducible refine wpAny_loadPart_at hx ?_;rw [hc])|with_reducible refine PySem.W.Looks.at L1 ?_|with_reducible refine PySem.W.Looks.at L2 ?_|wp_step))
  refine codeAny_call_builtin F.excAttr_ValueError.ga.plain F.entry_bexc_ga (zjd (s:=⟨h,g,d,t,os⟩) Y X p' (zhE (s:=⟨h,g,d,t,os⟩) Y X p' ?_))
  repeat (any_goals (first|assumption|wp_step))
theorem zii {Q:Option Value→Shared→Prop} (Y:XAttr K C) (X:K.In s.heap) (p:XAt ea C s.heap) (hq:Q (some (.ref C)) { s with toks:=s.toks+1 }):wpAny (model prog w) A (getAttr? (.ref ea) "__class__") Q E s:=by
  obtain⟨h,g,d,t,os⟩:=s;unfold getAttr? getAttrBy?
  repeat (any_goals (first|assumption|with_reducible apply zg8 (s:=⟨h,g,d,t+1,os⟩) Y X p|wp_step))
theorem zaL (Y:XAttr K C):PySem.W.KitX K (.ref ea) (.ref C) (XAt ea C) where
  ty:=fun _ _ _ p=>zbd p
  it:=fun M h X _=>by
    have e:=Y.ty;unfold PySem.W.isClsIn PySem.W.clsIn at e
    split at e
    · rename_i c' d' cd' sl' ho
      intro A' Q' E' s' k q;unfold isType loadHead;exact wpAny_bind (wpAny_loadPart (k _ _ (X _ _ ho)) (wpAny_pure q))
    · cases e
  ne:=fun h tp dd its n sl X htp=>by
    have e:=Y.ty;unfold PySem.W.isClsIn PySem.W.clsIn at e
    split at e
    · rename_i c' d' cd' sl' ho
      refine Bool.eq_false_iff.mpr fun q=>?_
      have e:C=tp:=Value.ref.inj (beq_iff_eq.mp q);subst e;have z:=(X _ _ ho).symm.trans htp;cases z
    · cases e
  ca:=fun X p k=>zii Y X p k
end
section
variable {X:Cx}
def isB (t n:String):Option Bool:=
  if t = "int"∧n = "int" then some true else if t = "int"∧n = "bool" then some false else if t = "tuple"∧n = "tuple" then some true else if t = "list"∧n = "list" then some true
  else if t = "str"∧n = "str" then some true else if t = "bool"∧n = "bool" then some true else none
theorem zjb {K:PySem.W.Frag} {t n:String} {b:Bool} (h:isB t n=some b):PySem.W.kitOne K (.type t) (.type n)=some b:=by
  unfold isB at h
  split at h
  · rename_i e;obtain⟨rfl,rfl⟩:=e;cases h;rfl
  split at h
  · rename_i e;obtain⟨rfl,rfl⟩:=e;cases h;rfl
  split at h
  · rename_i e;obtain⟨rfl,rfl⟩:=e;cases h;rfl
  split at h
  · rename_i e;obtain⟨rfl,rfl⟩:=e;cases h;rfl
  split at h
  · rename_i e;obtain⟨rfl,rfl⟩:=e;cases h;rfl
  split at h
  · rename_i e;obtain⟨rfl,rfl⟩:=e;cases h;rfl
  cases h
theorem za8 {pins:List (Addr×Obj)} {σ : St} {H:Hp} {s:Shared} {ea C:Addr} (I:Inv X pins σ H s) (h:H ea=some (excO ea C)):XAt ea C s.heap:=by
  obtain⟨p,_⟩:=(show zX X.prog X.w H s.heap ea (excO ea C) from I.hok ea _ h)
  exact p
def zjD (K:PySem.W.Frag):List V→Hp→VK→Prop:=fun xs H Q=>∃ (ea C tp:Addr) (cs:List Addr) (b:Bool),xs=[.ref ea,.ref tp]∧H ea=some (excO ea C)∧XAttr K C∧H tp=some (.tup (cs.map V.ref))∧PySem.W.kitAny K (.ref C) (cs.map Value.ref)=some b∧Q (.bl b) H
theorem zcn:∀ {cs:List Addr} {us:List Value},Vals (cs.map V.ref) us→us=cs.map Value.ref
  | [],_,.nil=>rfl
  | a :: cs, _, .cons r t => by
    have e:=zcn (cs:=cs) t;rw [e];cases(show _=Value.ref a from r)
    rfl
theorem zd7:zG X (.builtin "isinstance") (zjD X.K):=by
  intro pins s σ H xs us Q I r h;obtain⟨ea,C,tp,cs,b,rfl,h1,Y,h2,h3,q⟩:=h;obtain⟨u,c,rfl,rx,rc⟩:=J8 r;cases(show u=Value.ref ea from rx)
  cases(show c=Value.ref tp from rc)
  obtain⟨its,rv,⟨o,ho,hc,n,hd⟩,_⟩:=I.tuple (SqT.of h2);have e:=zcn rv;subst e;obtain⟨oc,od,dt,sl⟩:=o;dsimp only at hc hd;subst hc hd;exact PySem.W.kia_tup (zaL Y) I.kIn (za8 I h1) ho h3 (fun z=>nomatch z) fun tk=>⟨.bl b,H,I.tok tk,rfl,q⟩
def zi4 (K:PySem.W.Frag):List V→Hp→VK→Prop:=fun xs H Q=>∃ ea C D b,xs=[.ref ea,.ref D]∧H ea=some (excO ea C)∧XAttr K C∧PySem.W.kitOne K (.ref C) (.ref D)=some b∧Q (.bl b) H
theorem ze6:zG X (.builtin "isinstance") (zi4 X.K):=by
  intro pins s σ H xs us Q I r h;obtain⟨ea,C,D,b,rfl,h1,Y,h3,q⟩:=h;obtain⟨u,c,rfl,rx,rc⟩:=J8 r;cases(show u=Value.ref ea from rx)
  cases(show c=Value.ref D from rc)
  exact PySem.W.kia_one (zaL Y) I.kIn (za8 I h1) h3 (fun z=>nomatch z) fun tk=>⟨.bl b,H,I.tok tk,rfl,q⟩
def zfu (K:PySem.W.Frag):List V→Hp→VK→Prop:=fun xs H Q=>∃ ea C n b,xs=[.ref ea,.ty n]∧H ea=some (excO ea C)∧XAttr K C∧PySem.W.kitOne K (.ref C) (.type n)=some b∧Q (.bl b) H
theorem zeo:zG X (.builtin "isinstance") (zfu X.K):=by
  intro pins s σ H xs us Q I r h;obtain⟨ea,C,n,b,rfl,h1,Y,h3,q⟩:=h;obtain⟨u,c,rfl,rx,rc⟩:=J8 r;cases(show u=Value.ref ea from rx)
  cases(show c=Value.type n from rc)
  exact PySem.W.kia_one (zaL Y) I.kIn (za8 I h1) h3 (fun z=>nomatch z) fun tk=>⟨.bl b,H,I.tok tk,rfl,q⟩
end
mutual
inductive RdV (K:PySem.W.Frag) (H:Hp):V→PyData→Prop
  | non:RdV K H .non .none
  | bl (b):RdV K H (.bl b) (.bool b)
  | int (i):RdV K H (.int i) (.int i)
  | str (x):RdV K H (.str x) (.str x)
  | lst {a xs ds}:SqL K H a xs→RdVs K H xs ds→RdV K H (.ref a) (.list ds)
  | tup {a xs ds}:SqT K H a xs→RdVs K H xs ds→RdV K H (.ref a) (.tuple ds)
inductive RdVs (K:PySem.W.Frag) (H:Hp):List V→List PyData→Prop
  | nil:RdVs K H [] []
  | cons {x xs d ds}:RdV K H x d→RdVs K H xs ds→RdVs K H (x::xs) (d::ds)
end
section
variable {X:Cx} {pins:List (Addr×Obj)} {σ : St} {H:Hp} {s:Shared}
mutual
theorem RdV.reads (I:Inv X pins σ H s):∀ {x:V} {d:PyData} {u:Value},RdV X.K H x d→RelV x u→∃ as,Reads s.heap u d as
  | _,_,_,.non,r=>by cases r;exact⟨_,.none⟩
  | _,_,_,.bl b,r=>by cases r;exact⟨_,.bool b⟩
  | _,_,_,.int i,r=>by obtain⟨t,rfl⟩:=r;exact⟨_,.int i t⟩
  | _,_,_,.str x,r=>by obtain⟨t,rfl⟩:=r;exact⟨_,.str x t⟩
  | _, _, _, .lst hq hs, r => by
    cases r;obtain⟨its,rv,⟨o,n,ho,hc,_,hd⟩,_⟩:=I.list hq
    obtain⟨as,q⟩:=RdVs.reads I hs rv;exact⟨_,.list ho hc hd q⟩
  | _, _, _, .tup hq hs, r => by
    cases r;obtain⟨its,rv,⟨o,ho,hc,n,hd⟩,_⟩:=I.tuple hq
    obtain⟨as,q⟩:=RdVs.reads I hs rv;exact⟨_,.tuple ho hc hd q⟩
theorem RdVs.reads (I:Inv X pins σ H s):∀ {xs:List V} {ds:List PyData} {us:List Value},RdVs X.K H xs ds→Vals xs us→∃ as,ReadsAll s.heap us ds as
  | _,_,_,.nil,.nil=>⟨_,.nil⟩
  | _, _, _, .cons h hs, .cons r t => by
    obtain⟨as,q⟩:=RdV.reads I h r;obtain⟨bs,p⟩:=RdVs.reads I hs t;exact⟨_,.cons q p⟩
end
end
section
variable {X:Cx}
def rEqD (K:PySem.W.Frag):R2:=fun x y H Q=>∃ d e,RdV K H x d∧RdV K H y e∧SeqAt.shaped d=true∧SeqAt.shaped e=true∧Q (.bl (PyData.eqv d e)) H
def rNeD (K:PySem.W.Frag):R2:=fun x y H Q=>∃ d e,RdV K H x d∧RdV K H y e∧SeqAt.shaped d=true∧SeqAt.shaped e=true∧Q (.bl (!PyData.eqv d e)) H
theorem zer (hu:X.A.units+64<cLine):OpR X (compareOp .Eq) (rEqD X.K):=by
  intro pins s σ H x y v u Q I rx ry h;obtain⟨d,e,h1,h2,s1,s2,q⟩:=h;obtain⟨as,r1⟩:=h1.reads I rx;obtain⟨bs,r2⟩:=h2.reads I ry;exact eq_dataH r1 r2 s1 s2 hu ⟨.bl _,H,I,rfl,q⟩
theorem zei (hu:X.A.units+64<cLine):OpR X (compareOp .NotEq) (rNeD X.K):=by
  intro pins s σ H x y v u Q I rx ry h;obtain⟨d,e,h1,h2,s1,s2,q⟩:=h;obtain⟨as,r1⟩:=h1.reads I rx;obtain⟨bs,r2⟩:=h2.reads I ry;exact ne_dataH r1 r2 s1 s2 hu ⟨.bl _,H,I,rfl,q⟩
def jV (_ j:Int):Prop:=0<j∧Bits 9000 j
theorem zgw:OpR X (binaryOp .FloorDiv) (rI jV fun i j=>.int (i/j)):=opI fun i j _ _ _ _ _ hc q=>
  floordiv_int (by have:=hc.1;omega) (by rw [Int.fdiv_eq_ediv_of_nonneg i (by have:=hc.1;omega)];exact q) (.inl (PyProof.noPylong_of_log2 (hc.2.log2 (by decide))))
end
def Df (P:Program) (w:World) (K:PySem.W.Frag) (mg:Str→Option Value) (base:Heap) (k:Nat) (x:Str) (ps:List Str) (sp:Sp):Prop:=
  ∃ f fd,FnOk P w K mg base (CXR P w) k f fd ps sp∧Binds K fd ps []∧PySem.W.keepIn K (.ref f)=true∧mg x=some (.ref f)
section
variable {X:Cx} {k:Nat} {ps:List Str} {sp:Sp} {x:Str} {p pos pos':Pos} {e:Expr} {es:List Expr} {t:TA} {E:XK}
theorem zja (G:Df X.prog X.w X.K X.mg X.base k x ps sp) (hr:Room k X.A) (hg:Gl X x) (hx:Passes (CXR X.prog X.w) X E) (ha:PA X (e::es) t) (hdb:(x==("__debug__" : Str))=false:=by decide)
    (he:starEach (e::es) X.env=(false,eval e X.env)::starEach es X.env:=by rfl) (hpl:(backTo pos (starEach es X.env)).any (·.1)=false:=by rfl):PE X (.Call (.Name x p) (e::es) [] pos) (zcH sp [] E t):=by
  obtain⟨f,fd,F,hb,hk,hm⟩:=G;exact zdJ F hr hg hm hk hb .nil hx ha hdb he hpl
theorem zg7 (G:Df X.prog X.w X.K X.mg X.base k x ps sp) (hr:Room k X.A) (hg:Gl X x) (ha:PA X.nox (e::es) t) (hdb:(x==("__debug__" : Str))=false:=by decide)
    (he:starEach (e::es) X.env=(false,eval e X.env)::starEach es X.env:=by rfl) (hpl:(backTo pos (starEach es X.env)).any (·.1)=false:=by rfl)
    (hs:swapsWith (.Call (.Name x p) (e::es) [] pos) none pos'.line X.env=pure false:=by rfl):PX X [.Expr (.Call (.Name x p) (e::es) [] pos) pos'] (zcj sp t):=by
  obtain⟨f,fd,F,hb,hk,hm⟩:=G;exact zig F hr hg hm hk hb ha hdb he hpl hs
end
section
variable {X:Cx} {o e:Expr} {to:TE} {t:TA} {apos pos:Pos}
theorem zjj (ho:PE X o to) (ha:PA X [e] t) (hb:attributeBase o "append" X.env (eval o X.env)=eval o X.env:=by rfl)
    (hf:((backTo pos (starEach [e] X.env)).all (fun x=>!x.1)&&(backToKw pos (keywordEach [] X.env)).all (fun x=>x.1.isSome)&&decide ([e].length+([]:List Keyword).length+(if([]:List Keyword).isEmpty then 0 else 1)<30))=true:=by rfl)
    (hl:(apos.endLine==pos.line)=true:=by rfl) (hs:starEach [e] X.env=(false,eval e X.env)::starEach [] X.env:=by rfl) (hp:(backTo pos (starEach [] X.env)).any (·.1)=false:=by rfl) :
    PE X (.Call (.Attribute o "append" apos) [e] [] pos) (tBM X.K "list" rAppend to t):=
  ZQ PySem.F.plainAttrs_list PySem.F.slot_list_append PySem.F.type_list_append zbZ ho ha hb hf hl hs hp
theorem zbQ {K:PySem.W.Frag} {H:Hp} {p:Addr} {xs:List V} (h:H p=some (.lst xs)):tyV K "list" (.ref p) H:=.inl ⟨rfl,_,SqL.of h⟩
end
section
variable {ta:TA} {tl:TE} {g:TG} {tb:TS} {D:Ends} {σ : St} {H:Hp} {K:PySem.W.Frag}
end
theorem ja {H:Hp} {p:Addr} (h:H p=none) (o:HO):Same H (upd H p o):=fun b u q=>by rw [zh (zN q h)];exact q
theorem Same.tup {K:PySem.W.Frag} {H H':Hp} {a:Addr} {xs:List V} (e:Same H H') (h:SqT K H a xs):SqT K H' a xs:=by
  rcases h with (h|⟨o,h⟩)|h
  · exact .inl (.inl (e _ _ h))
  · exact .inl (.inr ⟨o,e _ _ h⟩)
  · exact .inr h
section
variable {X:Cx}
end
theorem atI0 {α : Type} {x:α} {xs:List α}:atI (x::xs) 0=some x:=ZR (j:=0) rfl
theorem atI1 {α : Type} {x y:α} {xs:List α}:atI (x::y::xs) 1=some y:=ZR (j:=1) rfl
end L2
section
open PySem PySem.Spec PyProof.Rows L2
namespace L2
end L2
namespace L2
theorem Bits.emod {k:Nat} {m:Int} (hm:Bits k m) (h0:0<m) (x:Int):Bits k (x%m):=hm.le (by
  have h1:=Int.emod_nonneg x (by omega:m≠0)
  have h2:=Int.emod_lt_of_pos x h0
  omega)
theorem Bits.lit {x:Int} (k:Nat) (h:x.natAbs<2 ^ 64:=by decide) (hk:64≤k:=by decide):Bits k x:=Bits.mono (j:=64) h hk
theorem divP {i j:Int} (h0:0<j:=by decide) (h:j.natAbs<2 ^ 64:=by decide):jV i j:=⟨h0,Bits.lit _ h (by decide)⟩
theorem powB {i j:Int} {k:Nat} (h:Bits k i) (h0:0≤j) (hk:k*j.toNat≤134217728):jP i j:=⟨h0,by
  have e1:=h.bits;have e2:(Builtin.Int.intBits i:Int)*j≤(k:Int)*j:=Int.mul_le_mul_of_nonneg_right (by omega) h0
  have e3:(k:Int)*j=((k*j.toNat:Nat):Int):=by rw [Int.natCast_mul];congr 1;omega
  omega⟩
end L2
end
namespace L2
open PySem PySem.Spec PyProof.Rows
def zci (osc scope:Scope) (tn fn:List Str):Bool:=
  decide (scope.kind=.function)&&scope.names.all (fun x=>!decide (x.2=.local)||decide (scope.names.lookup x.1=some .local)) &&
  scope.names.all (fun x=>!decide (x.2=.cell)||decide (scope.names.lookup x.1=some .cell)) &&
  scope.names.all (fun x=>!decide (x.2=.free)||decide (osc.names.lookup x.1=some .cell)||decide (osc.names.lookup x.1=some .free)) &&
  tn.all (fun x=>decide (scope.names.lookup x=some .local)||decide (scope.names.lookup x=some .cell)) &&
  fn.all (fun x=>decide (scope.names.lookup x=some .free))&&decide ((tn++fn).Nodup)
structure CompSc (osc scope:Scope) (tn fn:List Str):Prop where
  kind:scope.kind=.function
  loc:∀ x∈scope.names,x.2=.local→scope.names.lookup x.1=some .local
  cell:∀ x∈scope.names,x.2=.cell→scope.names.lookup x.1=some .cell
  free:∀ x∈scope.names,x.2=.free→osc.names.lookup x.1=some .cell∨osc.names.lookup x.1=some .free
  frees:∀ x∈fn,scope.names.lookup x=some .free
  nd:(tn++fn).Nodup
theorem z4 {osc scope:Scope} {tn fn:List Str} (h:zci osc scope tn fn=true):CompSc osc scope tn fn:=by
  unfold zci at h;simp only [Bool.and_eq_true,decide_eq_true_eq,List.all_eq_true,Bool.or_eq_true,Bool.not_eq_true',decide_eq_false_iff_not] at h;obtain⟨⟨⟨⟨⟨⟨h1,h2⟩,h3⟩,h4⟩,h5⟩,h6⟩,h7⟩:=h;refine⟨h1,fun x hx e=>(h2 x hx).resolve_left (fun n=>n e),fun x hx e=>(h3 x hx).resolve_left (fun n=>n e),fun x hx e=>?_,h6,h7⟩
  rcases h4 x hx with (n|q)|q
  · exact absurd e n
  · exact .inl q
  · exact .inr q
theorem zaQ (env:Env):∀ (names:List (Str×NameKind)) (x:Str),
    (names.map fun(n,k)=>if(k==NameKind.free&&env.scope.kind==.function&&env.kindOf n==some .cell) then(n,NameKind.cell) else(n,k)).lookup x =
      (names.lookup x).map fun k=>if(k==NameKind.free&&env.scope.kind==.function&&env.kindOf x==some .cell) then NameKind.cell else k
  | [],x=>rfl
  | (n, k) :: r, x => by
    have ih:=zaQ env r x;rw [List.map_cons]
    by_cases hx:x=n
    · subst hx
      show List.lookup x ((if(k==NameKind.free&&env.scope.kind==.function&&env.kindOf x==some .cell)=true then(x,NameKind.cell) else(x,k))::_)=_
      split
      · rename_i hc;rw [List.lookup_cons,List.lookup_cons];simp only [beq_self_eq_true,Option.map_some,if_pos hc]
      · rename_i hc;rw [List.lookup_cons,List.lookup_cons];simp only [beq_self_eq_true,Option.map_some,if_neg hc]
    · have hb:(x==n)=false:=beq_eq_false_iff_ne.mpr hx
      show List.lookup x ((if(k==NameKind.free&&env.scope.kind==.function&&env.kindOf n==some .cell)=true then(n,NameKind.cell) else(n,k))::_)=_
      split
      · simp only [List.lookup_cons,hb];exact ih
      · simp only [List.lookup_cons,hb];exact ih
theorem zc6 {scope:Scope} {env:Env} {x:Str} {k:NameKind} (h:(relabel scope env).names.lookup x=some k):∃ k',scope.names.lookup x=some k'∧(k'=k∨(k'=.free∧k=.cell)):=by
  have e:=zaQ env scope.names x;have h':(scope.names.map fun(n,k)=>if(k==NameKind.free&&env.scope.kind==.function&&env.kindOf n==some .cell) then(n,NameKind.cell) else(n,k)).lookup x=some k:=h
  rw [h'] at e;cases q:scope.names.lookup x with
  | none=>rw [q] at e;cases e
  | some k'=>
    rw [q] at e;have e':=Option.some.inj e;refine⟨k',rfl,?_⟩;dsimp only at e'
    split at e'
    · rename_i hc
      simp only [Bool.and_eq_true,beq_iff_eq] at hc;exact .inr ⟨hc.1.1,e'⟩
    · exact .inl e'.symm
theorem zi5 {scope:Scope} {env:Env} {x:Str} (h:scope.names.lookup x=some .free):(relabel scope env).names.lookup x=some .cell∨(relabel scope env).names.lookup x=some .free:=by
  have e:=zaQ env scope.names x;rw [h] at e;have e':(relabel scope env).names.lookup x=some _:=e;rw [e']
  by_cases c:(NameKind.free==NameKind.free&&env.scope.kind==.function&&env.kindOf x==some .cell)=true
  · left;simp only [Option.some.injEq];rw [if_pos c]
  · right;simp only [Option.some.injEq];rw [if_neg c]
theorem Ju:∀ (names:List (Str×NameKind)) (n:Nat) (acc:List (Str×Addr)),cellsFrom n names acc=cellsFrom n names []++acc
  | [],_,acc=>rfl
  | (x, k) :: r, n, acc => by
    unfold cellsFrom
    split
    · rw [Ju r (n+1) ((x,n)::acc),Ju r (n+1) [(x,n)],List.append_assoc];rfl
    · exact Ju r n acc
theorem zbo:∀ (names:List (Str×NameKind)) (n:Nat) (x:Str) (c:Addr),(x,c)∈cellsFrom n names []→(x,NameKind.cell)∈names
  | [],_,_,_,h=>by cases h
  | (y, k) :: r, n, x, c, h => by
    unfold cellsFrom at h
    split at h
    · rename_i hk
      rw [Ju] at h
      rcases List.mem_append.mp h with q|q
      · exact List.mem_cons_of_mem _ (zbo r _ x c q)
      · cases List.mem_singleton.mp q
        have:k=.cell:=by simpa using hk
        subst this;exact List.mem_cons_self
    · exact List.mem_cons_of_mem _ (zbo r _ x c h)
theorem zgs {env:Env} {scope:Scope} (h:∀ x∈scope.names,x.2=.free→∃ c,env.cells.lookup x.1=some c) :
    ∃ cl,closureFor scope env=pure cl∧(∀ x c,cl.lookup x=some c→env.cells.lookup x=some c)∧∀ x,(x,NameKind.free)∈scope.names→∃ c,cl.lookup x=some c:=by
  have key:∀ (f:Str×NameKind→List (Str×Addr)→Sem (ForInStep (List (Str×Addr)))),(∀ n k cs,f (n,k) cs=if k==.free then(do let a ←cellOf env n;pure (ForInStep.yield ((n,a)::cs))) else pure (ForInStep.yield cs))→
      ∀ (names:List (Str×NameKind)) (acc:List (Str×Addr)),(∀ x∈names,x.2=.free→∃ c,env.cells.lookup x.1=some c)→(∀ x c,acc.lookup x=some c→env.cells.lookup x=some c)→
      ∃ cl,(forIn names acc f:Sem (List (Str×Addr)))=pure cl∧(∀ x c,cl.lookup x=some c→env.cells.lookup x=some c)∧
        (∀ x,(x,NameKind.free)∈names→∃ c,cl.lookup x=some c)∧∀ x,(∃ c,acc.lookup x=some c)→∃ c,cl.lookup x=some c:=by
    intro f hf names
    induction names with
    | nil=>intro acc _ ha;exact⟨acc,rfl,ha,fun x hx=>(by cases hx),fun x q=>q⟩
    | cons y r ih=>
      intro acc hn ha;obtain⟨n,k⟩:=y
      by_cases hk:k=.free
      · subst hk
        obtain⟨c,hc⟩:=hn (n,.free) List.mem_cons_self rfl;have hc':env.cells.lookup n=some c:=hc;obtain⟨cl,e1,e2,e3,e4⟩:=ih ((n,c)::acc) (fun x hx=>hn x (List.mem_cons_of_mem _ hx)) (fun x c' q=>by
          rw [List.lookup_cons] at q
          by_cases hx:x=n
          · subst hx;simp at q;subst q;exact hc'
          · rw [beq_eq_false_iff_ne.mpr hx] at q;exact ha x c' q)
        refine⟨cl,?_,e2,fun x hx=>?_,fun x q=>e4 x ?_⟩
        · rw [List.forIn_cons,hf]
          have ec:cellOf env n=pure c:=by unfold cellOf;rw [hc']
          simp only [beq_self_eq_true,if_true,ec];exact e1
        · rcases List.mem_cons.mp hx with e|e
          · cases e;exact e4 n ⟨c,by simp [List.lookup_cons]⟩
          · exact e3 x e
        · obtain⟨c',q⟩:=q
          by_cases hx:x=n
          · subst hx;exact⟨c,by simp [List.lookup_cons]⟩
          · exact⟨c',by rw [List.lookup_cons,beq_eq_false_iff_ne.mpr hx];exact q⟩
      · obtain⟨cl,e1,e2,e3,e4⟩:=ih acc (fun x hx=>hn x (List.mem_cons_of_mem _ hx)) ha
        refine⟨cl,?_,e2,fun x hx=>?_,e4⟩
        · rw [List.forIn_cons,hf]
          have:(k==NameKind.free)=false:=by simpa using hk
          simp only [this,Bool.false_eq_true,if_false];exact e1
        · rcases List.mem_cons.mp hx with e|e
          · cases e;exact absurd rfl hk
          · exact e3 x e
  unfold closureFor;obtain⟨cl,e1,e2,e3,_⟩:=key (fun x r=>match x with|(name,kind)=>if kind==.free then(do let a ←cellOf env name;pure (ForInStep.yield ((name,a)::r))) else pure (ForInStep.yield r)) (fun _ _ _=>rfl) scope.names [] h (fun x c q=>by cases q)
  refine⟨cl,?_,e2,e3⟩
  have e:∀ (x:Sem (List (Str×Addr))),x=pure cl→(x >>= fun r=>pure r)=pure cl:=fun x q=>by rw [q];rfl
  exact e _ e1
def zfB (scope:Scope) (C:Addr) (cells:List (Str×Addr)) (env:Env):Env:=
  { scope:=relabel scope env,locals:=C,globals:=env.globals,cells:=cells,qual:=env.qual,func:=none,code:=env.code,frame:=env.frame,builtins:=env.builtins }
def Cx.comp (X:Cx) (scope:Scope) (N:List Str) (s:Shared) (H:Hp) (fp:List Addr) (cl:List (Str×Addr)):Cx where
  prog:=X.prog
  w:=X.w
  K:=X.K
  mg:=X.mg
  base:=X.base
  A:=X.A
  N:=N
  s₀:=s
  H₀:=H
  env:=zfB scope s.heap.objs.size (cellsFrom (s.heap.objs.size+1) scope.names cl) X.env
  outer:=X.stack
  stack:=X.stack
  ex:=fp
  fn:=fun x=>decide (scope.names.lookup x=some .cell)
  calm:=X.calm
  pn:=[]
  xe:=fun _ _=>False
def cst (n:Nat) (js:List Nat) (σ : St):St:=List.replicate n none++js.map fun j=>(σ[j]?).join
theorem zeN {X:Cx} {pins:List (Addr×Obj)} {σ : St} {H:Hp} {s:Shared} {scope:Scope} {tn fn:List Str} {js:List Nat} {fp:List Addr} {cl:List (Str×Addr)} (I:Inv X pins σ H s) (S:CompSc X.env.scope scope tn fn)
    (hj:js.map (fun j=>X.N[j]?)=fn.map some) (hfp:∀ b∈fp,FpOk X pins H b) (hlt:∀ b∈fp,b<s.heap.objs.size)
    (hcl:∀ x c,cl.lookup x=some c→X.env.cells.lookup x=some c) (hcl2:∀ x,(x,NameKind.free)∈scope.names→∃ c,cl.lookup x=some c) :
    Inv (X.comp scope (tn++fn) s H fp cl) [] (cst tn.length js σ) H { s with heap:=pushCells (s.heap.push { cls:=.type "dict", data:=.dict #[] }) scope.names }:=by
  have hC:=cellsFrom_ok scope.names (s.heap.push { cls:=.type "dict", data:=.dict #[] }) (s.heap.objs.size+1) [] ⟨fun _ _ hm=>(nomatch hm),List.Pairwise.nil⟩ (by rw [Heap.size_push];exact Nat.le_refl _)
  rw [Heap.size_push] at hC;have keep:∀ b o,s.heap.get? b=some o→(pushCells (s.heap.push { cls:=.type "dict", data:=.dict #[] }) scope.names).get? b=some o:=fun b o e=>pushCells_keeps _ _ b o (Heap.get?_push_of_some _ e)
  have look:∀ x c,(cellsFrom (s.heap.objs.size+1) scope.names cl).lookup x=some c→((x,c)∈cellsFrom (s.heap.objs.size+1) scope.names [])∨X.env.cells.lookup x=some c:=fun x c e=>by
    rw [Ju,List.lookup_append] at e;cases q:(cellsFrom (s.heap.objs.size+1) scope.names []).lookup x with
    | some c'=>rw [q] at e;cases e;exact .inl (PySem.mem_of_lookup q)
    | none=>rw [q] at e;exact .inr (hcl x c e)
  have outerLt:∀ x c,X.env.cells.lookup x=some c→c<s.heap.objs.size:=fun x c e=>by
    obtain⟨v,q⟩:=I.cell x c e;exact q.lt
  have ownGe:∀ x c,(x,c)∈cellsFrom (s.heap.objs.size+1) scope.names []→s.heap.objs.size+1≤c:=fun x c e=>(hC.empty x c e).2
  refine⟨⟨I.ok.mod,S.kind,I.ok.glob,I.ok.blt,Nat.le_refl _,fun x y c h1 h2=>?_,fun x hx=>?_,fun x c h1 h2=>?_,I.ok.hd,I.ok.frames,.inl rfl,fun b hb=>⟨Nat.ne_of_lt (hlt b hb),fun x c e=>?_⟩,fun b o e=>I.bs b o e,Nat.le_trans I.ok.bsz I.sz,fun b o e hb=>?_,fun b hb hz=>?_,I.stack,I.stkFree⟩,
    rfl,I.bare,Un.kept keep,⟨fun _=>none,?_,fun i x v h1 h2 h3=>?_⟩,fun x c e=>?_,I.hok.fresh (Nat.le_refl _),fun x c e=>?_,fun p hp=>?_,I.hok.kept keep,?_⟩
  · rcases look x c h1 with q|q<;>rcases look y c h2 with r|r
    · exact name_of_addr hC.apart q r
    · exact absurd (Nat.lt_trans (outerLt y c r) (ownGe x c q)) (Nat.lt_irrefl _)
    · exact absurd (Nat.lt_trans (outerLt x c q) (ownGe y c r)) (Nat.lt_irrefl _)
    · exact I.ok.inj x y c q r
  · have own:∀ k,scope.names.lookup x=some k→k=.cell∨k=.free→∃ c,(cellsFrom (s.heap.objs.size+1) scope.names cl).lookup x=some c:=fun k hk hkk=>by
      refine Option.isSome_iff_exists.mp (PySem.W.cellsFrom_some _ _ _ ?_)
      rcases hkk with rfl|rfl
      · exact .inl hk
      · obtain⟨c,q⟩:=hcl2 x (PySem.mem_of_lookup hk)
        exact .inr (by rw [q];rfl)
    rcases hx with hx|hx
    · obtain⟨k',e,q|q⟩:=zc6 (scope:=scope) (env:=X.env) hx
      · subst q;exact own _ e (.inl rfl)
      · exact own _ e (.inr q.1)
    · obtain⟨k',e,q|q⟩:=zc6 (scope:=scope) (env:=X.env) hx
      · subst q;exact own _ e (.inr rfl)
      · cases q.2
  · have hc:scope.names.lookup x=some .cell:=of_decide_eq_true h1
    rcases look x c h2 with q|q
    · exact Nat.le_of_lt (ownGe x c q)
    · exfalso
      have h2':(cellsFrom (s.heap.objs.size+1) scope.names cl).lookup x=some c:=h2;rw [Ju,List.lookup_append] at h2';obtain⟨c',q'⟩:=Option.isSome_iff_exists.mp (PySem.W.cellsFrom_some scope.names (s.heap.objs.size+1) [] (.inl hc));rw [q'] at h2';cases h2';exact absurd (Nat.lt_trans (outerLt x c q) (ownGe x c (PySem.mem_of_lookup q'))) (Nat.lt_irrefl _)
  · rcases look x c e with q|q
    · intro z;subst z
      exact absurd (Nat.lt_trans (hlt c hb) (ownGe x c q)) (Nat.lt_irrefl _)
    · exact(hfp b hb).2.2.2.2.1 x c q
  · rcases(hfp b hb).2.2.2.1 with z|z
    · exact I.ok.noex b o e z
    · exact absurd (Nat.lt_of_lt_of_le (Heap.lt_size (I.ok.bs b o e).1) z) (Nat.lt_irrefl _)
  · rcases List.mem_cons.mp (I.stkSub b hz) with z|z
    · exact(hfp b hb).2.1 z
    · exact(hfp b hb).2.2.1 z
  · exact(Heap.Ns.new s.heap (.type "dict")).keeps (pushCells_keeps _ _)
  · unfold cst at h2
    by_cases hi:i<tn.length
    · rw [List.getElem?_append_left (by simpa using hi),List.getElem?_replicate,if_pos hi] at h2
      cases h2
    · rw [List.getElem?_append_right (by simpa using hi),List.length_replicate,List.getElem?_map] at h2
      cases ej:js[i - tn.length]? with
      | none=>rw [ej] at h2;cases h2
      | some j=>
        rw [ej] at h2;have h2':(σ[j]?).join=some v:=Option.some.inj h2;have hσ : σ[j]?=some (some v):=by
          cases q:σ[j]? with
          | none=>rw [q] at h2';cases h2'
          | some o => rw [q] at h2'; cases o with
            | none=>cases h2'
            | some v'=>cases h2';rfl
        have h1':(tn++fn)[i]?=some x:=h1;rw [List.getElem?_append_right (by omega)] at h1'
        have hN:X.N[j]?=some x:=by
          have e:=congrArg (fun l=>l[i - tn.length]?) hj
          simp only [List.getElem?_map,ej,h1',Option.map_some] at e;exact Option.some.inj e
        have hfx:scope.names.lookup x=some .free:=S.frees x (List.mem_of_getElem? h1');obtain⟨m,hn,hl⟩:=I.loc;have ok:X.env.scope.names.lookup x=some .cell∨X.env.scope.names.lookup x=some .free:=S.free (x,.free) (PySem.mem_of_lookup hfx) rfl;obtain⟨u,r,l⟩:=hl j x v hN hσ (by rcases ok with z|z;exact .inr (.inl z);exact .inr (.inr z))
        refine⟨u,r,.inr ⟨zi5 hfx,?_⟩⟩
        rcases l with ⟨k,_⟩|⟨_,c,ec,q⟩
        · have k':X.env.scope.names.lookup x=some .local:=k
          rcases ok with z|z<;>rw [z] at k'<;>cases k'
        · refine⟨c,?_,q.keeps keep⟩
          show(cellsFrom (s.heap.objs.size+1) scope.names cl).lookup x=some c
          rw [Ju,List.lookup_append];have e1:(cellsFrom (s.heap.objs.size+1) scope.names []).lookup x=none:=by
            cases q1:(cellsFrom (s.heap.objs.size+1) scope.names []).lookup x with
            | none=>rfl
            | some c1=>
              have e2:=S.cell (x,.cell) (zbo _ _ _ _ (PySem.mem_of_lookup q1)) rfl;have e2':scope.names.lookup x=some .cell:=e2;rw [hfx] at e2';cases e2'
          obtain⟨c2,q2⟩:=hcl2 x (PySem.mem_of_lookup hfx);have:=hcl x c2 q2;rw [ec] at this;cases this;rw [e1,q2];rfl
  · rcases look x c e with q|q
    · exact⟨_,(hC.empty x c q).1⟩
    · obtain⟨v,z⟩:=I.cell x c q
      exact⟨v,z.keeps keep⟩
  · rcases look x c e with q|q
    · exact I.hok.fresh (Nat.le_of_lt (ownGe x c q))
    · exact I.freeC x c q
  · exact absurd (show p∈([]:List (Addr×Obj)) from hp) (by simp)
  · unfold cst
    show _=(tn++fn).length
    have:js.length=fn.length:=by have:=congrArg List.length hj;simpa using this
    rw [List.length_append,List.length_replicate,List.length_map,List.length_append,this]
section
variable {X:Cx} {pins:List (Addr×Obj)} {σ : L2.St} {H:Hp} {s:Shared} {h':Heap}
theorem Inv.turnedL {t':Nat} {ch:List Addr} (I:Inv X pins σ H s) (k:∀ b o,b∉ch→s.heap.get? b=some o→h'.get? b=some o) (hf:∀ b∈ch,FpOk X pins H b):Inv X pins σ H { s with heap:=h',toks:=t' }:=by
  have nit:∀ b u,H b=some u→b∉ch:=fun b u e z=>by have:=(hf b z).1;rw [e] at this;cases this
  refine I.step (g':=s.gens) (d':=s.drawn) (ch:=ch) (fun b hb=>⟨(hf b hb).2.2.2.1,(hf b hb).2.1,(hf b hb).2.2.2.2.1,(hf b hb).2.2.2.2.2⟩) (fun b o _ _ hc e _=>k b o hc e) (fun b o _ _ hc e _=>⟨o.slots,k b o hc e⟩) (fun _ _ _ _ n=>n)
    (fun b o hc e=>⟨o,k b o hc e⟩) (fun _ _ e=>e) (fun _ _ _ e=>e) (fun b ps e=>⟨#[],by rw [e];simp⟩) (fun m hm=>?_) (fun b u e=>?_) I.bare
  · obtain⟨o,es,ep,ho,r⟩:=hm
    exact⟨o,es,ep,k _ o (fun z=>(hf _ z).2.1 rfl) ho,r⟩
  · refine(I.hok b u e).stay (fun c v hc q=>k c v ?_ q) (fun _ q=>q) fun _ _ q=>q
    rcases hc with z|z
    · rw [z];exact nit b u e
    · exact nit c _ z
theorem Inv.track {a:Addr} {o:HO} (I:Inv X pins σ H s) (hn:H a=none) (h0:X.s₀.heap.objs.size≤a) (hL:a≠X.env.locals) (hc:∀ x c,X.env.cells.lookup x=some c→c≠a) (hp:∀ p∈X.pn++pins,p.1≠a) (new:zX X.prog X.w (upd H a o) s.heap a o):Inv X pins σ (upd H a o) s:=by
  have no0:∀ b ob,X.s₀.heap.get? b=some ob→b≠a:=fun b ob e=>Nat.ne_of_lt (Nat.lt_of_lt_of_le (Heap.lt_size e) h0)
  refine⟨I.ok,I.os,I.bare,⟨I.base.keep,I.base.slot,fun b ob q n hx=>?_,I.base.there,fun b xs q=>?_,fun b ob u q=>?_,fun b ps q=>?_⟩,I.loc,I.cell,?_,fun x c e=>?_,fun p h=>?_,I.hok.track hn new,I.len⟩
  · rw [zh (no0 b ob q)];exact I.base.free b ob q n hx
  · have e:=I.base.tups b xs q;rw [zh (zN e hn)];exact e
  · have e:=I.base.frzs b ob u q;rw [zh (zN e hn)];exact e
  · obtain⟨m,e⟩:=I.base.tbls b ps q;exact⟨m,by rw [zh (zN e hn)];exact e⟩
  · rw [zh (Ne.symm hL)];exact I.free
  · rw [zh (hc x c e)];exact I.freeC x c e
  · obtain⟨q1,q2,q3⟩:=I.pin p h
    exact⟨q1,by rw [zh (hp p h)];exact q2,q3⟩
end
def tTrue:TT:=fun _ H Q=>Q true H
def Z8 (wi:TI) (g:TG) (tt:TT) (te:TE) (n:Nat) (js:List Nat):TE:=fun σ H Q=>wi σ H fun J H1=>∀ D,H1 D=none→∃ W:Nat→Nat→List V→St→Hp→Prop,(∃ m,W 0 m [] (cst n js σ) (upd H1 D (.lst [])))∧∀ i m ys σ1 H2,W i m ys σ1 H2→
  (J.stop i H2∧Q (.ref D) H2)∨(J.go i H2∧∀ x H3,J.yld i H2 x H3→g x σ1 H3 fun σ4 H4=>tt σ4 H4 fun b H5=>if b=true then te σ4 H5 fun y H6=>H6 D=some (.lst ys)∧ys.length<sizeLine∧∃ m',m'<m∧W (i+1) m' (ys++[y]) σ4 (upd H6 D (.lst (ys++[y]))) else ∃ m',m'<m∧W (i+1) m' ys σ4 H5)
def PTs (X:Cx) (ifs:List Expr) (t:TT):Prop:=
  ∀ (pins:List (Addr×Obj)) (s:Shared) (σ : St) (H:Hp) (Q:Bool→Hp→Prop),Inv X pins σ H s→t σ H Q→
    wpAny (model X.prog X.w) X.A (forIn ifs true fun c r=>if r=true then do let ok ←isTrue c X.env (eval c X.env);pure (ForInStep.yield ok) else pure (ForInStep.yield r)) (TP X pins σ Q) X.xe s
theorem zeI {X:Cx}:PTs X [] tTrue:=fun _ _ _ H _ I h=>wpAny_tests_nil ⟨H,I,h⟩
theorem zbP {X:Cx} {elt tg iter:Expr} {ifs:List Expr} {scope:Scope} {pos pos':Pos} {wi:TI} {g:TG} {tt:TT} {te:TE} {use:Option (Value→Sem Unit)} {Qc:Value→Shared→Prop} (tn fn:List Str) (js:List Nat) (hcalm:X.calm=true) (S:CompSc X.env.scope scope tn fn) (hj:js.map (fun j=>X.N[j]?)=fn.map some) (hi:PI X tg iter wi)
    (hb:∀ s H fp cl,PG (X.comp scope (tn++fn) s H fp cl) tg g∧PTs (X.comp scope (tn++fn) s H fp cl) ifs tt∧PE (X.comp scope (tn++fn) s H fp cl) elt te)
    (hs:∀ x,foldedSetIterable iter X.env x=pure x) {pins:List (Addr×Obj)} {s:Shared} {σ : L2.St} {H:Hp} {Q:VK} (I:Inv X pins σ H s) (h:Z8 wi g tt te tn.length js σ H Q)
    (fin:∀ (D C:Addr) (s6:Shared) (H5:Hp) (m6:Str→Option Value),s6.heap.Ns C m6→FpOk X pins H5 C→Inv X pins σ H5 s6→Q (.ref D) H5→compPost (model X.prog X.w) X.A X.xe use Qc (.ref D) C (.ok .next) s6) :
    wpAny (model X.prog X.w) X.A (comprehension (.ListComp elt [⟨tg,iter,ifs,0⟩] scope pos) scope X.env pos' (newList []) false (eval iter X.env) use) Qc X.xe s:=by
  obtain⟨cl,hclos,hcl,hcl2⟩:=zgs (env:=X.env) (scope:=scope) (fun x hx e=>I.ok.has x.1 (S.free x hx e))
  refine wpAny_comprehension_free (use:=use) rfl hs hclos S.kind S.loc (thn (hi pins s σ H _ I h) fun v s1 h1=>thn h1 fun itv s2 h2=>?_)
  obtain⟨it,fp,tn',J,H2,e,I2,T,st2,f2,k⟩:=h2;subst e;have hD:H2 s2.heap.objs.size=none:=I2.fresh;obtain⟨W,⟨m0,w0⟩,turn⟩:=k _ hD;refine wpAny_newObj_type ?_;have I3:Inv X pins σ (upd H2 s2.heap.objs.size (.lst [])) { s2 with heap:=s2.heap.push { cls:=.type "list", data:=.seq ([]:List Value).toArray } }:=I2.lnew (t':=s2.toks) (ys:=[]) (its:=[]) .nil (Nat.zero_le _)
  generalize hs3:({ s2 with heap:=s2.heap.push { cls:=.type "list", data:=.seq ([]:List Value).toArray } }:Shared)=s3 at I3
  have hs3':s3.heap.objs.size=s2.heap.objs.size+1:=by rw [←hs3];exact Heap.size_push ..
  have up3:∀ b o,s2.heap.get? b=some o→s3.heap.get? b=some o:=fun b o e=>by rw [←hs3];exact Heap.get?_push_of_some _ e
  have flt:∀ b∈fp,b<s2.heap.objs.size:=fun b hb=>by
    obtain⟨o,e,_⟩:=T.obj _ _ st2 b hb;exact Heap.lt_size e
  generalize hDn:s2.heap.objs.size=D at *;have f3:∀ b∈fp,FpOk X pins (upd H2 D (.lst [])) b:=fun b hb=>⟨by rw [zh (Nat.ne_of_lt (flt b hb))];exact(f2 b hb).1,(f2 b hb).2⟩
  have flt3:∀ b∈fp,b<s3.heap.objs.size:=fun b hb=>by rw [hs3'];exact Nat.lt_succ_of_lt (flt b hb)
  have I4:=zeN I3 S hj f3 flt3 hcl hcl2;have st4:tn' 0 (pushCells (s3.heap.push { cls:=.type "dict", data:=.dict #[] }) scope.names):=T.keep _ _ _ st2 fun b _ o e=>pushCells_keeps _ _ b o (Heap.get?_push_of_some _ (up3 b o e))
  obtain⟨pg,pt,pe⟩:=hb s3 (upd H2 D (.lst [])) fp cl;generalize hX:X.comp scope (tn++fn) s3 (upd H2 D (.lst [])) fp cl=Y at I4 pg pt pe;have Yp:Y.prog=X.prog:=by rw [←hX];rfl
  have Yw:Y.w=X.w:=by rw [←hX];rfl
  have YK:Y.K=X.K:=by rw [←hX];rfl
  have YA:Y.A=X.A:=by rw [←hX];rfl
  have Yc:Y.calm=true:=by rw [←hX];exact hcalm
  have Yxe:Y.xe=fun _ _=>False:=by rw [←hX];rfl
  have Yex:Y.ex=fp:=by rw [←hX];rfl
  have Yfs:Y.fs=frs X.stack:=by rw [←hX];rfl
  have Ypn:Y.pn=[]:=by rw [←hX];rfl
  have Ys:Y.s₀ = s3:=by rw [←hX];rfl
  have YH:Y.H₀ = upd H2 D (.lst []):=by rw [←hX];rfl
  have YC:Y.env.locals=s3.heap.objs.size:=by rw [←hX];rfl
  have Yenv:({ scope:=relabel scope X.env,locals:=s3.heap.objs.size,globals:=X.env.globals,cells:=cellsFrom (s3.heap.objs.size+1) scope.names cl,qual:=X.env.qual,func:=none,code:=X.env.code,frame:=X.env.frame,builtins:=X.env.builtins }:Env)=Y.env:=by rw [←hX];rfl
  have stat:∀ {H':Hp},(∀ b∈fp,H' b=none)→∀ b∈fp,FpOk Y [] H' b:=fun hn b hb=>by
    refine⟨hn b hb,?_,?_,.inl (by rw [Yex];exact hb),fun x c e=>(I4.ok.exf b (by rw [Yex];exact hb)).2 x c e,fun p hp=>?_⟩
    · rw [YC];exact Nat.ne_of_lt (flt3 b hb)
    · exact I4.ok.exfs b (by rw [Yex];exact hb)
    · rw [Ypn] at hp;exact absurd (show p∈([]:List (Addr×Obj)) from hp) (by simp)
  have loop:codeAny (model X.prog X.w) X.A (.compLoop (.ListComp elt [⟨tg,iter,ifs,0⟩] scope pos) 0 (.ref it) (.ref D) Y.env) (compPost (model X.prog X.w) X.A X.xe use Qc (.ref D) s3.heap.objs.size)
      { s3 with heap:=pushCells (s3.heap.push { cls:=.type "dict", data:=.dict #[] }) scope.names }:=by
    refine codeAny_loop rfl (fun n s'=>∃ i ys σ' H',Inv Y [] σ' H' s'∧tn' i s'.heap∧(∀ b∈fp,H' b=none)∧W i n ys σ' H') (fun n s5 hI=>?_) m0 ⟨0,[],_,_,I4,st4,fun b hb=>(f3 b hb).1,w0⟩
    obtain⟨i,ys,σ5,H5,I5,st5,fr5,w5⟩:=hI;show wpAny _ X.A ((compTurn (.ListComp elt [⟨tg,iter,ifs,0⟩] scope pos) 0 (.ref it) (.ref D) Y.env).onRaise (fun x=>do noteFrame x Y.env;theTreesLotGoes x)) _ _ s5
    refine wpAny_noted ?_
    rw [compTurn_list];refine wpAny_bind (wpAny_standAt (wpAny_bind ?_))
    rcases turn i n ys σ5 H5 w5 with ⟨stop,qn⟩|⟨go,step⟩
    · have d:=T.done Y Yp Yw YK Yc i [] s5 σ5 H5 (fun _ _=>False) I5 (stat fr5) st5 stop
      rw [YA] at d;refine wpAny_mono d (fun r s6 ⟨hr,I6⟩=>?_) fun _ _ z=>z.elim
      subst hr;refine wpAny_pure ?_;obtain⟨m6,ns6,_⟩:=I6.loc;rw [YC] at ns6;have hC:H5 s3.heap.objs.size=none:=by have:=I6.free;rwa [YC] at this
      have u6:=I6.base;rw [Yfs,Yex,YH,Ys] at u6;have os6:=I6.os;rw [Ys] at os6;have hok6:=I6.hok;rw [Yp,Yw] at hok6;have IX:Inv X pins σ H5 s6:=I3.call' (s':=s6) os6 u6 hok6 I6.bare (fun b hb=>⟨(f3 b hb).2.2.2.1,(f3 b hb).2.1,(f3 b hb).2.2.2.2.1,(f3 b hb).2.2.2.2.2⟩)
      exact fin D s3.heap.objs.size s6 H5 m6 ns6 (I3.fpOk (H':=H5) (Nat.le_refl _) hC) IX qn
    · have d:=T.item Y Yp Yw YK Yc i [] s5 σ5 H5 (fun _ _=>False) I5 (stat fr5) st5 go
      rw [YA] at d;refine wpAny_mono d (fun r s6 ⟨u,hr,h6⟩=>?_) fun _ _ z=>z.elim
      subst hr;refine wpAny_bind (wpAny_mono h6 (fun _ s7 ⟨x,H7,I7,r7,y7,st7,fr7⟩=>?_) fun _ _ z=>z.elim)
      have I7':=I7.pinned (stat fr7) (T.obj _ _ st7);have a8:=pg _ s7 σ5 H7 x u _ I7' r7 (step x H7 y7);rw [YA,Yp,Yw,Yxe] at a8;refine wpAny_bind (wpAny_mono a8 (fun _ s8 ⟨σ8,H8,I8,q8⟩=>?_) fun _ _ z=>z.elim)
      have a9:=pt _ s8 σ8 H8 _ I8 q8;rw [YA,Yp,Yw,Yxe] at a9;have again:∀ {H':Hp} {s':Shared} {ys':List V} {m':Nat},m'<n→Inv Y ([]++ZH fp s7.heap) σ8 H' s'→W (i+1) m' ys' σ8 H'→∃ m,m<n∧∃ i ys σ' H',Inv Y [] σ' H' s'∧tn' i s'.heap∧(∀ b∈fp,H' b=none)∧W i m ys σ' H':=fun {H' s' ys' m'} hm I' w'=>by
        refine⟨m',hm,i+1,ys',σ8,H',I'.unpinned,T.keep _ _ _ st7 fun b hb o e=>(I'.pin (b,o) (List.mem_append_right _ (List.mem_append_right _ (zaz hb e)))).1,fun b hb=>?_,w'⟩
        obtain⟨o,e,d⟩:=T.obj _ _ st7 b hb;exact(I'.pin (b,o) (List.mem_append_right _ (List.mem_append_right _ (zaz hb e)))).2.1
      refine wpAny_bind (wpAny_mono a9 (fun ok s9 ⟨H9,I9,q9⟩=>?_) fun _ _ z=>z.elim)
      cases ok with
      | false=>
        obtain⟨m',hm,w9⟩:=q9;exact wpAny_pure ⟨rfl,again hm I9 w9⟩
      | true=>
        have a10:=pe _ s9 σ8 H9 _ I9 q9;rw [YA,Yp,Yw,Yxe] at a10;refine wpAny_bind (wpAny_bind (wpAny_mono a10 (fun y10 s10 ⟨y,H10,I10,r10,e10,hz,m',hm,w10⟩=>?_) fun _ _ z=>z.elim))
        have a11:=zbZ (X:=Y) _ s10 σ8 H10 (.ref D) [y] (.ref D) [y10] (fun _ H'=>H'=upd H10 D (.lst (ys++[y]))) I10 rfl (.cons r10 .nil) ⟨D,ys,y,rfl,rfl,e10,hz,rfl⟩
        rw [YA,Yp,Yw,Yxe] at a11;refine wpAny_bind (wpAny_mono a11 (fun _ s11 ⟨_,H11,I11,_,e11⟩=>?_) fun _ _ z=>z.elim)
        subst e11;exact wpAny_pure (wpAny_pure ⟨rfl,again hm I11 w10⟩)
  have env4:wpAny (model X.prog X.w) X.A (newFunctionEnv scope X.env.globals cl [] X.env.qual none .none (some X.env)) (fun cenv s₄=>
      codeAny (model X.prog X.w) X.A (.compStart (.ListComp elt [⟨tg,iter,ifs,0⟩] scope pos) 0 (.ref it) (.ref D) { cenv with scope:=relabel scope X.env }) (compPost (model X.prog X.w) X.A X.xe use Qc (.ref D) cenv.locals) s₄) X.xe s3:=by
    simp only [newFunctionEnv,Option.isSome_some,if_true];refine wpAny_bind (wpAny_alloc ?_);refine wpAny_bind (wpAny_layCells _ (fun name kind cells=>by cases hkc:kind==NameKind.cell<;>simp [hkc]) _ _ _ _ ?_)
    rw [List.forIn_nil];refine wpAny_bind (wpAny_pure (wpAny_pure ?_));rw [show({ s3 with heap:=s3.heap.push { cls:=.type "dict", data:=.dict #[] } }:Shared).heap.objs.size=s3.heap.objs.size+1 from Heap.size_push ..]
    dsimp only;rw [Yenv];exact codeAny_compStart_list loop (T.self _ 0 _ _ _ st4 loop)
  exact env4
theorem zeM {X:Cx} {elt tg iter:Expr} {ifs:List Expr} {scope:Scope} {pos:Pos} {wi:TI} {g:TG} {tt:TT} {te:TE} (tn fn:List Str) (js:List Nat) (hcalm:X.calm=true) (S:CompSc X.env.scope scope tn fn) (hj:js.map (fun j=>X.N[j]?)=fn.map some) (hi:PI X tg iter wi)
    (hb:∀ s H fp cl,PG (X.comp scope (tn++fn) s H fp cl) tg g∧PTs (X.comp scope (tn++fn) s H fp cl) ifs tt∧PE (X.comp scope (tn++fn) s H fp cl) elt te)
    (hs:∀ x,foldedSetIterable iter X.env x=pure x:=by intro _;rfl) :
    PE X (.ListComp elt [⟨tg,iter,ifs,0⟩] scope pos) (Z8 wi g tt te tn.length js):=by
  intro pins s σ H Q I h;rw [eval_ListComp];refine zbP (use:=none) tn fn js hcalm S hj hi hb hs I h fun D C s6 H5 m6 ns6 hC I6 q=>⟨m6,ns6,fun h' sb=>⟨.ref D,H5,?_,rfl,q⟩⟩
  exact I6.turnedL (t':=s6.toks) (ch:=[C]) (fun b o hb e=>sb.extBut b o (by simpa using hb) e) fun b hb=>by
    have e:b=C:=by simpa using hb
    subst e;exact hC
theorem zb6 {X:Cx} {elt tg iter:Expr} {ifs:List Expr} {scope:Scope} {pos spos pos':Pos} {wi:TI} {g:TG} {tt:TT} {te:TE} {i:Nat} {x:Str} (hN:X.N.Nodup) (hix:X.N[i]?=some x) (hx:Loc X.env.scope x) (tn fn:List Str) (js:List Nat) (hcalm:X.calm=true) (S:CompSc X.env.scope scope tn fn) (hj:js.map (fun j=>X.N[j]?)=fn.map some) (hi:PI X tg iter wi)
    (hb:∀ s H fp cl,PG (X.comp scope (tn++fn) s H fp cl) tg g∧PTs (X.comp scope (tn++fn) s H fp cl) ifs tt∧PE (X.comp scope (tn++fn) s H fp cl) elt te)
    (hs:∀ x,foldedSetIterable iter X.env x=pure x:=by intro _;rfl)
    (hsw:swapsWith (.ListComp elt [⟨tg,iter,ifs,0⟩] scope pos) (some (.Name x pos')) spos.line X.env=pure true:=by rfl) (hf:X.fn x=true∨X.env.scope.names.lookup x=some .local:=by first|exact .inl rfl|exact .inr rfl|assumption) :
    PS X (.Assign [.Name x pos'] (.ListComp elt [⟨tg,iter,ifs,0⟩] scope pos) spos) (tAsg (Z8 wi g tt te tn.length js) (zaS i)):=by
  intro pins s σ H D I h;rw [exec_Assign_Name_used _ _ _ _ hsw];refine wpAny_bind (wpAny_standAt (wpAny_bind ?_));show wpAny _ X.A (do let _ ←comprehension (.ListComp elt [⟨tg,iter,ifs,0⟩] scope pos) scope X.env _ (newList []) false (eval iter X.env) (some (assign (.Name x pos') X.env))) _ _ s
  refine wpAny_bind (wpAny_mono (zbP (use:=some (assign (.Name x pos') X.env)) (Qc:=fun _ s'=>SP X pins D .next s') tn fn js hcalm S hj hi hb hs I h fun L C s6 H5 m6 ns6 hC I6 q=>?_) (fun _ s' hq=>wpAny_pure (wpAny_pure hq)) fun _ _ e=>e)
  show wpAny _ X.A (assign (.Name x pos') X.env (.ref L)) _ _ s6
  refine wpAny_assign_Name (zc3 I6 hN hix hx (v:=.ref L) rfl (fun s7 I7 k7=>?_) hf)
  have kC:∃ m7,s7.heap.Ns C m7:=by
    obtain⟨a,sb,ha⟩:=k7;refine⟨m6,ns6.sameBut sb fun z=>?_⟩
    rcases ha with e|e
    · exact hC.2.1 (z.trans e)
    · exact hC.2.2.2.2.1 x a e z.symm
  obtain⟨m7,ns7⟩:=kC;refine⟨m7,ns7,fun h' sb=>⟨_,H5,I7.turnedL (t':=s7.toks) (ch:=[C]) (fun b o hb e=>sb.extBut b o (by simpa using hb) e) fun b hb=>?_,q⟩⟩
  have e:b=C:=by simpa using hb
  subst e;exact hC
theorem RdVs.length {K:PySem.W.Frag} {H:Hp} {xs:List V} {ds:List PyData} (h:RdVs K H xs ds):xs.length=ds.length:=by
  induction xs generalizing ds with
  | nil=>cases h;rfl
  | cons x xs ih=>cases h with|cons a b=>rw [List.length_cons,List.length_cons,ih b]
theorem RdVs.get {K:PySem.W.Frag} {H:Hp} {xs:List V} {ds:List PyData} {i:Nat} {d:PyData} (h:RdVs K H xs ds) (e:ds[i]?=some d):∃ x,xs[i]?=some x∧RdV K H x d:=by
  induction xs generalizing ds i with
  | nil=>cases h;simp at e
  | cons x xs ih=>
    cases h with
    | cons a b=>
      cases i with
      | zero=>cases e;exact⟨_,rfl,a⟩
      | succ i=>
        obtain⟨x,h1,h2⟩:=ih b (i:=i) (by simpa using e)
        exact⟨x,by simpa using h1,h2⟩
theorem RdVs.append {K:PySem.W.Frag} {H:Hp} {xs ys:List V} {ds es:List PyData} (h:RdVs K H xs ds) (h':RdVs K H ys es):RdVs K H (xs++ys) (ds++es):=by
  induction xs generalizing ds with
  | nil=>cases h;exact h'
  | cons x xs ih=>cases h with|cons a b=>exact .cons a (ih b)
theorem RdVs.set {K:PySem.W.Frag} {H:Hp} {x:V} {d:PyData} (h:RdV K H x d) {xs:List V} {ds:List PyData} (i:Nat) (r:RdVs K H xs ds):RdVs K H (xs.set i x) (ds.set i d):=by
  induction xs generalizing ds i with
  | nil=>cases r;exact .nil
  | cons y xs ih=>
    cases r with
    | cons a b=>
      cases i with
      | zero=>exact .cons h b
      | succ i=>exact .cons a (ih i b)
theorem RdVs.take {K:PySem.W.Frag} {H:Hp} {xs:List V} {ds:List PyData} (i:Nat) (r:RdVs K H xs ds):RdVs K H (xs.take i) (ds.take i):=by
  induction xs generalizing ds i with
  | nil=>cases r;rw [List.take_nil,List.take_nil];exact .nil
  | cons y xs ih=>
    cases r with
    | cons a b=>
      cases i with
      | zero=>exact .nil
      | succ i=>exact .cons a (ih i b)
theorem RdVs.drop {K:PySem.W.Frag} {H:Hp} {xs:List V} {ds:List PyData} (i:Nat) (r:RdVs K H xs ds):RdVs K H (xs.drop i) (ds.drop i):=by
  induction xs generalizing ds i with
  | nil=>cases r;rw [List.drop_nil,List.drop_nil];exact .nil
  | cons y xs ih=>
    cases r with
    | cons a b=>
      cases i with
      | zero=>exact .cons a b
      | succ i=>exact ih i b
theorem RdVs.eraseIdx {K:PySem.W.Frag} {H:Hp} {xs:List V} {ds:List PyData} (i:Nat) (r:RdVs K H xs ds):RdVs K H (xs.eraseIdx i) (ds.eraseIdx i):=by
  induction xs generalizing ds i with
  | nil=>cases r;exact .nil
  | cons y xs ih=>
    cases r with
    | cons a b=>
      cases i with
      | zero=>exact b
      | succ i=>exact .cons a (ih i b)
end L2
namespace L3
open PySem PySem.Spec PyProof.Rows L2
abbrev D:=PyData
inductive Cl where
  | sh (f:Bool) (d:D)
  | ow (f:Bool) (ds:List D)
  | tr (ps:List Addr) (ms:List (List D))
  | dt (ds:List (List Key×D))
  | ex (C:Addr)
def Cl.d:Cl→D
  | .sh _ d=>d
  | .ow _ ds=>.list ds
  | .tr _ _=>.none
  | .dt _=>.none
  | .ex _=>.none
def Cl.f:Cl→Bool
  | .sh f _=>f
  | .ow f _=>f
  | .tr _ _=>false
  | .dt _=>false
  | .ex _=>false
def zy:D→Bool
  | .int _=>true|.bool _=>true|.str _=>true|.none=>true|_=>false
abbrev Env3:=List (Option Cl)
structure Gr (G H G' H':Hp):Prop where
  g:Same G G'
  h:Same H H'
  sub:Same G' H'
  new:∀ b o,G' b=some o→G b=some o∨H b=none
theorem Gr.refl {G H:Hp} (s:Same G H):Gr G H G H:=⟨Same.refl _,Same.refl _,s,fun _ _ e=>.inl e⟩
theorem Gr.trans {G H G1 H1 G2 H2:Hp} (a:Gr G H G1 H1) (b:Gr G1 H1 G2 H2):Gr G H G2 H2:=
  ⟨a.g.trans b.g,a.h.trans b.h,b.sub,fun c o e=>by
    rcases b.new c o e with q|q
    · exact a.new c o q
    · exact .inr (a.h.free q)⟩
theorem Gr.put {G H:Hp} {p:Addr} {o:HO} (s:Same G H) (hp:H p=none):Gr G H (upd G p o) (upd H p o):=
  ⟨ja (s.free hp) o,ja hp o,fun b u e=>by
    by_cases hb:b=p
    · subst hb;rw [zB] at e ⊢;exact e
    · rw [zh hb] at e ⊢;exact s b u e,fun b u e=>by
    by_cases hb:b=p
    · subst hb;exact .inr hp
    · rw [zh hb] at e;exact .inl e⟩
theorem Gr.apart {G H:Hp} {p:Addr} {o:HO} (s:Same G H) (hp:H p=none):Gr G H G (upd H p o):=
  ⟨Same.refl _,ja hp o,s.trans (ja hp o),fun _ _ e=>.inl e⟩
mutual
theorem Zk {K:PySem.W.Frag} {H H':Hp} (e:Same H H'):∀ {x:V} {d:D},RdV K H x d→RdV K H' x d
  | _,_,.non=>.non
  | _,_,.bl b=>.bl b
  | _,_,.int i=>.int i
  | _,_,.str x=>.str x
  | _,_,.lst q r=>.lst (e.seq q) (rdvs_same e r)
  | _,_,.tup q r=>.tup (e.tup q) (rdvs_same e r)
theorem rdvs_same {K:PySem.W.Frag} {H H':Hp} (e:Same H H'):∀ {xs:List V} {ds:List D},RdVs K H xs ds→RdVs K H' xs ds
  | _,_,.nil=>.nil
  | _,_,.cons a b=>.cons (Zk e a) (rdvs_same e b)
end
mutual
inductive RdN (K:PySem.W.Frag) (H0 G:Hp):V→D→Prop
  | non:RdN K H0 G .non .none
  | bl (b):RdN K H0 G (.bl b) (.bool b)
  | int (i):RdN K H0 G (.int i) (.int i)
  | str (x):RdN K H0 G (.str x) (.str x)
  | lst {a xs ds}:G a=some (.lst xs)→H0 a=none→RdNs K H0 G xs ds→RdN K H0 G (.ref a) (.list ds)
  | tup {a xs ds}:SqT K G a xs→RdNs K H0 G xs ds→RdN K H0 G (.ref a) (.tuple ds)
inductive RdNs (K:PySem.W.Frag) (H0 G:Hp):List V→List D→Prop
  | nil:RdNs K H0 G [] []
  | cons {x xs d ds}:RdN K H0 G x d→RdNs K H0 G xs ds→RdNs K H0 G (x::xs) (d::ds)
end
mutual
theorem zbE {K:PySem.W.Frag} {H0 G:Hp}:∀ {x:V} {d:D},RdN K H0 G x d→RdV K G x d
  | _,_,.non=>.non
  | _,_,.bl b=>.bl b
  | _,_,.int i=>.int i
  | _,_,.str x=>.str x
  | _,_,.lst q _ r=>.lst (SqL.of q) (rdns_rd r)
  | _,_,.tup q r=>.tup q (rdns_rd r)
theorem rdns_rd {K:PySem.W.Frag} {H0 G:Hp}:∀ {xs:List V} {ds:List D},RdNs K H0 G xs ds→RdVs K G xs ds
  | _,_,.nil=>.nil
  | _,_,.cons a b=>.cons (zbE a) (rdns_rd b)
end
mutual
theorem jX {K:PySem.W.Frag} {H0 H1 G G':Hp} (e:Same G G') (h:∀ a o,G a=some o→H0 a=none→H1 a=none):∀ {x:V} {d:D},RdN K H0 G x d→RdN K H1 G' x d
  | _,_,.non=>.non
  | _,_,.bl b=>.bl b
  | _,_,.int i=>.int i
  | _,_,.str x=>.str x
  | _,_,.lst q n r=>.lst (e _ _ q) (h _ _ q n) (rdns_mono e h r)
  | _,_,.tup q r=>.tup (e.tup q) (rdns_mono e h r)
theorem rdns_mono {K:PySem.W.Frag} {H0 H1 G G':Hp} (e:Same G G') (h:∀ a o,G a=some o→H0 a=none→H1 a=none):∀ {xs:List V} {ds:List D},RdNs K H0 G xs ds→RdNs K H1 G' xs ds
  | _,_,.nil=>.nil
  | _,_,.cons a b=>.cons (jX e h a) (rdns_mono e h b)
end
theorem ZP {K:PySem.W.Frag} {H0 G:Hp} {v:V} {d:D} (h:zy d=true) (r:RdV K G v d):RdN K H0 G v d:=by
  cases r with
  | non=>exact .non
  | bl b=>exact .bl b
  | int i=>exact .int i
  | str s=>exact .str s
  | lst _ _=>cases h
  | tup _ _=>cases h
structure Rf (K:PySem.W.Frag) (H0 G:Hp) (f:Bool) (v:V) (d:D):Prop where
  rd:RdV K G v d
  nw:f=true→RdN K H0 G v d
structure Rfs (K:PySem.W.Frag) (H0 G:Hp) (f:Bool) (v:List V) (d:List D):Prop where
  rd:RdVs K G v d
  nw:f=true→RdNs K H0 G v d
theorem Rf.same {K:PySem.W.Frag} {H0 G G':Hp} {f:Bool} {v:V} {d:D} (r:Rf K H0 G f v d) (e:Same G G'):Rf K H0 G' f v d:=⟨Zk e r.rd,fun h=>jX e (fun _ _ _ n=>n) (r.nw h)⟩
theorem Rfs.same {K:PySem.W.Frag} {H0 G G':Hp} {f:Bool} {v:List V} {d:List D} (r:Rfs K H0 G f v d) (e:Same G G'):Rfs K H0 G' f v d:=⟨rdvs_same e r.rd,fun h=>rdns_mono e (fun _ _ _ n=>n) (r.nw h)⟩
theorem Rf.sc {K:PySem.W.Frag} {H0 G:Hp} {f:Bool} {v:V} {d:D} (h:zy d=true) (r:RdV K G v d):Rf K H0 G f v d:=⟨r,fun _=>ZP h r⟩
theorem Rf.no {K:PySem.W.Frag} {H0 G:Hp} {v:V} {d:D} (r:RdV K G v d):Rf K H0 G false v d:=⟨r,fun h=>by cases h⟩
theorem Rf.or {K:PySem.W.Frag} {H0 G:Hp} {f:Bool} {v:V} {d:D} (r:Rf K H0 G f v d):Rf K H0 G (f||zy d) v d:=⟨r.rd,fun h=>by
  cases f with
  | true=>exact r.nw rfl
  | false=>exact ZP (by simpa using h) r.rd⟩
theorem Rfs.nil {K:PySem.W.Frag} {H0 G:Hp} {f:Bool}:Rfs K H0 G f [] []:=⟨.nil,fun _=>.nil⟩
theorem Rfs.cons {K:PySem.W.Frag} {H0 G:Hp} {f g:Bool} {v:V} {d:D} {vs:List V} {ds:List D} (r:Rf K H0 G f v d) (rs:Rfs K H0 G g vs ds):Rfs K H0 G (f&&g) (v::vs) (d::ds):=⟨.cons r.rd rs.rd,fun h=>by
  rw [Bool.and_eq_true] at h;exact .cons (r.nw h.1) (rs.nw h.2)⟩
theorem ziS {K:PySem.W.Frag} {H0 H:Hp} {xs:List V} {ds:List D} {i:Nat} {x:V} {d:D} (r:RdNs K H0 H xs ds) (e:xs[i]?=some x) (e':ds[i]?=some d):RdN K H0 H x d:=by
  induction xs generalizing ds i with
  | nil=>simp at e
  | cons y xs ih=>
    cases r with
    | cons a b=>
      cases i with
      | zero=>cases e;cases e';exact a
      | succ i=>exact ih b (i:=i) (by simpa using e) (by simpa using e')
theorem Rfs.get {K:PySem.W.Frag} {H0 G:Hp} {f:Bool} {vs:List V} {ds:List D} {i:Nat} {d:D} (r:Rfs K H0 G f vs ds) (h:ds[i]?=some d):∃ v,vs[i]?=some v∧Rf K H0 G f v d:=by
  obtain⟨v,h1,h2⟩:=r.rd.get h;exact⟨v,h1,h2,fun hf=>ziS (r.nw hf) h1 h⟩
theorem zfN {K:PySem.W.Frag} {H0 G:Hp} {vs:List V} {ds:List D} (h:ds.all zy=true) (r:RdVs K G vs ds):RdNs K H0 G vs ds:=by
  induction vs generalizing ds with
  | nil=>cases r;exact .nil
  | cons v vs ih=>
    cases r with
    | cons a b=>
      rw [List.all_cons,Bool.and_eq_true] at h;exact .cons (ZP h.1 a) (ih h.2 b)
theorem Rfs.or {K:PySem.W.Frag} {H0 G:Hp} {f:Bool} {vs:List V} {ds:List D} (r:Rfs K H0 G f vs ds):Rfs K H0 G (f||ds.all zy) vs ds:=⟨r.rd,fun h=>by
  cases f with
  | true=>exact r.nw rfl
  | false=>exact zfN (by simpa using h) r.rd⟩
theorem zan (ws:List Int):(ws.map PyData.int).all zy=true:=by
  rw [List.all_map];exact List.all_eq_true.mpr fun _ _=>rfl
theorem Rfs.length {K:PySem.W.Frag} {H0 G:Hp} {f:Bool} {vs:List V} {ds:List D} (r:Rfs K H0 G f vs ds):vs.length=ds.length:=r.rd.length
theorem zaF {K:PySem.W.Frag} {H0 H:Hp} {xs ys:List V} {ds es:List D} (h:RdNs K H0 H xs ds) (h':RdNs K H0 H ys es):RdNs K H0 H (xs++ys) (ds++es):=by
  induction xs generalizing ds with
  | nil=>cases h;exact h'
  | cons x xs ih=>cases h with|cons a b=>exact .cons a (ih b)
theorem zeA {K:PySem.W.Frag} {H0 H:Hp} {x:V} {d:D} (h:RdN K H0 H x d) {xs:List V} {ds:List D} (i:Nat) (r:RdNs K H0 H xs ds):RdNs K H0 H (xs.set i x) (ds.set i d):=by
  induction xs generalizing ds i with
  | nil=>cases r;exact .nil
  | cons y xs ih=>
    cases r with
    | cons a b=>
      cases i with
      | zero=>exact .cons h b
      | succ i=>exact .cons a (ih i b)
theorem zgW {K:PySem.W.Frag} {H0 H:Hp} {xs:List V} {ds:List D} (i:Nat) (r:RdNs K H0 H xs ds):RdNs K H0 H (xs.take i) (ds.take i):=by
  induction xs generalizing ds i with
  | nil=>cases r;rw [List.take_nil,List.take_nil];exact .nil
  | cons y xs ih=>
    cases r with
    | cons a b=>
      cases i with
      | zero=>exact .nil
      | succ i=>exact .cons a (ih i b)
theorem zfL {K:PySem.W.Frag} {H0 H:Hp} {xs:List V} {ds:List D} (i:Nat) (r:RdNs K H0 H xs ds):RdNs K H0 H (xs.drop i) (ds.drop i):=by
  induction xs generalizing ds i with
  | nil=>cases r;rw [List.drop_nil,List.drop_nil];exact .nil
  | cons y xs ih=>
    cases r with
    | cons a b=>
      cases i with
      | zero=>exact .cons a b
      | succ i=>exact ih i b
theorem zff {K:PySem.W.Frag} {H0 H:Hp} {xs:List V} {ds:List D} (i:Nat) (r:RdNs K H0 H xs ds):RdNs K H0 H (xs.eraseIdx i) (ds.eraseIdx i):=by
  induction xs generalizing ds i with
  | nil=>cases r;exact .nil
  | cons y xs ih=>
    cases r with
    | cons a b=>
      cases i with
      | zero=>exact b
      | succ i=>exact .cons a (ih i b)
theorem Rfs.snoc {K:PySem.W.Frag} {H0 G:Hp} {f g:Bool} {v:V} {d:D} {vs:List V} {ds:List D} (rs:Rfs K H0 G g vs ds) (r:Rf K H0 G f v d):Rfs K H0 G (g&&f) (vs++[v]) (ds++[d]):=⟨rs.rd.append (.cons r.rd .nil),fun h=>by
  rw [Bool.and_eq_true] at h;exact zaF (rs.nw h.1) (.cons (r.nw h.2) .nil)⟩
theorem Rfs.append {K:PySem.W.Frag} {H0 G:Hp} {f g:Bool} {us:List V} {es:List D} {vs:List V} {ds:List D} (rs:Rfs K H0 G g vs ds) (r:Rfs K H0 G f us es):Rfs K H0 G (g&&f) (vs++us) (ds++es):=⟨rs.rd.append r.rd,fun h=>by
  rw [Bool.and_eq_true] at h;exact zaF (rs.nw h.1) (r.nw h.2)⟩
theorem Rfs.set {K:PySem.W.Frag} {H0 G:Hp} {f g:Bool} {v:V} {d:D} {vs:List V} {ds:List D} (rs:Rfs K H0 G g vs ds) (r:Rf K H0 G f v d) (i:Nat):Rfs K H0 G (g&&f) (vs.set i v) (ds.set i d):=⟨rs.rd.set r.rd i,fun h=>by
  rw [Bool.and_eq_true] at h;exact zeA (r.nw h.2) i (rs.nw h.1)⟩
theorem Rfs.take {K:PySem.W.Frag} {H0 G:Hp} {g:Bool} {vs:List V} {ds:List D} (rs:Rfs K H0 G g vs ds) (i:Nat):Rfs K H0 G g (vs.take i) (ds.take i):=⟨rs.rd.take i,fun h=>zgW i (rs.nw h)⟩
theorem Rfs.drop {K:PySem.W.Frag} {H0 G:Hp} {g:Bool} {vs:List V} {ds:List D} (rs:Rfs K H0 G g vs ds) (i:Nat):Rfs K H0 G g (vs.drop i) (ds.drop i):=⟨rs.rd.drop i,fun h=>zfL i (rs.nw h)⟩
theorem Rfs.eraseIdx {K:PySem.W.Frag} {H0 G:Hp} {g:Bool} {vs:List V} {ds:List D} (rs:Rfs K H0 G g vs ds) (i:Nat):Rfs K H0 G g (vs.eraseIdx i) (ds.eraseIdx i):=⟨rs.rd.eraseIdx i,fun h=>zff i (rs.nw h)⟩
structure Tr (K:PySem.W.Frag) (H0 G H:Hp) (l:Addr) (ps:List Addr) (ms:List (List D)):Prop where
  top:H l=some (.lst (ps.map V.ref))
  topG:G l=none
  nd:(l::ps).Nodup
  len:ps.length=ms.length
  item:∀ (k:Nat) (p:Addr) (m:List D),ps[k]?=some p→ms[k]?=some m→∃ vs,H p=some (.lst vs)∧G p=none∧Rfs K H0 G true vs m
inductive Dr (K:PySem.W.Frag) (H0 G:Hp):List (List Key×V)→List (List Key×D)→Prop
  | nil:Dr K H0 G [] []
  | cons {k v d kvs ds}:Rf K H0 G true v d→Dr K H0 G kvs ds→Dr K H0 G ((k,v)::kvs) ((k,d)::ds)
theorem Dr.same {K:PySem.W.Frag} {H0 G G':Hp} {kvs:List (List Key×V)} {ds:List (List Key×D)} (r:Dr K H0 G kvs ds) (e:Same G G'):Dr K H0 G' kvs ds:=by
  induction r with
  | nil=>exact .nil
  | cons a b ih=>exact .cons (a.same e) ih
inductive Vw (K:PySem.W.Frag) (H0 G H:Hp):V→Cl→Prop
  | sh {v f d}:Rf K H0 G f v d→Vw K H0 G H v (.sh f d)
  | ow {l vs f ds}:H l=some (.lst vs)→Rfs K H0 G f vs ds→G l=none→Vw K H0 G H (.ref l) (.ow f ds)
  | tr {l ps ms}:Tr K H0 G H l ps ms→Vw K H0 G H (.ref l) (.tr ps ms)
  | dt {l kvs ds}:H l=some (.dT kvs)→Dr K H0 G kvs ds→G l=none→Vw K H0 G H (.ref l) (.dt ds)
  | ex {l C}:H l=some (excO l C)→Vw K H0 G H (.ref l) (.ex C)
def Cl.dat:Cl→Bool
  | .ex _=>false
  | .tr _ _=>false
  | .dt _=>false
  | _=>true
def Has:Cl→V→Addr→Prop
  | .ow _ _,v,a=>v=.ref a
  | .tr ps _,v,a=>v=.ref a∨a∈ps
  | .dt _,v,a=>v=.ref a
  | _,_,_=>False
theorem Tr.at {K:PySem.W.Frag} {H0 G H:Hp} {l:Addr} {ps:List Addr} {ms:List (List D)} (t:Tr K H0 G H l ps ms) {p:Addr} (h:p∈ps):∃ m vs,H p=some (.lst vs)∧G p=none∧Rfs K H0 G true vs m:=by
  obtain⟨k,hk,e⟩:=List.getElem_of_mem h;have hk':k<ms.length:=by rw [←t.len];exact hk
  obtain⟨vs,h1⟩:=t.item k p ms[k] (by rw [←e];exact List.getElem?_eq_getElem hk) (List.getElem?_eq_getElem hk')
  exact⟨_,vs,h1⟩
theorem Vw.has {K:PySem.W.Frag} {H0 G H:Hp} {v:V} {c:Cl} {a:Addr} (w:Vw K H0 G H v c) (h:Has c v a):(∃ o,H a=some o∧∀ C,o≠excO a C)∧G a=none:=by
  cases w with
  | sh r=>exact False.elim h
  | ex e=>exact False.elim h
  | ow e r n=>cases h;exact⟨⟨_,e,fun C z=>by cases z⟩,n⟩
  | dt e r n=>cases h;exact⟨⟨_,e,fun C z=>by cases z⟩,n⟩
  | tr t=>
    rcases h with h|h
    · cases h;exact⟨⟨_,t.top,fun C z=>by cases z⟩,t.topG⟩
    · obtain⟨m,vs,h1,h2,_⟩:=t.at h
      exact⟨⟨_,h1,fun C z=>by cases z⟩,h2⟩
theorem Vw.turn {K:PySem.W.Frag} {H0 G H G' H':Hp} {v:V} {c:Cl} (w:Vw K H0 G H v c) (g:Same G G') (hx:∀ a C,H a=some (excO a C)→H' a=some (excO a C)) (hh:∀ a,Has c v a→H' a=H a∧G' a=G a):Vw K H0 G' H' v c:=by
  cases w with
  | sh r=>exact .sh (r.same g)
  | ex h=>exact .ex (hx _ _ h)
  | ow h r n=>
    obtain⟨h1,h2⟩:=hh _ rfl;exact .ow (h1.trans h) (r.same g) (h2.trans n)
  | dt h r n=>
    obtain⟨h1,h2⟩:=hh _ rfl;exact .dt (h1.trans h) (r.same g) (h2.trans n)
  | tr t=>
    obtain⟨h1,h2⟩:=hh _ (.inl rfl);refine .tr ⟨h1.trans t.top,h2.trans t.topG,t.nd,t.len,fun k p m hp hm=>?_⟩
    obtain⟨vs,q1,q2,q3⟩:=t.item k p m hp hm;obtain⟨h3,h4⟩:=hh p (.inr (List.mem_of_getElem? hp));exact⟨vs,h3.trans q1,h4.trans q2,q3.same g⟩
theorem Gr.hid {G H G' H':Hp} (g:Gr G H G' H') {l:Addr} {o:HO} (h:H l=some o) (n:G l=none):G' l=none:=by
  cases e:G' l with
  | none=>rfl
  | some o=>
    rcases g.new _ _ e with q|q
    · rw [n] at q;cases q
    · rw [h] at q;cases q
theorem Vw.gr {K:PySem.W.Frag} {H0 G H G' H':Hp} {v:V} {c:Cl} (w:Vw K H0 G H v c) (g:Gr G H G' H'):Vw K H0 G' H' v c:=
  w.turn g.g (fun a C e=>g.h _ _ e) fun a h=>by
    obtain⟨⟨o,e,_⟩,n⟩:=w.has h;exact⟨(g.h _ _ e).trans e.symm,(g.hid e n).trans n.symm⟩
theorem Vw.rd {K:PySem.W.Frag} {H0 G H:Hp} {v:V} {c:Cl} (w:Vw K H0 G H v c) (s:Same G H) (hc:c.dat=true):RdV K H v c.d:=by
  cases w with
  | sh r=>exact Zk s r.rd
  | ow h r n=>exact .lst (SqL.of h) (rdvs_same s r.rd)
  | tr t=>cases hc
  | dt _ _ _=>cases hc
  | ex h=>cases hc
inductive Vws (K:PySem.W.Frag) (H0 G H:Hp):List V→List Cl→Prop
  | nil:Vws K H0 G H [] []
  | cons {v c vs cs}:Vw K H0 G H v c→Vws K H0 G H vs cs→Vws K H0 G H (v::vs) (c::cs)
def shs:List Cl→Option (Bool×List D)
  | []=>some (true,[])
  | .sh f d::r=>(shs r).map fun p=>((f&&p.1),d::p.2)
  | .ow _ _::_=>none
  | .tr _ _::_=>none
  | .dt _::_=>none
  | .ex _::_=>none
theorem Vws.shs {K:PySem.W.Frag} {H0 G H:Hp} {vs:List V} {cs:List Cl} {p:Bool×List D} (h:Vws K H0 G H vs cs) (e:shs cs=some p):Rfs K H0 G p.1 vs p.2:=by
  induction h generalizing p with
  | nil=>cases e;exact .nil
  | cons a b ih=>
    cases a with
    | sh r=>
      unfold L3.shs at e;rename_i cs' f d;cases q:L3.shs cs' with
      | none=>rw [q] at e;cases e
      | some ds=>rw [q] at e;cases e;exact .cons r (ih q)
    | ow _ _ _=>cases e
    | tr _=>cases e
    | dt _ _ _=>cases e
    | ex _=>cases e
theorem Vws.rds {K:PySem.W.Frag} {H0 G H:Hp} (s:Same G H) {vs:List V} {cs:List Cl} (h:Vws K H0 G H vs cs) (hd:cs.all Cl.dat=true):RdVs K H vs (cs.map Cl.d):=by
  induction h with
  | nil=>exact .nil
  | cons a b ih=>
    rw [List.all_cons,Bool.and_eq_true] at hd;exact .cons (a.rd s hd.1) (ih hd.2)
structure Fr3 (K:PySem.W.Frag) (H0 G0:Hp) (ρ : Env3) (σ : L2.St) (G H:Hp):Prop where
  keep:Same H0 H
  sub:Same G H
  old:∀ b o,G b=some o→G0 b=some o∨H0 b=none
  g0:Same G0 G
  slot:∀ (i:Nat) (c:Cl),ρ[i]?=some (some c)→∃ v,σ[i]?=some (some v)∧Vw K H0 G H v c
  mine:∀ (i:Nat) (c:Cl) (v:V) (a:Addr),ρ[i]?=some (some c)→σ[i]?=some (some v)→Has c v a→H0 a=none
  apart:∀ (i j:Nat) (c c':Cl) (v v':V) (a:Addr),ρ[i]?=some (some c)→ρ[j]?=some (some c')→σ[i]?=some (some v)→σ[j]?=some (some v')→Has c v a→Has c' v' a→i=j
  len:ρ.length = σ.length
section
variable {K:PySem.W.Frag} {H0 G0:Hp} {ρ : Env3} {σ : L2.St} {G H G' H':Hp}
theorem Fr3.gr (F:Fr3 K H0 G0 ρ σ G H) (g:Gr G H G' H'):Fr3 K H0 G0 ρ σ G' H' where
  keep:=F.keep.trans g.h
  sub:=g.sub
  old:=fun b o e=>by
    rcases g.new b o e with q|q
    · exact F.old b o q
    · exact .inr (F.keep.free q)
  g0:=F.g0.trans g.g
  slot:=fun i c e=>by
    obtain⟨v,h1,h2⟩:=F.slot i c e;exact⟨v,h1,h2.gr g⟩
  mine:=F.mine
  apart:=F.apart
  len:=F.len
theorem zV {α : Type} {l:List α} {i j:Nat} {x y:α} (h:(l.set i x)[j]?=some y):(i=j∧y=x∧i<l.length)∨(i≠j∧l[j]?=some y):=by
  by_cases e:i=j
  · subst e
    rw [List.getElem?_set_self'] at h;cases q:l[i]? with
    | none=>rw [q] at h;cases h
    | some z=>
      rw [q] at h;cases h;exact .inl ⟨rfl,rfl,(List.getElem?_eq_some_iff.mp q).1⟩
  · rw [List.getElem?_set_ne e] at h
    exact .inr ⟨e,h⟩
theorem Fr3.vw (F:Fr3 K H0 G0 ρ σ G H) {i:Nat} {c:Cl} {v:V} (h:ρ[i]?=some (some c)) (h':σ[i]?=some (some v)):Vw K H0 G H v c:=by
  obtain⟨u,h1,h2⟩:=F.slot i c h;rw [h'] at h1;cases h1;exact h2
theorem Fr3.put (F:Fr3 K H0 G0 ρ σ G H) {i:Nat} {v:V} {c:Cl} (s:Same H H') (w:Vw K H0 G H' v c) (hn:∀ a,Has c v a→H a=none):Fr3 K H0 G0 (ρ.set i (some c)) (σ.set i (some v)) G H':=by
  have F':=F.gr (G':=G) (H':=H') ⟨Same.refl _,s,F.sub.trans s,fun _ _ e=>.inl e⟩
  have ne:∀ (j:Nat) (c':Cl) (v':V) (a:Addr),ρ[j]?=some (some c')→σ[j]?=some (some v')→Has c' v' a→Has c v a→False:=fun j c' v' a e e' h h'=>by
    obtain⟨⟨o,q,_⟩,_⟩:=(F.vw e e').has h;rw [hn a h'] at q;cases q
  exact {
    keep:=F'.keep
    sub:=F'.sub
    old:=F'.old
    g0:=F'.g0
    slot:=fun j c' e=>by
      rcases zV e with ⟨rfl,q,hl⟩|⟨n,q⟩
      · cases q
        exact⟨v,by rw [List.getElem?_set_self (by rw [←F.len];exact hl)],w⟩
      · obtain⟨v',h1,h2⟩:=F'.slot j c' q
        exact⟨v',by rw [List.getElem?_set_ne n];exact h1,h2⟩
    mine:=fun j c' v' a e e' h=>by
      rcases zV e with ⟨rfl,q,hl⟩|⟨n,q⟩
      · cases q
        rw [List.getElem?_set_self (by rw [←F.len];exact hl)] at e'
        cases e';exact F.keep.free (hn a h)
      · rw [List.getElem?_set_ne n] at e'
        exact F.mine j c' v' a q e' h
    apart:=fun j k c1 c2 v1 v2 a e1 e2 e3 e4 h1 h2=>by
      rcases zV e1 with ⟨rfl,q,hl⟩|⟨n,q⟩
      · rcases zV e2 with ⟨rfl,q',hl'⟩|⟨n',q'⟩
        · rfl
        · cases q
          rw [List.getElem?_set_self (by rw [←F.len];exact hl)] at e3
          cases e3;rw [List.getElem?_set_ne n'] at e4
          exact(ne k c2 v2 a q' e4 h2 h1).elim
      · rcases zV e2 with ⟨rfl,q',hl'⟩|⟨n',q'⟩
        · cases q'
          rw [List.getElem?_set_self (by rw [←F.len];exact hl')] at e4
          cases e4;rw [List.getElem?_set_ne n] at e3
          exact(ne j c1 v1 a q e3 h1 h2).elim
        · rw [List.getElem?_set_ne n] at e3
          rw [List.getElem?_set_ne n'] at e4;exact F.apart j k c1 c2 v1 v2 a q q' e3 e4 h1 h2
    len:=by rw [List.length_set,List.length_set];exact F.len }
theorem Fr3.set (F:Fr3 K H0 G0 ρ σ G H) {i:Nat} {v:V} {f:Bool} {d:D} (r:Rf K H0 G f v d):Fr3 K H0 G0 (ρ.set i (some (.sh f d))) (σ.set i (some v)) G H:=F.put (Same.refl _) (.sh r) fun _ h=>False.elim h
theorem Fr3.own (F:Fr3 K H0 G0 ρ σ G H) {i:Nat} {l:Addr} {vs:List V} {f:Bool} {ds:List D} (r:Rfs K H0 G f vs ds) (hl:H l=none):Fr3 K H0 G0 (ρ.set i (some (.ow f ds))) (σ.set i (some (.ref l))) G (upd H l (.lst vs)):=
  F.put (ja hl _) (.ow zB r (F.sub.free hl)) fun a h=>by cases h;exact hl
theorem Fr3.chg (F:Fr3 K H0 G0 ρ σ G H) {i:Nat} {l:Addr} {o:HO} {c c':Cl} {v:V} (hi:ρ[i]?=some (some c)) (hv:σ[i]?=some (some v)) (hl:Has c v l) (hc:∀ a,Has c' v a→Has c v a) (w:Vw K H0 G (upd H l o) v c'):Fr3 K H0 G0 (ρ.set i (some c')) σ G (upd H l o):=by
  have h0:H0 l=none:=F.mine i c v l hi hv hl;obtain⟨⟨us,hu,hux⟩,gl⟩:=(F.vw hi hv).has hl;refine⟨fun b o e=>by rw [zh (zN e h0)];exact F.keep b o e,fun b o e=>by rw [zh (zN e gl)];exact F.sub b o e,F.old,F.g0,fun j c2 e=>?_,fun j c2 v2 a e e' h=>?_,fun j k c1 c2 v1 v2 a e1 e2 e3 e4 h1 h2=>?_,by rw [List.length_set];exact F.len⟩
  · rcases zV e with ⟨rfl,q,_⟩|⟨n,q⟩
    · cases q
      exact⟨v,hv,w⟩
    · obtain⟨v',h1,h2⟩:=F.slot j c2 q
      refine⟨v',h1,h2.turn (Same.refl _) (fun a C e=>?_) fun a h=>⟨?_,rfl⟩⟩
      · rw [zh (fun z=>by subst z;rw [hu] at e;exact hux C (Option.some.inj e))];exact e
      · rw [zh (fun z=>by subst z;exact n (F.apart i j c c2 v v' a hi q hv h1 hl h))]
  · rcases zV e with ⟨rfl,q,_⟩|⟨n,q⟩
    · cases q
      rw [hv] at e';cases e';exact F.mine i c v a hi hv (hc a h)
    · exact F.mine j c2 v2 a q e' h
  · rcases zV e1 with ⟨rfl,q,_⟩|⟨n,q⟩
    · rcases zV e2 with ⟨rfl,q',_⟩|⟨n',q'⟩
      · rfl
      · cases q
        rw [hv] at e3;cases e3;exact F.apart i k c c2 v v2 a hi q' hv e4 (hc a h1) h2
    · rcases zV e2 with ⟨rfl,q',_⟩|⟨n',q'⟩
      · cases q'
        rw [hv] at e4;cases e4;exact F.apart j i c1 c v1 v a q hi e3 hv h1 (hc a h2)
      · exact F.apart j k c1 c2 v1 v2 a q q' e3 e4 h1 h2
theorem Fr3.change (F:Fr3 K H0 G0 ρ σ G H) {i:Nat} {l:Addr} {vs:List V} {f f':Bool} {ds es:List D} (hi:ρ[i]?=some (some (.ow f ds))) (hl:σ[i]?=some (some (.ref l))) (r:Rfs K H0 G f' vs es):Fr3 K H0 G0 (ρ.set i (some (.ow f' es))) σ G (upd H l (.lst vs)):=
  F.chg hi hl rfl (fun _ h=>h) (.ow zB r ((F.vw hi hl).has rfl).2)
theorem Fr3.still (F:Fr3 K H0 G0 ρ σ G H) {i:Nat} {c:Cl} {v:V} {f:Bool} {d:D} (hi:ρ[i]?=some (some c)) (hv:σ[i]?=some (some v)) (r:∀ G',Same G G'→(∀ a,Has c v a→G' a=H a∧H0 a=none)→Rf K H0 G' f v d):∃ G',Same G G'∧Fr3 K H0 G0 (ρ.set i (some (.sh f d))) σ G' H:=by
  have hd:∀ b,Decidable (Has c v b):=fun b=>Classical.propDecidable _
  have w:=F.vw hi hv;have e1:∀ b,Has c v b→(fun b=>if Has c v b then H b else G b) b=H b:=fun b h=>if_pos h
  have e2:∀ b,¬Has c v b→(fun b=>if Has c v b then H b else G b) b=G b:=fun b h=>if_neg h
  generalize (fun b=>if Has c v b then H b else G b)=G' at e1 e2
  have gg:Same G G':=fun b o e=>by
    rw [e2 b (fun h=>by rw [(w.has h).2] at e;cases e)];exact e
  refine⟨G',gg,F.keep,fun b o e=>?_,fun b o e=>?_,F.g0.trans gg,fun j c2 e=>?_,fun j c2 v2 a e e' h=>?_,fun j k c1 c2 v1 v2 a q1 q2 q3 q4 h1 h2=>?_,by rw [List.length_set];exact F.len⟩
  · by_cases h:Has c v b
    · rw [e1 b h] at e;exact e
    · rw [e2 b h] at e;exact F.sub b o e
  · by_cases h:Has c v b
    · exact .inr (F.mine i c v b hi hv h)
    · rw [e2 b h] at e;exact F.old b o e
  · rcases zV e with ⟨rfl,q,_⟩|⟨n,q⟩
    · cases q
      exact⟨v,hv,.sh (r G' gg fun a h=>⟨e1 a h,F.mine i c v a hi hv h⟩)⟩
    · obtain⟨v',h1,h2⟩:=F.slot j c2 q
      exact⟨v',h1,h2.turn gg (fun _ _ e=>e) fun a h=>⟨rfl,e2 a fun h'=>n (F.apart i j c c2 v v' a hi q hv h1 h' h)⟩⟩
  · rcases zV e with ⟨rfl,q,_⟩|⟨n,q⟩
    · cases q;exact False.elim h
    · exact F.mine j c2 v2 a q e' h
  · rcases zV q1 with ⟨rfl,q,_⟩|⟨n,q⟩
    · cases q;exact False.elim h1
    · rcases zV q2 with ⟨rfl,q',_⟩|⟨n',q'⟩
      · cases q';exact False.elim h2
      · exact F.apart j k c1 c2 v1 v2 a q q' q3 q4 h1 h2
theorem Fr3.freeze (F:Fr3 K H0 G0 ρ σ G H) {i:Nat} {f:Bool} {ds:List D} (hi:ρ[i]?=some (some (.ow f ds))):∃ G',Same G G'∧Fr3 K H0 G0 (ρ.set i (some (.sh f (.list ds)))) σ G' H:=by
  obtain⟨v,hv,w⟩:=F.slot i _ hi;refine F.still hi hv fun G' gg q=>?_
  cases w with
  | ow h r n=>
    obtain⟨q1,q2⟩:=q _ rfl;rw [h] at q1;exact⟨.lst (SqL.of q1) (rdvs_same gg r.rd),fun hf=>.lst q1 q2 (rdns_mono gg (fun _ _ _ z=>z) (r.nw hf))⟩
theorem zhs {ps:List Addr} {ms:List (List D)} (hl:ps.length=ms.length) (h:∀ (k:Nat) (p:Addr) (m:List D),ps[k]?=some p→ms[k]?=some m→RdN K H0 G (.ref p) (.list m)):RdNs K H0 G (ps.map V.ref) (ms.map PyData.list):=by
  induction ps generalizing ms with
  | nil => cases ms with
    | nil=>exact .nil
    | cons m ms=>cases hl
  | cons p ps ih => cases ms with
    | nil=>cases hl
    | cons m ms=>exact .cons (h 0 p m rfl rfl) (ih (Nat.succ.inj hl) fun k q n h1 h2=>h (k+1) q n (by simpa using h1) (by simpa using h2))
theorem Fr3.freezeT (F:Fr3 K H0 G0 ρ σ G H) {i:Nat} {ps:List Addr} {ms:List (List D)} (hi:ρ[i]?=some (some (.tr ps ms))):∃ G',Same G G'∧Fr3 K H0 G0 (ρ.set i (some (.sh true (.list (ms.map PyData.list))))) σ G' H:=by
  obtain⟨v,hv,w⟩:=F.slot i _ hi;refine F.still hi hv fun G' gg q=>?_
  cases w with
  | tr t=>
    obtain⟨q1,q2⟩:=q _ (.inl rfl);have n:RdN K H0 G' (.ref _) (.list (ms.map PyData.list)):=.lst (q1.trans t.top) q2 (zhs t.len fun k p m h1 h2=>by
      obtain⟨vs,a,b,c⟩:=t.item k p m h1 h2;obtain⟨q3,q4⟩:=q p (.inr (List.mem_of_getElem? h1));exact .lst (q3.trans a) q4 (rdns_mono gg (fun _ _ _ z=>z) (c.nw rfl)))
    exact⟨zbE n,fun _=>n⟩
theorem Fr3.rebase (F:Fr3 K H0 G0 ρ σ G H):Fr3 K H0 G ρ σ G H:=⟨F.keep,F.sub,fun _ _ e=>.inl e,Same.refl _,F.slot,F.mine,F.apart,F.len⟩
theorem Fr3.back {ρ1:Env3} {σ1:L2.St} {G1 H1:Hp} (F:Fr3 K H0 G1 ρ σ G H) (B:Fr3 K H0 G0 ρ1 σ1 G1 H1):Fr3 K H0 G0 ρ σ G H:=
  ⟨F.keep,F.sub,fun b o e=>(F.old b o e).elim (fun q=>B.old b o q) .inr,B.g0.trans F.g0,F.slot,F.mine,F.apart,F.len⟩
theorem Fr3.gr0 (F:Fr3 K H0 G0 ρ σ G H):Gr G0 H0 G H:=⟨F.g0,F.keep,F.sub,F.old⟩
theorem Gr.back {ρ1:Env3} {σ1:L2.St} {G1 H1:Hp} (g:Gr G1 H0 G H) (B:Fr3 K H0 G0 ρ1 σ1 G1 H1):Gr G0 H0 G H:=
  ⟨B.g0.trans g.g,g.h,g.sub,fun b o e=>(g.new b o e).elim (fun q=>B.old b o q) .inr⟩
end
theorem el5 {α β γ : Type} {P R:α→β→γ→Prop} {C:Prop} (f:∀ a b c,P a b c→R a b c→C) (h:∃ a b c,P a b c∧R a b c):C:=by
  obtain⟨a,b,c,x,y⟩:=h;exact f a b c x y
theorem el7 {α β γ δ : Type} {P R S:α→β→γ→δ→Prop} {C:Prop} (f:∀ a b c d,P a b c d→R a b c d→S a b c d→C) (h:∃ a b c d,P a b c d∧R a b c d∧S a b c d):C:=by
  obtain⟨a,b,c,d,x,y,z⟩:=h;exact f a b c d x y z
theorem el2 {α β : Type} {P R S:α→β→Prop} {C:Prop} (f:∀ a b,P a b→R a b→S a b→C) (h:∃ a b,P a b∧R a b∧S a b):C:=by
  obtain⟨a,b,x,y,z⟩:=h;exact f a b x y z
theorem el3 {α β γ : Type} {P R S T:α→β→γ→Prop} {C:Prop} (f:∀ a b c,P a b c→R a b c→S a b c→T a b c→C) (h:∃ a b c,P a b c∧R a b c∧S a b c∧T a b c):C:=by
  obtain⟨a,b,c,x,y,z,w⟩:=h;exact f a b c x y z w
abbrev TE3:=Env3→(Cl→Prop)→Prop
abbrev TT3:=Env3→(Bool→Prop)→Prop
abbrev TA3:=Env3→(List Cl→Prop)→Prop
abbrev TN3:=Env3→(Bool→List D→Prop)→Prop
structure Ends3 where
  nx:Env3→Prop
  rt:Bool→D→Prop
  bk:Env3→Prop:=fun _=>False
  ct:Env3→Prop:=fun _=>False
abbrev TS3:=Ends3→Env3→Prop
def jc (K:PySem.W.Frag) (H0:Hp) (t:TE3):TE:=fun σ H Q=>∃ G0 ρ G,Fr3 K H0 G0 ρ σ G H∧t ρ fun c=>∀ v G' H',Gr G H G' H'→Vw K H0 G' H' v c→Q v H'
def zby (K:PySem.W.Frag) (H0:Hp) (t:TN3):TE:=fun σ H Q=>∃ G0 ρ G,Fr3 K H0 G0 ρ σ G H∧t ρ fun f ds=>∀ l vs G' H',Gr G H G' H'→H' l=none→Rfs K H0 G' f vs ds→Q (.ref l) (upd H' l (.lst vs))
def jD (K:PySem.W.Frag) (H0:Hp) (t:TT3):TT:=fun σ H Q=>∃ G0 ρ G,Fr3 K H0 G0 ρ σ G H∧t ρ fun b=>∀ G' H',Gr G H G' H'→Q b H'
def zhX (K:PySem.W.Frag) (H0:Hp) (t:TA3):TA:=fun σ H Q=>∃ G0 ρ G,Fr3 K H0 G0 ρ σ G H∧t ρ fun cs=>∀ vs G' H',Gr G H G' H'→Vws K H0 G' H' vs cs→Q vs H'
structure LD (K:PySem.W.Frag) (H0 G0:Hp) (A:Ends3) (B:Ends):Prop where
  nx:∀ ρ σ G H,Fr3 K H0 G0 ρ σ G H→A.nx ρ→B.nx σ H
  rt:∀ f d v G H,Gr G0 H0 G H→Rf K H0 G f v d→A.rt f d→B.rt v H
  bk:∀ ρ σ G H,Fr3 K H0 G0 ρ σ G H→A.bk ρ→B.bk σ H
  ct:∀ ρ σ G H,Fr3 K H0 G0 ρ σ G H→A.ct ρ→B.ct σ H
def za4 (K:PySem.W.Frag) (H0:Hp) (t:TS3):TS:=fun B σ H=>∃ G0 A ρ G,Fr3 K H0 G0 ρ σ G H∧t A ρ∧LD K H0 G0 A B
structure PE3 (X:Cx) (H0:Hp) (e:Expr) (t:TE3):Prop where
  mono:∀ ρ (Q Q':Cl→Prop),(∀ c,Q c→Q' c)→t ρ Q→t ρ Q'
  ok:PE X e (jc X.K H0 t)
structure PN3 (X:Cx) (H0:Hp) (e:Expr) (t:TN3):Prop where
  mono:∀ ρ (Q Q':Bool→List D→Prop),(∀ f c,Q f c→Q' f c)→t ρ Q→t ρ Q'
  ok:PE X e (zby X.K H0 t)
structure PT3 (X:Cx) (H0:Hp) (e:Expr) (t:TT3):Prop where
  mono:∀ ρ (Q Q':Bool→Prop),(∀ c,Q c→Q' c)→t ρ Q→t ρ Q'
  ok:PT X e (jD X.K H0 t)
structure PW3 (X:Cx) (H0:Hp) (e:Expr) (t:TT3):Prop where
  mono:∀ ρ (Q Q':Bool→Prop),(∀ c,Q c→Q' c)→t ρ Q→t ρ Q'
  ok:PW X e (jD X.K H0 t)
structure PA3 (X:Cx) (H0:Hp) (es:List Expr) (t:TA3):Prop where
  mono:∀ ρ (Q Q':List Cl→Prop),(∀ c,Q c→Q' c)→t ρ Q→t ρ Q'
  ok:PA X es (zhX X.K H0 t)
def PS3 (X:Cx) (H0:Hp) (st:Stmt) (t:TS3):Prop:=PS X st (za4 X.K H0 t)
def PSs3 (X:Cx) (H0:Hp) (st:List Stmt) (t:TS3):Prop:=PSs X st (za4 X.K H0 t)
theorem PE.imp {X:Cx} {e:Expr} {t t':TE} (h:PE X e t) (i:∀ σ H Q,t' σ H Q→t σ H Q):PE X e t':=fun pins s σ H Q I q=>h pins s σ H Q I (i _ _ _ q)
theorem PT.imp {X:Cx} {e:Expr} {t t':TT} (h:PT X e t) (i:∀ σ H Q,t' σ H Q→t σ H Q):PT X e t':=fun pins s σ H Q I q=>h pins s σ H Q I (i _ _ _ q)
theorem PW.imp {X:Cx} {e:Expr} {t t':TT} (h:PW X e t) (i:∀ σ H Q,t' σ H Q→t σ H Q):PW X e t':=fun wh pins s σ H Q I q=>h wh pins s σ H Q I (i _ _ _ q)
theorem PA.imp {X:Cx} {e:List Expr} {t t':TA} (h:PA X e t) (i:∀ σ H Q,t' σ H Q→t σ H Q):PA X e t':=fun pos pins s σ H Q I q=>h pos pins s σ H Q I (i _ _ _ q)
theorem PS.imp {X:Cx} {e:Stmt} {t t':TS} (h:PS X e t) (i:∀ B σ H,t' B σ H→t B σ H):PS X e t':=fun pins s σ H B I q=>h pins s σ H B I (i _ _ _ q)
theorem PSs.imp {X:Cx} {e:List Stmt} {t t':TS} (h:PSs X e t) (i:∀ B σ H,t' B σ H→t B σ H):PSs X e t':=fun pins s σ H B I q=>h pins s σ H B I (i _ _ _ q)
section
variable {X:Cx} {H0:Hp} {e a b c:Expr} {pos:Pos}
def atV (o:Option (Option Cl)) (P:Cl→Prop):Prop:=match o with
  | some (some c)=>P c
  | _=>False
theorem zbR {o:Option (Option Cl)} {P:Cl→Prop} (h:atV o P):∃ c,o=some (some c)∧P c:=by
  cases o with
  | none=>exact False.elim h
  | some x => cases x with
    | none=>exact False.elim h
    | some c=>exact⟨c,rfl,h⟩
def asS (c:Cl) (P:Bool→D→Prop):Prop:=match c with
  | .sh f d=>P f d
  | _=>False
theorem Jf {c:Cl} {P:Bool→D→Prop} (h:asS c P):∃ f d,c=.sh f d∧P f d:=by
  cases c with
  | sh f d=>exact⟨f,d,rfl,h⟩
  | _=>exact False.elim h
def asD (d:D) (P:Bool→Prop):Prop:=match d with
  | .bool k=>P k
  | _=>False
def asB (c:Cl) (P:Bool→Prop):Prop:=match c with
  | .sh true d=>asD d P
  | _=>False
theorem zb1 {c:Cl} {P:Bool→Prop} (h:asB c P):∃ k,c=.sh true (.bool k)∧P k:=by
  cases c with
  | sh f d => cases f with
    | true => cases d with
      | bool k=>exact⟨k,rfl,h⟩
      | _=>exact False.elim h
    | false=>exact False.elim h
  | _=>exact False.elim h
def optP {α : Type} (o:Option α) (P:α→Prop):Prop:=match o with
  | some a=>P a
  | none=>False
theorem zaC {α : Type} {o:Option α} {P:α→Prop} (h:optP o P):∃ a,o=some a∧P a:=by
  cases o with
  | none=>exact False.elim h
  | some a=>exact⟨a,rfl,h⟩
def asT (d:D) (P:List D→Prop):Prop:=match d with
  | .tuple ds=>P ds
  | _=>False
theorem zcO {d:D} {P:List D→Prop} (h:asT d P):∃ ds,d=.tuple ds∧P ds:=by
  cases d with
  | tuple ds=>exact⟨ds,rfl,h⟩
  | _=>exact False.elim h
def asLd (d:D) (P:List D→Prop):Prop:=match d with
  | .list ds=>P ds
  | _=>False
def asL (c:Cl) (P:Bool→List D→Prop):Prop:=match c with
  | .sh f d=>asLd d (P f)
  | _=>False
theorem zcV {c:Cl} {P:Bool→List D→Prop} (h:asL c P):∃ f ds,c=.sh f (.list ds)∧P f ds:=by
  cases c with
  | sh f d => cases d with
    | list ds=>exact⟨f,ds,rfl,h⟩
    | _=>exact False.elim h
  | _=>exact False.elim h
def atO (o:Option (Option Cl)) (P:Bool→List D→Prop):Prop:=match o with
  | some (some (.ow f ds))=>P f ds
  | _=>False
theorem zcp {o:Option (Option Cl)} {P:Bool→List D→Prop} (h:atO o P):∃ f ds,o=some (some (.ow f ds))∧P f ds:=by
  cases o with
  | none=>exact False.elim h
  | some x => cases x with
    | none=>exact False.elim h
    | some c => cases c with
      | ow f ds=>exact⟨f,ds,rfl,h⟩
      | _=>exact False.elim h
def Zf {α : Type} (l:List α) (P:α→List α→Prop):Prop:=match l with
  | d::r=>P d r
  | []=>False
theorem zce {α : Type} {l:List α} {P:α→List α→Prop} (h:Zf l P):∃ d r,l=d::r∧P d r:=by
  cases l with
  | nil=>exact False.elim h
  | cons d r=>exact⟨d,r,rfl,h⟩
def nilP {α : Type} (l:List α) (P:Prop):Prop:=match l with
  | []=>P
  | _::_=>False
theorem zb8 {α : Type} {l:List α} {P:Prop} (h:nilP l P):l=[]∧P:=by
  cases l with
  | nil=>exact⟨rfl,h⟩
  | cons d r=>exact False.elim h
def asId (d:D) (P:Int→Prop):Prop:=match d with
  | .int i=>P i
  | _=>False
def asI (c:Cl) (P:Int→Prop):Prop:=match c with
  | .sh true d=>asId d P
  | _=>False
theorem za9 {c:Cl} {P:Int→Prop} (h:asI c P):∃ k,c=.sh true (.int k)∧P k:=by
  cases c with
  | sh f d => cases f with
    | true => cases d with
      | int k=>exact⟨k,rfl,h⟩
      | _=>exact False.elim h
    | false=>exact False.elim h
  | _=>exact False.elim h
def v3 (i:Nat):TE3:=fun ρ Q=>atV ρ[i]? Q
def k3 (d:D):TE3:=fun _ Q=>Q (.sh true d)
theorem n3 (i:Nat) {x:Str} (hN:X.N[i]?=some x:=by rfl) (hv:Vis X.env.scope x:=by first|exact Or.inl rfl|exact Or.inr (Or.inl rfl)|exact Or.inr (Or.inr rfl)) (hd:(x==("__debug__" : Str))=false:=by decide) (hcd:(x==("__classdict__" : Str))=false:=by decide) :
    PE3 X H0 (.Name x pos) (v3 i):=by
  refine⟨fun ρ Q Q' h q=>?_,PE.imp (ZD hN hv hd hcd) fun σ H Q=>el5 fun G0 ρ G F q=>?_⟩
  · obtain⟨c,e,q⟩:=zbR q
    show atV ρ[i]? Q'
    rw [e];exact h c q
  obtain⟨c,e,q⟩:=zbR q;obtain⟨v,h1,h2⟩:=F.slot i c e;exact⟨v,h1,q v G H (Gr.refl F.sub) h2⟩
theorem Zy {v:V} {d:D} (h:PE X e (tC v)) (r:∀ G,RdV X.K G v d) (hs:zy d=true):PE3 X H0 e (k3 d):=
  ⟨fun ρ Q Q' h q=>h _ q,PE.imp h fun σ H Q=>el5 fun G0 ρ G F q=>q v G H (Gr.refl F.sub) (.sh (.sc hs (r G)))⟩
theorem i3 {i j pos}:PE3 X H0 (.Constant (.int i) j pos) (k3 (.int i)):=Zy zhI (fun _=>.int i) rfl
theorem b3 {i j pos}:PE3 X H0 (.Constant (.bool i) j pos) (k3 (.bool i)):=Zy zis (fun _=>.bl i) rfl
theorem non3 {j pos}:PE3 X H0 (.Constant .none j pos) (k3 .none):=Zy zet (fun _=>.non) rfl
theorem s3 {i j pos}:PE3 X H0 (.Constant (.str i) j pos) (k3 (.str i)):=Zy ziM (fun _=>.str i) rfl
theorem g3 {x:Str} {v:V} {u:Value} {d:D} (hg:Gl X x) (hm:X.mg x=some u) (r:RelV v u) (rd:∀ G,RdV X.K G v d) (hs:zy d=true) (hd:(x==("__debug__" : Str))=false:=by decide):PE3 X H0 (.Name x pos) (k3 d):=Zy (zay hg hm r hd) rd hs
def nw3 (t:TN3):TE3:=fun ρ Q=>t ρ fun f ds=>Q (.sh f (.list ds))
theorem new3 {t:TN3} (h:PN3 X H0 e t):PE3 X H0 e (nw3 t):=
  ⟨fun ρ Q Q' hq q=>h.mono ρ _ _ (fun f ds=>hq _) q,PE.imp h.ok fun σ H Q=>el5 fun G0 ρ G F q=>⟨G0,ρ,G,F,h.mono ρ _ _ (fun f ds k l vs G' H' g hl r=>
    k (.ref l) (upd G' l (.lst vs)) (upd H' l (.lst vs)) (g.trans (Gr.put g.sub hl)) (.sh ⟨.lst (SqL.of zB) (rdvs_same (ja (g.sub.free hl) _) r.rd),fun hf=>.lst zB ((F.keep.trans g.h).free hl) (rdns_mono (ja (g.sub.free hl) _) (fun _ _ _ z=>z) (r.nw hf))⟩)) q⟩⟩
abbrev R3:=Cl→Cl→(Bool→D→Prop)→Prop
def Zx (K:PySem.W.Frag) (H0:Hp) (r:R3):R2:=fun x y H Q=>∃ G a b,Same G H∧Vw K H0 G H x a∧Vw K H0 G H y b∧r a b fun f d=>∀ v G' H',Gr G H G' H'→Rf K H0 G' f v d→Q v H'
structure OpOk (X:Cx) (f:Value→Value→Sem Value) (r:R3):Prop where
  mono:∀ a b (Q Q':Bool→D→Prop),(∀ f c,Q f c→Q' f c)→r a b Q→r a b Q'
  ok:∀ H0,OpR X f (Zx X.K H0 r)
theorem OpR.imp {f:Value→Value→Sem Value} {r r':R2} (h:OpR X f r) (i:∀ x y H Q,r' x y H Q→r x y H Q):OpR X f r':=fun pins s σ H x y v u Q I rx ry q=>h pins s σ H x y v u Q I rx ry (i _ _ _ _ q)
def o3 (r:R3) (ta tb:TE3):TE3:=fun ρ Q=>ta ρ fun a=>tb ρ fun b=>r a b fun f d=>Q (.sh f d)
theorem ZS {r:R3} {ta tb:TE3} (hr:∀ a b (Q Q':Bool→D→Prop),(∀ f c,Q f c→Q' f c)→r a b Q→r a b Q') (ha:∀ ρ (Q Q':Cl→Prop),(∀ c,Q c→Q' c)→ta ρ Q→ta ρ Q') (hb:∀ ρ (Q Q':Cl→Prop),(∀ c,Q c→Q' c)→tb ρ Q→tb ρ Q') :
    ∀ ρ (Q Q':Cl→Prop),(∀ c,Q c→Q' c)→o3 r ta tb ρ Q→o3 r ta tb ρ Q':=fun ρ Q Q' h q=>ha ρ _ _ (fun a=>hb ρ _ _ fun b=>hr a b _ _ fun f d=>h _) q
theorem zaw {r:R3} {ta tb:TE3} (hr:∀ a b (Q Q':Bool→D→Prop),(∀ f c,Q f c→Q' f c)→r a b Q→r a b Q') (ha:∀ ρ (Q Q':Cl→Prop),(∀ c,Q c→Q' c)→ta ρ Q→ta ρ Q') (hb:∀ ρ (Q Q':Cl→Prop),(∀ c,Q c→Q' c)→tb ρ Q→tb ρ Q') {K:PySem.W.Frag} :
    ∀ σ H Q,jc K H0 (o3 r ta tb) σ H Q→tOp (Zx K H0 r) (jc K H0 ta) (jc K H0 tb) σ H Q:=fun σ H Q=>el5 fun G0 ρ G F q=>
  ⟨G0,ρ,G,F,ha ρ _ _ (fun a qa v1 G1 H1 g1 w1=>⟨G0,ρ,G1,F.gr g1,hb ρ _ _ (fun b qb v2 G2 H2 g2 w2=>⟨G2,a,b,g2.sub,w1.gr g2,w2,hr a b _ _ (fun f d k v G' H' g r=>k v G' H' ((g1.trans g2).trans g) (.sh r)) qb⟩) qa⟩) q⟩
theorem op3 {op:Operator} {r:R3} {ta tb:TE3} (ho:OpOk X (binaryOp op) r) (ha:PE3 X H0 a ta) (hb:PE3 X H0 b tb):PE3 X H0 (.BinOp a op b pos) (o3 r ta tb):=
  ⟨ZS ho.mono ha.mono hb.mono,PE.imp (zaG (ho.ok H0) ha.ok hb.ok) (zaw ho.mono ha.mono hb.mono)⟩
theorem cmp3 {op:CmpOp} {r:R3} {ta tb:TE3} (ho:OpOk X (compareOp op) r) (ha:PE3 X H0 a ta) (hb:PE3 X H0 b tb) (hm:behindInMarks op b=false):PE3 X H0 (.Compare a [op] [b] pos) (o3 r ta tb):=
  ⟨ZS ho.mono ha.mono hb.mono,PE.imp (zeE (ho.ok H0) ha.ok hb.ok hm) (zaw ho.mono ha.mono hb.mono)⟩
def tt3 (t:TE3):TT3:=fun ρ Q=>t ρ fun c=>asB c Q
theorem Z2 {K:PySem.W.Frag} {H0 G H:Hp} {v:V} {f k:Bool} (w:Vw K H0 G H v (.sh f (.bool k))):v=.bl k:=by
  cases w with
  | sh r=>cases r.rd;rfl
theorem zaN {t:TE3} {K:PySem.W.Frag} (ht:∀ ρ (Q Q':Cl→Prop),(∀ c,Q c→Q' c)→t ρ Q→t ρ Q'):∀ σ H Q,jD K H0 (tt3 t) σ H Q→ZU (jc K H0 t) σ H Q:=fun σ H Q=>el5 fun G0 ρ G F q=>
  ⟨G0,ρ,G,F,ht ρ _ _ (fun c q v G' H' g w=>by obtain⟨k,e,q⟩:=zb1 q;subst e;exact⟨k,Z2 w,q G' H' g⟩) q⟩
theorem zbj {t:TE3} (ht:∀ ρ (Q Q':Cl→Prop),(∀ c,Q c→Q' c)→t ρ Q→t ρ Q'):∀ ρ (Q Q':Bool→Prop),(∀ c,Q c→Q' c)→tt3 t ρ Q→tt3 t ρ Q':=fun ρ Q Q' h q=>ht ρ _ _ (fun c q=>by obtain⟨k,e,q⟩:=zb1 q;subst e;exact h k q) q
theorem zbW {t t':TE} (h:∀ σ H Q,t' σ H Q→t σ H Q):∀ σ H Q,ZU t' σ H Q→ZU t σ H Q:=fun σ H Q q=>h _ _ _ q
theorem zl {op:CmpOp} {r:R3} {ta tb:TE3} (ho:OpOk X (compareOp op) r) (ha:PE3 X H0 a ta) (hb:PE3 X H0 b tb) (hm:behindInMarks op b=false):PT3 X H0 (.Compare a [op] [b] pos) (tt3 (o3 r ta tb)):=
  ⟨zbj (ZS ho.mono ha.mono hb.mono),PT.imp (zeG (ho.ok H0) ha.ok hb.ok hm) fun σ H Q q=>zbW (zaw ho.mono ha.mono hb.mono) σ H Q (zaN (ZS ho.mono ha.mono hb.mono) σ H Q q)⟩
def ch3 (r r':R3) (ta tb tc:TE3):TE3:=fun ρ Q=>ta ρ fun x=>tb ρ fun y=>r x y fun _ z=>∃ k,z=.bool k∧if k=true then tc ρ fun w=>r' y w fun f d=>Q (.sh f d) else Q (.sh true (.bool false))
theorem zaU {K:PySem.W.Frag} {G:Hp} {v:V} {k:Bool} (w:RdV K G v (.bool k)):v=.bl k:=by cases w;rfl
theorem zcY {r r':R3} {ta tb tc:TE3} (hr:∀ a b (Q Q':Bool→D→Prop),(∀ f c,Q f c→Q' f c)→r a b Q→r a b Q') (hr':∀ a b (Q Q':Bool→D→Prop),(∀ f c,Q f c→Q' f c)→r' a b Q→r' a b Q') (ha:∀ ρ (Q Q':Cl→Prop),(∀ c,Q c→Q' c)→ta ρ Q→ta ρ Q') (hb:∀ ρ (Q Q':Cl→Prop),(∀ c,Q c→Q' c)→tb ρ Q→tb ρ Q')
    (hc:∀ ρ (Q Q':Cl→Prop),(∀ c,Q c→Q' c)→tc ρ Q→tc ρ Q'):∀ ρ (Q Q':Cl→Prop),(∀ c,Q c→Q' c)→ch3 r r' ta tb tc ρ Q→ch3 r r' ta tb tc ρ Q':=fun ρ Q Q' h q=>ha ρ _ _ (fun x=>hb ρ _ _ fun y=>hr x y _ _ fun _ z ⟨k,e,q⟩=>⟨k,e,by
    cases k with
    | true=>exact hc ρ _ _ (fun w=>hr' y w _ _ fun f d=>h _) q
    | false=>exact h _ q⟩) q
theorem zfA {r r':R3} {ta tb tc:TE3} (hr:∀ a b (Q Q':Bool→D→Prop),(∀ f c,Q f c→Q' f c)→r a b Q→r a b Q') (hr':∀ a b (Q Q':Bool→D→Prop),(∀ f c,Q f c→Q' f c)→r' a b Q→r' a b Q') (ha:∀ ρ (Q Q':Cl→Prop),(∀ c,Q c→Q' c)→ta ρ Q→ta ρ Q') (hb:∀ ρ (Q Q':Cl→Prop),(∀ c,Q c→Q' c)→tb ρ Q→tb ρ Q')
    (hc:∀ ρ (Q Q':Cl→Prop),(∀ c,Q c→Q' c)→tc ρ Q→tc ρ Q') {K:PySem.W.Frag}:∀ σ H Q,jc K H0 (ch3 r r' ta tb tc) σ H Q→zbK (Zx K H0 r) (Zx K H0 r') (jc K H0 ta) (jc K H0 tb) (jc K H0 tc) σ H Q:=fun σ H Q=>el5 fun G0 ρ G F q=>
  ⟨G0,ρ,G,F,ha ρ _ _ (fun x qx v1 G1 H1 g1 w1=>⟨G0,ρ,G1,F.gr g1,hb ρ _ _ (fun y qy v2 G2 H2 g2 w2=>⟨G2,x,y,g2.sub,w1.gr g2,w2,hr x y _ _ (fun _ z hyp v3 G3 H3 g3 r3=>by
    obtain⟨k,e,q⟩:=hyp;subst e;refine⟨k,zaU r3.rd,?_⟩;cases k with
    | false=>exact q _ G3 H3 ((g1.trans g2).trans g3) (.sh (.sc rfl (.bl false)))
    | true=>exact⟨G0,ρ,G3,F.gr ((g1.trans g2).trans g3),hc ρ _ _ (fun w qw v4 G4 H4 g4 w4=>⟨G4,y,w,g4.sub,(w2.gr g3).gr g4,w4,hr' y w _ _ (fun f d k v G' H' g r=>k v G' H' ((((g1.trans g2).trans g3).trans g4).trans g) (.sh r)) qw⟩) q⟩) qy⟩) qx⟩) q⟩
theorem zbg {op op':CmpOp} {r r':R3} {ta tb tc:TE3} (ho:OpOk X (compareOp op) r) (ho':OpOk X (compareOp op') r') (ha:PE3 X H0 a ta) (hb:PE3 X H0 b tb) (hc:PE3 X H0 c tc) (hm:lastMarks [op,op'] [b,c]=false:=by with_unfolding_all rfl) :
    PT3 X H0 (.Compare a [op,op'] [b,c] pos) (tt3 (ch3 r r' ta tb tc)):=
  ⟨zbj (zcY ho.mono ho'.mono ha.mono hb.mono hc.mono),PT.imp (zjJ (ho.ok H0) (ho'.ok H0) ha.ok hb.ok hc.ok hm) fun σ H Q q=>zbW (zfA ho.mono ho'.mono ha.mono hb.mono hc.mono) σ H Q (zaN (zcY ho.mono ho'.mono ha.mono hb.mono hc.mono) σ H Q q)⟩
abbrev U3:=Cl→(Bool→D→Prop)→Prop
def zef (K:PySem.W.Frag) (H0:Hp) (r:U3):V→Hp→VK→Prop:=fun x H Q=>∃ G a,Same G H∧Vw K H0 G H x a∧r a fun f d=>∀ v G' H',Gr G H G' H'→Rf K H0 G' f v d→Q v H'
structure UnOk (X:Cx) (f:Value→Sem Value) (r:U3):Prop where
  mono:∀ a (Q Q':Bool→D→Prop),(∀ f c,Q f c→Q' f c)→r a Q→r a Q'
  ok:∀ H0,UnR X f (zef X.K H0 r)
def u3 (r:U3) (ta:TE3):TE3:=fun ρ Q=>ta ρ fun a=>r a fun f d=>Q (.sh f d)
theorem un3 {op:UnaryOp} {r:U3} {ta:TE3} (ho:UnOk X (unaryOp op) r) (ha:PE3 X H0 a ta):PE3 X H0 (.UnaryOp op a pos) (u3 r ta):=
  ⟨fun ρ Q Q' h q=>ha.mono ρ _ _ (fun a=>ho.mono a _ _ fun f d=>h _) q,PE.imp (zfz (ho.ok H0) ha.ok) fun σ H Q=>el5 fun G0 ρ G F q=>
    ⟨G0,ρ,G,F,ha.mono ρ _ _ (fun a qa v1 G1 H1 g1 w1=>⟨G1,a,g1.sub,w1,ho.mono a _ _ (fun f d k v G' H' g r=>k v G' H' (g1.trans g) (.sh r)) qa⟩) q⟩⟩
theorem val3 {t:TE3} (h:PE3 X H0 e t) (he:∀ whole,isTrue e X.env whole=(do let v ←whole;standAt e.pos;holding [v] (truthy v)):=by intro _;rfl):PT3 X H0 e (tt3 t):=
  ⟨zbj h.mono,PT.imp (ze3 h.ok he) (zaN h.mono)⟩
def or3 (t u:TT3):TT3:=fun ρ Q=>t ρ fun k=>if k=true then Q true else u ρ Q
def not3 (t:TT3):TT3:=fun ρ Q=>t ρ fun k=>Q (!k)
theorem Jp {t:TT3} (h:PT3 X H0 a t):PT3 X H0 (.UnaryOp .Not a pos) (not3 t):=
  ⟨fun ρ Q Q' hq q=>h.mono ρ _ _ (fun k=>hq _) q,PT.imp (zhd h.ok) fun σ H Q=>el5 fun G0 ρ G F q=>⟨G0,ρ,G,F,q⟩⟩
theorem Zg {t:TT3} (h:PT3 X H0 a t):PW3 X H0 (.BoolOp .Or [a] pos) t:=⟨h.mono,zfh h.ok⟩
theorem JV {rest:List Expr} {t u:TT3} (h:PT3 X H0 a t) (h':PW3 X H0 (.BoolOp .Or (b::rest) pos) u):PW3 X H0 (.BoolOp .Or (a::b::rest) pos) (or3 t u):=
  ⟨fun ρ Q Q' hq q=>h.mono ρ _ _ (fun k=>by cases k;exact h'.mono ρ _ _ hq;exact hq _) q,PW.imp (zhk h.ok h'.ok) fun σ H Q=>el5 fun G0 ρ G F q=>⟨G0,ρ,G,F,h.mono ρ _ _ (fun k qk G1 H1 g1=>by
    cases k with
    | true=>exact qk G1 H1 g1
    | false=>exact⟨G0,ρ,G1,F.gr g1,h'.mono ρ _ _ (fun k q G2 H2 g2=>q G2 H2 (g1.trans g2)) qk⟩) q⟩⟩
theorem pw3 {t:TT3} (h:PW3 X H0 e t):PT3 X H0 e t:=⟨h.mono,h.ok.pt⟩
def ZJ (ta tb:TE3):TE3:=fun ρ Q=>ta ρ fun c=>∃ k,c=.sh true (.bool k)∧if k=true then tb ρ Q else Q (.sh true (.bool false))
def ZF (ta:TE3):TE3:=fun ρ Q=>ta ρ fun c=>∃ k,c=.sh true (.bool k)∧Q (.sh true (.bool (!k)))
theorem one3 {op} {t:TE3} (h:PE3 X H0 a t):PE3 X H0 (.BoolOp op [a] pos) t:=⟨h.mono,zgp h.ok⟩
theorem zdB {rest:List Expr} {ta tb:TE3} (h:PE3 X H0 a ta) (h':PE3 X H0 (.BoolOp .And (b::rest) pos) tb):PE3 X H0 (.BoolOp .And (a::b::rest) pos) (ZJ ta tb):=
  ⟨fun ρ Q Q' hq q=>h.mono ρ _ _ (fun c ⟨k,e,q⟩=>⟨k,e,by cases k;exact hq _ q;exact h'.mono ρ _ _ hq q⟩) q,PE.imp (zg0 h.ok h'.ok) fun σ H Q=>el5 fun G0 ρ G F q=>⟨G0,ρ,G,F,h.mono ρ _ _ (fun c hyp v G1 H1 g1 w=>by
    obtain⟨k,e,qk⟩:=hyp;subst e;refine⟨k,Z2 w,?_⟩;cases k with
    | false=>exact qk _ G1 H1 g1 (.sh (.sc rfl (.bl false)))
    | true=>exact⟨G0,ρ,G1,F.gr g1,h'.mono ρ _ _ (fun k q v G2 H2 g2=>q v G2 H2 (g1.trans g2)) qk⟩) q⟩⟩
theorem zeP {ta:TE3} (h:PE3 X H0 a ta):PE3 X H0 (.UnaryOp .Not a pos) (ZF ta):=
  ⟨fun ρ Q Q' hq q=>h.mono ρ _ _ (fun c ⟨k,e,q⟩=>⟨k,e,hq _ q⟩) q,PE.imp (zfY h.ok) fun σ H Q=>el5 fun G0 ρ G F q=>⟨G0,ρ,G,F,h.mono ρ _ _ (fun c hyp v G1 H1 g1 w=>by
    obtain⟨k,e,qk⟩:=hyp;subst e;exact⟨k,Z2 w,qk _ G1 H1 g1 (.sh (.sc rfl (.bl _)))⟩) q⟩⟩
def nil3:TA3:=fun _ Q=>Q []
def Z3 (ta:TE3) (tr:TA3):TA3:=fun ρ Q=>ta ρ fun c=>tr ρ fun cs=>Q (c::cs)
theorem zb:PA3 X H0 [] nil3:=⟨fun ρ Q Q' h q=>h _ q,PA.imp jn fun σ H Q=>el5 fun G0 ρ G F q=>q [] G H (Gr.refl F.sub) .nil⟩
theorem za {es:List Expr} {ta:TE3} {tr:TA3} (ha:PE3 X H0 e ta) (hr:PA3 X H0 es tr) (hs:starEach (e::es) X.env=(false,eval e X.env)::starEach es X.env:=by rfl):PA3 X H0 (e::es) (Z3 ta tr):=
  ⟨fun ρ Q Q' h q=>ha.mono ρ _ _ (fun c=>hr.mono ρ _ _ fun cs=>h _) q,PA.imp (z9 ha.ok hr.ok hs) fun σ H Q=>el5 fun G0 ρ G F q=>
    ⟨G0,ρ,G,F,ha.mono ρ _ _ (fun c qc v G1 H1 g1 w1=>⟨G0,ρ,G1,F.gr g1,hr.mono ρ _ _ (fun cs k vs G2 H2 g2 w2=>k (v::vs) G2 H2 (g1.trans g2) (.cons (w1.gr g2) w2)) qc⟩) q⟩⟩
def tup3 (t:TA3):TE3:=fun ρ Q=>t ρ fun cs=>optP (shs cs) fun p=>p.2.length≤sizeLine∧Q (.sh p.1 (.tuple p.2))
theorem zF {es:List Expr} {t:TA3} {x1} (h:PA3 X H0 es t):PE3 X H0 (.Tuple es x1 pos) (tup3 t):=
  ⟨fun ρ Q Q' hq q=>h.mono ρ _ _ (fun cs q=>by obtain⟨ds,e,z,q⟩:=zaC q;rw [e];exact⟨z,hq _ q⟩) q,PE.imp (zc2 h.ok) fun σ H Q=>el5 fun G0 ρ G F q=>⟨G0,ρ,G,F,h.mono ρ _ _ (fun cs hyp vs G1 H1 g1 w=>by
    obtain⟨ds,e,z,k⟩:=zaC hyp;have r:=w.shs e;refine⟨by rw [r.length];exact z,fun p hp=>k (.ref p) (upd G1 p (.tup vs)) (upd H1 p (.tup vs)) (g1.trans (Gr.put g1.sub hp)) (.sh ⟨.tup (SqT.of zB) (rdvs_same (ja (g1.sub.free hp) _) r.rd),fun hf=>.tup (SqT.of zB) (rdns_mono (ja (g1.sub.free hp) _) (fun _ _ _ z=>z) (r.nw hf))⟩)⟩) q⟩⟩
def lst3 (t:TA3):TN3:=fun ρ Q=>t ρ fun cs=>optP (shs cs) fun p=>p.2.length≤sizeLine∧Q p.1 p.2
theorem zp {es:List Expr} {t:TA3} (h:PA3 X H0 es t):PN3 X H0 (.List es pos) (lst3 t):=
  ⟨fun ρ Q Q' hq q=>h.mono ρ _ _ (fun cs q=>by obtain⟨ds,e,z,q⟩:=zaC q;rw [e];exact⟨z,hq _ _ q⟩) q,PE.imp (zd6 h.ok) fun σ H Q=>el5 fun G0 ρ G F q=>⟨G0,ρ,G,F,h.mono ρ _ _ (fun cs hyp vs G1 H1 g1 w=>by
    obtain⟨ds,e,z,k⟩:=zaC hyp;have r:=w.shs e;exact⟨by rw [r.length];exact z,fun p hp=>k p vs G1 H1 g1 hp r⟩) q⟩⟩
abbrev C3:=List Cl→(Bool→D→Prop)→Prop
def zhG (K:PySem.W.Frag) (H0:Hp) (r:C3):List V→Hp→VK→Prop:=fun xs H Q=>∃ G cs,Same G H∧Vws K H0 G H xs cs∧r cs fun f d=>∀ v G' H',Gr G H G' H'→Rf K H0 G' f v d→Q v H'
structure CallOk (X:Cx) (f:Value) (r:C3):Prop where
  mono:∀ cs (Q Q':Bool→D→Prop),(∀ f c,Q f c→Q' f c)→r cs Q→r cs Q'
  ok:∀ H0,zG X f (zhG X.K H0 r)
theorem zG.imp {f:Value} {r r':List V→Hp→VK→Prop} (h:zG X f r) (i:∀ xs H Q,r' xs H Q→r xs H Q):zG X f r':=fun pins s σ H xs us Q I rv q=>h pins s σ H xs us Q I rv (i _ _ _ q)
def cb3 (r:C3) (t:TA3):TE3:=fun ρ Q=>t ρ fun cs=>r cs fun f d=>Q (.sh f d)
variable {x:Str} {p:Pos} {es:List Expr} {id T:String}
theorem zw {r:C3} {t:TA3} (hc:CallOk X (.builtin id) r) (hg:Gl X x) (hm:X.mg x=none) (hv:bootBuiltins x=some (.builtin id)) (ha:PA3 X H0 (e::es) t) (hn:x≠"__name__":=by decide) (hdb:(x==("__debug__" : Str))=false:=by decide)
    (he:starEach (e::es) X.env=(false,eval e X.env)::starEach es X.env:=by rfl) (hpl:(backTo pos (starEach es X.env)).any (·.1)=false:=by rfl):PE3 X H0 (.Call (.Name x p) (e::es) [] pos) (cb3 r t):=
  ⟨fun ρ Q Q' h q=>ha.mono ρ _ _ (fun cs=>hc.mono cs _ _ fun f d=>h _) q,PE.imp (Zz (hc.ok H0) hg hm hv ha.ok hn hdb he hpl) fun σ H Q=>el5 fun G0 ρ G F q=>⟨G0,ρ,G,F,ha.mono ρ _ _ (fun cs qc vs G1 H1 g1 w=>⟨G1,cs,g1.sub,w,hc.mono cs _ _ (fun f d k v G' H' g r=>k v G' H' (g1.trans g) (.sh r)) qc⟩) q⟩⟩
abbrev Sp3:=List D→(Bool→D→Prop)→(Addr→Prop)→Prop
def spL (K:PySem.W.Frag) (sp:Sp3):Sp:=fun vs H Q E=>∃ G ds,Same G H∧RdVs K G vs ds∧sp ds (fun f d=>∀ v G' H',Gr G H G' H'→Rf K H G' f v d→Q v H') fun C=>∀ H',Same H H'→E (.ref C) none H'
theorem zb7 {K:PySem.W.Frag} {G G':Hp} {v:V} {d:D} (h:zy d=true) (r:RdV K G v d):RdV K G' v d:=by
  cases r with
  | non=>exact .non
  | bl b=>exact .bl b
  | int i=>exact .int i
  | str s=>exact .str s
  | lst _ _=>cases h
  | tup _ _=>cases h
structure Df3 (P:Program) (w:World) (K:PySem.W.Frag) (mg:Str→Option Value) (base:Heap) (k:Nat) (x:Str) (ps:List Str) (sp:Sp3):Prop where
  mono:∀ ds (Q Q':Bool→D→Prop) (E E':Addr→Prop),(∀ f d,Q f d→Q' f d)→(∀ d,E d→E' d)→sp ds Q E→sp ds Q' E'
  ok:Df P w K mg base k x ps (spL K sp)
def ZT (sp:Sp3) (E:Addr→Prop) (t:TA3):TE3:=fun ρ Q=>t ρ fun cs=>cs.all Cl.dat=true∧sp (cs.map Cl.d) (fun f d=>((shs cs).isSome=true∨zy d=true)∧Q (.sh f d)) E
theorem zcJ:∀ {cs:List Cl} {p:Bool×List D},shs cs=some p→cs.map Cl.d=p.2
  | [],_,e=>by cases e;rfl
  | .sh _ d :: r, ds, e => by
    unfold shs at e;cases q:shs r with
    | none=>rw [q] at e;cases e
    | some es=>rw [q] at e;cases e;rw [List.map_cons,zcJ q];rfl
  | .ow _ _::r,_,e=>by cases e
  | .tr _ _::r,_,e=>by cases e
  | .dt _::r,_,e=>by cases e
  | .ex _::r,_,e=>by cases e
theorem df3 {k:Nat} {ps:List Str} {sp:Sp3} {E:XK} {E3:Addr→Prop} {t:TA3} (hE:∀ C H',E3 C→Same H0 H'→E (.ref C) none H') (Gd:Df3 X.prog X.w X.K X.mg X.base k x ps sp) (hr:Room k X.A) (hg:Gl X x) (hx:Passes (CXR X.prog X.w) X E) (ha:PA3 X H0 (e::es) t) (hdb:(x==("__debug__" : Str))=false:=by decide)
    (he:starEach (e::es) X.env=(false,eval e X.env)::starEach es X.env:=by rfl) (hpl:(backTo pos (starEach es X.env)).any (·.1)=false:=by rfl):PE3 X H0 (.Call (.Name x p) (e::es) [] pos) (ZT sp E3 t):=by
  refine⟨fun ρ Q Q' h q=>ha.mono ρ _ _ (fun cs ⟨hd,q⟩=>⟨hd,Gd.mono _ _ _ _ _ (fun f d ⟨a,b⟩=>⟨a,h _ b⟩) (fun _ z=>z) q⟩) q,PE.imp (zja Gd.ok hr hg hx ha.ok hdb he hpl) fun σ H Q=>el5 fun G0 ρ G F q=>⟨G0,ρ,G,F,ha.mono ρ _ _ (fun cs ⟨hd,qc⟩ vs G1 H1 g1 w=>?_) q⟩⟩
  show spL X.K sp (vs++[]) H1 Q E
  rw [List.append_nil];have kE:∀ C,E3 C→∀ H',Same H1 H'→E (.ref C) none H':=fun C c H' s=>hE C H' c ((F.gr g1).keep.trans s)
  cases hs:shs cs with
  | some ds=>
    refine⟨G1,cs.map Cl.d,g1.sub,by rw [zcJ hs];exact(w.shs hs).rd,Gd.mono _ _ _ _ _ (fun f d ⟨_,k⟩ v G' H' g r=>k v G' H' (g1.trans g) (.sh ⟨r.rd,fun hf=>jX (Same.refl _) (fun _ _ _ z=>(F.gr g1).keep.free z) (r.nw hf)⟩)) kE qc⟩
  | none=>
    refine⟨H1,cs.map Cl.d,Same.refl _,w.rds g1.sub hd,Gd.mono _ _ _ _ _ (fun f d ⟨s,k⟩ v G' H' g r=>?_) kE qc⟩
    have sc:zy d=true:=s.resolve_left (by rw [hs];simp)
    exact k v G1 H' (g1.trans ⟨Same.refl _,g.h,g1.sub.trans g.h,fun _ _ e=>.inl e⟩) (.sh (.sc sc (zb7 sc r.rd)))
end
theorem zfI {K:PySem.W.Frag} {G:Hp} {vs:List V} {d:D} {ds:List D} (r:RdVs K G vs (d::ds)):∃ v us,vs=v::us∧RdV K G v d∧RdVs K G us ds:=by
  cases r with
  | cons a b=>exact⟨_,_,rfl,a,b⟩
theorem zgQ {K:PySem.W.Frag} {G:Hp} {v:V} {ds:List D} (r:RdV K G v (.tuple ds)):∃ a xs,v=.ref a∧SqT K G a xs∧RdVs K G xs ds:=by
  cases r with
  | tup a b=>exact⟨_,_,rfl,a,b⟩
theorem ziY {K:PySem.W.Frag} {G:Hp} {v:V} {ds:List D} (r:RdV K G v (.list ds)):∃ a xs,v=.ref a∧SqL K G a xs∧RdVs K G xs ds:=by
  cases r with
  | lst a b=>exact⟨_,_,rfl,a,b⟩
theorem zt {K:PySem.W.Frag} {H0 G H:Hp} {v:V} {f:Bool} {d:D} (w:Vw K H0 G H v (.sh f d)):Rf K H0 G f v d:=by
  cases w with
  | sh r=>exact r
theorem zgo {K:PySem.W.Frag} {H0 G:Hp} {f:Bool} {vs:List V} {d:D} {ds:List D} (r:Rfs K H0 G f vs (d::ds)):∃ v us,vs=v::us∧Rf K H0 G f v d∧Rfs K H0 G f us ds:=by
  obtain⟨v,us,rfl,a,b⟩:=zfI r.rd;exact⟨v,us,rfl,⟨a,fun h=>by cases r.nw h with|cons x y=>exact x⟩,⟨b,fun h=>by cases r.nw h with|cons x y=>exact y⟩⟩
theorem zac {K:PySem.W.Frag} {H0 G:Hp} {f:Bool} {v:V} {ds:List D} (r:Rf K H0 G f v (.tuple ds)):∃ a xs,v=.ref a∧SqT K G a xs∧Rfs K H0 G f xs ds:=by
  cases f with
  | false=>
    obtain⟨a,xs,rfl,h,rs⟩:=zgQ r.rd;exact⟨a,xs,rfl,h,rs,fun h=>by cases h⟩
  | true=>
    have n:=r.nw rfl;cases n with
    | tup h rs=>exact⟨_,_,rfl,h,rdns_rd rs,fun _=>rs⟩
theorem Jj {K:PySem.W.Frag} {H0 G:Hp} {f:Bool} {v:V} {ds:List D} (r:Rf K H0 G f v (.list ds)):∃ a xs,v=.ref a∧SqL K G a xs∧Rfs K H0 G f xs ds:=by
  cases f with
  | false=>
    obtain⟨a,xs,rfl,h,rs⟩:=ziY r.rd;exact⟨a,xs,rfl,h,rs,fun h=>by cases h⟩
  | true=>
    have n:=r.nw rfl;cases n with
    | lst h _ rs=>exact⟨_,_,rfl,SqL.of h,rdns_rd rs,fun _=>rs⟩
section
variable {X:Cx} {H0:Hp} {e a b c:Expr} {pos:Pos} {st:Stmt} {rest:List Stmt}
def next3:TS3:=fun A ρ=>A.nx ρ
def seq3 (t u:TS3):TS3:=fun A ρ=>t { A with nx:=u A } ρ
theorem zn:PSs3 X H0 [] next3:=PSs.imp zgE fun B σ H=>el7 fun G0 A ρ G F q L=>L.nx ρ σ G H F q
theorem zc {t u:TS3} (h1:PS3 X H0 st t) (h2:PSs3 X H0 rest u):PSs3 X H0 (st::rest) (seq3 t u):=PSs.imp (zim h1 h2) fun B σ H=>el7 fun G0 A ρ G F q L=>
  ⟨G0,{ A with nx:=u A },ρ,G,F,q,⟨fun ρ' σ' G' H' F' q'=>⟨G0,A,ρ',G',F',q',L⟩,L.rt,L.bk,L.ct⟩⟩
theorem zd {t:TS3} (h1:PS3 X H0 st t):PSs3 X H0 [st] t:=zdr h1
def ZV (te:TE3):TS3:=fun A ρ=>te ρ fun _=>A.nx ρ
theorem zax {te:TE3} (he:PE3 X H0 e te) (hs:swapsWith e none pos.line X.env=pure false:=by rfl):PS3 X H0 (.Expr e pos) (ZV te):=PS.imp (zaW he.ok hs) fun B σ H=>el7 fun G0 A ρ G F q L=>
  ⟨G0,ρ,G,F,he.mono ρ _ _ (fun c q v G' H' g w=>L.nx ρ σ G' H' (F.gr g) q) q⟩
def ret3 (te:TE3):TS3:=fun A ρ=>te ρ fun c=>asS c A.rt
theorem zj {te:TE3} (he:PE3 X H0 e te):PS3 X H0 (.Return (some e) pos) (ret3 te):=PS.imp (zgX he.ok) fun B σ H=>el7 fun G0 A ρ G F q L=>
  ⟨G0,ρ,G,F,he.mono ρ _ _ (fun c hyp v G' H' g w=>by
    obtain⟨f,d,hc,q⟩:=Jf hyp;subst hc;exact L.rt f d v G' H' (F.gr g).gr0 (zt w) q) q⟩
def ifS3 (t:TT3) (u v:TS3):TS3:=fun A ρ=>t ρ fun k=>if k=true then u A ρ else v A ρ
theorem s_if {xs ys:List Stmt} {t:TT3} {u v:TS3} (hc:PT3 X H0 c t) (ha:PSs3 X H0 xs u) (hb:PSs3 X H0 ys v):PS3 X H0 (.If c xs ys pos) (ifS3 t u v):=PS.imp (zdz hc.ok ha hb) fun B σ H=>el7 fun G0 A ρ G F q L=>
  ⟨G0,ρ,G,F,hc.mono ρ _ _ (fun k q G' H' g=>by
    cases k with
    | true=>exact⟨G0,A,ρ,G',F.gr g,q,L⟩
    | false=>exact⟨G0,A,ρ,G',F.gr g,q,L⟩) q⟩
def set3 (i:Nat) (te:TE3):TS3:=fun A ρ=>te ρ fun c=>asS c fun f d=>A.nx (ρ.set i (some (.sh f d)))
theorem zf {i:Nat} {x:Str} {te:TE3} {pos':Pos} (hN:X.N.Nodup) (hi:X.N[i]?=some x) (hx:Loc X.env.scope x) (he:PE3 X H0 e te) (hs:swapsWith e (some (.Name x pos')) pos.line X.env=pure false:=by rfl)
    (hf:X.fn x=true∨X.env.scope.names.lookup x=some .local:=by first|exact .inl rfl|exact .inr rfl|assumption):PS3 X H0 (.Assign [.Name x pos'] e pos) (set3 i te):=PS.imp (zcx hN hi hx he.ok hs hf) fun B σ H=>el7 fun G0 A ρ G F q L=>
  ⟨G0,ρ,G,F,he.mono ρ _ _ (fun c hyp v G' H' g w=>by
    obtain⟨f,d,hc,q⟩:=Jf hyp;subst hc;exact L.nx _ _ G' H' ((F.gr g).set (zt w)) q) q⟩
def own3 (i:Nat) (tn:TN3):TS3:=fun A ρ=>tn ρ fun f ds=>A.nx (ρ.set i (some (.ow f ds)))
theorem je {i:Nat} {x:Str} {tn:TN3} {pos':Pos} (hN:X.N.Nodup) (hi:X.N[i]?=some x) (hx:Loc X.env.scope x) (he:PN3 X H0 e tn) (hs:swapsWith e (some (.Name x pos')) pos.line X.env=pure false:=by rfl)
    (hf:X.fn x=true∨X.env.scope.names.lookup x=some .local:=by first|exact .inl rfl|exact .inr rfl|assumption):PS3 X H0 (.Assign [.Name x pos'] e pos) (own3 i tn):=PS.imp (zcx hN hi hx he.ok hs hf) fun B σ H=>el7 fun G0 A ρ G F q L=>
  ⟨G0,ρ,G,F,he.mono ρ _ _ (fun f ds q l vs G' H' g hl r=>L.nx _ _ G' _ ((F.gr g).own r hl) q) q⟩
abbrev TG3:=Bool→D→Env3→(Env3→Prop)→Prop
abbrev TGs3:=Bool→List D→Env3→(Env3→Prop)→Prop
def Zs (K:PySem.W.Frag) (H0:Hp) (g:TG3):TG:=fun v σ H Q=>∃ G0 ρ G f d,Fr3 K H0 G0 ρ σ G H∧Rf K H0 G f v d∧g f d ρ fun ρ'=>∀ σ' G' H',Fr3 K H0 G0 ρ' σ' G' H'→Same G G'→Gr G H G' H'→Q σ' H'
def zgK (K:PySem.W.Frag) (H0:Hp) (g:TGs3):TGs:=fun vs σ H Q=>∃ G0 ρ G f ds,Fr3 K H0 G0 ρ σ G H∧Rfs K H0 G f vs ds∧g f ds ρ fun ρ'=>∀ σ' G' H',Fr3 K H0 G0 ρ' σ' G' H'→Same G G'→Gr G H G' H'→Q σ' H'
structure PG3 (X:Cx) (H0:Hp) (tg:Expr) (g:TG3):Prop where
  mono:∀ f d ρ (Q Q':Env3→Prop),(∀ c,Q c→Q' c)→g f d ρ Q→g f d ρ Q'
  ok:PG X tg (Zs X.K H0 g)
structure PGs3 (X:Cx) (H0:Hp) (tg:List Expr) (g:TGs3):Prop where
  mono:∀ f d ρ (Q Q':Env3→Prop),(∀ c,Q c→Q' c)→g f d ρ Q→g f d ρ Q'
  ok:PGs X tg (zgK X.K H0 g)
theorem PG.imp {tg:Expr} {t t':TG} (h:PG X tg t) (i:∀ v σ H Q,t' v σ H Q→t v σ H Q):PG X tg t':=fun pins s σ H v u Q I r q=>h pins s σ H v u Q I r (i _ _ _ _ q)
theorem PGs.imp {tg:List Expr} {t t':TGs} (h:PGs X tg t) (i:∀ v σ H Q,t' v σ H Q→t v σ H Q):PGs X tg t':=fun pins s σ H v u Q I r q=>h pins s σ H v u Q I r (i _ _ _ _ q)
def gn3 (i:Nat):TG3:=fun f d ρ Q=>Q (ρ.set i (some (.sh (f||zy d) d)))
theorem zg {i:Nat} {x:Str} (hN:X.N.Nodup) (hi:X.N[i]?=some x) (hx:Loc X.env.scope x) (hf:X.fn x=true∨X.env.scope.names.lookup x=some .local:=by first|exact .inl rfl|exact .inr rfl|assumption):PG3 X H0 (.Name x pos) (gn3 i):=
  ⟨fun f d ρ Q Q' h q=>h _ q,PG.imp (zfP hN hi hx hf) fun v σ H Q ⟨G0,ρ,G,f,d,F,r,q⟩=>q _ G H (F.set r.or) (Same.refl _) (Gr.refl F.sub)⟩
def gnil3:TGs3:=fun _ ds ρ Q=>nilP ds (Q ρ)
def ZC (t:TG3) (u:TGs3):TGs3:=fun f ds ρ Q=>Zf ds fun d r=>t f d ρ fun ρ'=>u f r ρ' Q
theorem z0:PGs3 X H0 [] gnil3:=
  ⟨fun f d ρ Q Q' h q=>by obtain⟨e,q⟩:=zb8 q;subst e;exact h _ q,PGs.imp zhr fun vs σ H Q hyp=>by
    obtain⟨G0,ρ,G,f,ds,F,r,q⟩:=hyp;obtain⟨e,q⟩:=zb8 q;subst e;cases r.rd;exact⟨rfl,q σ G H F (Same.refl _) (Gr.refl F.sub)⟩⟩
theorem zA {es:List Expr} {t:TG3} {u:TGs3} (h1:PG3 X H0 e t) (h2:PGs3 X H0 es u) (hs:(assignEach (e::es) X.env).map (·.2)=assign e X.env::(assignEach es X.env).map (·.2):=by rfl):PGs3 X H0 (e::es) (ZC t u):=
  ⟨fun f d ρ Q Q' h q=>by obtain⟨x,r,e,q⟩:=zce q;subst e;exact h1.mono f x ρ _ _ (fun ρ'=>h2.mono f r ρ' _ _ h) q,PGs.imp (zfE h1.ok h2.ok hs) fun vs σ H Q hyp=>by
    obtain⟨G0,ρ,G,f,ds,F,r,q⟩:=hyp;obtain⟨x,y,e,q⟩:=zce q;subst e;obtain⟨v,us,rfl,r1,r2⟩:=zgo r;exact⟨v,us,rfl,G0,ρ,G,f,x,F,r1,h1.mono f x ρ _ _ (fun ρ' q σ1 G1 H1 F1 s1 g1=>⟨G0,ρ',G1,f,y,F1,r2.same s1,h2.mono f y ρ' _ _ (fun ρ2 q σ2 G2 H2 F2 s2 g2=>q σ2 G2 H2 F2 (s1.trans s2) (g1.trans g2)) q⟩) q⟩⟩
def Z0 (n:Nat) (t:TGs3):TG3:=fun f d ρ Q=>asT d fun ds=>ds.length=n∧t f ds ρ Q
theorem z3 {es:List Expr} {k:Nat} {t:TGs3} {n:Nat} (hc:X.calm=true) (h:PGs3 X H0 es t) (hn:(assignEach es X.env).length=n:=by rfl) (hst:(assignEach es X.env).findIdx? (·.1)=none:=by rfl):PG3 X H0 (.Tuple es k pos) (Z0 n t):=
  ⟨fun f d ρ Q Q' hq q=>by obtain⟨ds,e,l,q'⟩:=zcO q;subst e;exact⟨l,h.mono f ds ρ _ _ hq q'⟩,PG.imp (zhM hc h.ok hn hst) fun v σ H Q hyp=>by
    obtain⟨G0,ρ,G,f,d,F,r,q⟩:=hyp;obtain⟨ds,e,l,q'⟩:=zcO q;subst e;obtain⟨a,xs,rfl,hq,rs⟩:=zac r;exact⟨a,xs,rfl,F.sub.tup hq,by rw [rs.length];exact l,G0,ρ,G,f,ds,F,rs,q'⟩⟩
def asg3 (te:TE3) (g:TG3):TS3:=fun A ρ=>te ρ fun c=>asS c fun f d=>g f d ρ A.nx
theorem zbm {tg:Expr} {te:TE3} {g:TG3} (he:PE3 X H0 e te) (hg:PG3 X H0 tg g) (hs:swapsWithSole [tg] e pos.line X.env=pure false:=by rfl) (hw:swappedStores [tg] e X.env=pure none:=by rfl)
    (h1:(assignEach [tg] X.env).map (·.2)=[assign tg X.env]:=by rfl):PS3 X H0 (.Assign [tg] e pos) (asg3 te g):=PS.imp (zbv he.ok hg.ok hs hw h1) fun B σ H=>el7 fun G0 A ρ G F q L=>
  ⟨G0,ρ,G,F,he.mono ρ _ _ (fun c hyp v G' H' g' w=>by
    obtain⟨f,d,hc,q⟩:=Jf hyp;subst hc;exact⟨G0,ρ,G',f,d,F.gr g',zt w,hg.mono f d ρ _ _ (fun ρ2 q σ2 G2 H2 F2 _ _=>L.nx ρ2 σ2 G2 H2 F2 q) q⟩) q⟩
theorem zao {K:PySem.W.Frag} {G0:Hp} {ρ : Env3} {σ : L2.St} {G H:Hp} {i:Nat} {f:Bool} {ds:List D} (F:Fr3 K H0 G0 ρ σ G H) (h:ρ[i]?=some (some (.ow f ds))):∃ l vs,σ[i]?=some (some (.ref l))∧H l=some (.lst vs)∧Rfs K H0 G f vs ds:=by
  obtain⟨v,h1,h2⟩:=F.slot i _ h;cases h2 with
  | ow hh r n=>exact⟨_,_,h1,hh,r⟩
def app3 (i:Nat) (te:TE3):TS3:=fun A ρ=>atO ρ[i]? fun f ds=>te ρ fun c=>asS c fun g d=>ds.length<sizeLine∧A.nx (ρ.set i (some (.ow (f&&g) (ds++[d]))))
theorem jj {i:Nat} {te:TE3} {x:Str} {np apos cpos:Pos} (hN:X.N[i]?=some x) (hv:Vis X.env.scope x) (he:PE3 X H0 e te) (hd:(x==("__debug__" : Str))=false:=by decide) (hcd:(x==("__classdict__" : Str))=false:=by decide)
    (hb:attributeBase (.Name x np) "append" X.env (eval (.Name x np) X.env)=eval (.Name x np) X.env:=by rfl)
    (hf:((backTo cpos (starEach [e] X.env)).all (fun x=>!x.1)&&(backToKw cpos (keywordEach [] X.env)).all (fun x=>x.1.isSome)&&decide ([e].length+([]:List Keyword).length+(if([]:List Keyword).isEmpty then 0 else 1)<30))=true:=by rfl)
    (hl:(apos.endLine==cpos.line)=true:=by rfl) (hs:starEach [e] X.env=(false,eval e X.env)::starEach [] X.env:=by rfl) (hp:(backTo cpos (starEach [] X.env)).any (·.1)=false:=by rfl)
    (hw:swapsWith (.Call (.Attribute (.Name x np) "append" apos) [e] [] cpos) none pos.line X.env=pure false:=by rfl):PS3 X H0 (.Expr (.Call (.Attribute (.Name x np) "append" apos) [e] [] cpos) pos) (app3 i te):=by
  refine PS.imp (zaW (zjj (ZD hN hv hd hcd) (z9 he.ok jn hs) hb hf hl hs hp) hw) fun B σ H hyp=>?_
  obtain⟨G0,A,ρ,G,F,q,L⟩:=hyp;obtain⟨f,ds,hi,q⟩:=zcp q;obtain⟨l,vs,h1,h2,r⟩:=zao F hi;refine⟨.ref l,h1,zbQ h2,G0,ρ,G,F,he.mono ρ _ _ (fun c q v G' H' g w=>?_) q⟩
  obtain⟨f',d,hc,hz,q'⟩:=Jf q;subst hc;exact⟨l,vs,v,rfl,rfl,g.h _ _ h2,by rw [r.length];exact hz,L.nx _ _ _ _ ((F.gr g).change hi h1 ((r.same g.g).snoc (zt w))) q'⟩
def put3 (i:Nat) (tk te:TE3):TS3:=fun A ρ=>atO ρ[i]? fun f ds=>te ρ fun c=>tk ρ fun k=>asS c fun g d=>asI k fun n=>∃ j,ixN ds.length n=some j∧A.nx (ρ.set i (some (.ow (f&&g) (ds.set j d))))
theorem zbG {i:Nat} {tk te:TE3} {x:Str} {np spos:Pos} {k:Expr} (hN:X.N[i]?=some x) (hv:Vis X.env.scope x) (hk:PE3 X H0 k tk) (he:PE3 X H0 e te) (hd:(x==("__debug__" : Str))=false:=by decide) (hcd:(x==("__classdict__" : Str))=false:=by decide)
    (hs:swapsWithSole [.Subscript (.Name x np) k spos] e pos.line X.env=pure false:=by rfl) (hw:swappedStores [.Subscript (.Name x np) k spos] e X.env=pure none:=by rfl)
    (h1:(assignEach [.Subscript (.Name x np) k spos] X.env).map (·.2)=[assign (.Subscript (.Name x np) k spos) X.env]:=by rfl)
    (ha:∀ v,assign (.Subscript (.Name x np) k spos) X.env v=(do
      let ov ←holding [v] (eval (.Name x np) X.env)
      let iv ←holding [v,ov] (eval k X.env)
      standAt spos
      holding [v,ov,iv] (setItem ov iv v)
      release [v,ov,iv] []):=by intro _;rfl):PS3 X H0 (.Assign [.Subscript (.Name x np) k spos] e pos) (put3 i tk te):=by
  refine PS.imp (zbv he.ok (ziU (ZD hN hv hd hcd) hk.ok zck ha) hs hw h1) fun B σ H hyp=>?_
  obtain⟨G0,A,ρ,G,F,q,L⟩:=hyp;obtain⟨f,ds,hi,q⟩:=zcp q;refine⟨G0,ρ,G,F,he.mono ρ _ _ (fun c qc v G1 H1 g1 w1=>?_) q⟩
  obtain⟨l,vs,h1,h2,r⟩:=zao F hi;refine⟨.ref l,h1,G0,ρ,G1,F.gr g1,hk.mono ρ _ _ (fun kc q kv G2 H2 g2 w2=>?_) qc⟩
  obtain⟨f',d,hc,q1⟩:=Jf q;obtain⟨n,hn,j,hj,q'⟩:=za9 q1;subst hc hn;have rk:=(zt w2).rd;cases rk;refine⟨l,vs,n,j,rfl,rfl,g2.h _ _ (g1.h _ _ h2),by rw [r.length];exact hj,L.nx _ _ _ _ (((F.gr g1).gr g2).change hi h1 ((r.same (g1.g.trans g2.g)).set ((zt w1).same g2.g) j)) q'⟩
def frz1 (i:Nat) (ρ : Env3):Env3:=match ρ[i]? with
  | some (some (.ow f ds))=>ρ.set i (some (.sh f (.list ds)))
  | some (some (.tr _ ms))=>ρ.set i (some (.sh true (.list (ms.map PyData.list))))
  | _=>ρ
def frz:List Nat→Env3→Env3
  | [],ρ=>ρ
  | i::r,ρ=>frz r (frz1 i ρ)
theorem Fr3.frz1 {K:PySem.W.Frag} {G0:Hp} {ρ : Env3} {σ : L2.St} {G H:Hp} (F:Fr3 K H0 G0 ρ σ G H) (i:Nat):∃ G',Same G G'∧Fr3 K H0 G0 (L3.frz1 i ρ) σ G' H:=by
  unfold L3.frz1
  split
  · rename_i f ds h;exact F.freeze h
  · rename_i ps ms h;exact F.freezeT h
  · exact⟨G,Same.refl _,F⟩
theorem Fr3.frz {K:PySem.W.Frag} {G0:Hp} {σ : L2.St} {H:Hp}:∀ (is:List Nat) {ρ : Env3} {G:Hp},Fr3 K H0 G0 ρ σ G H→∃ G',Same G G'∧Fr3 K H0 G0 (L3.frz is ρ) σ G' H
  | [],ρ,G,F=>⟨G,Same.refl _,F⟩
  | i :: r, ρ, G, F => by
    obtain⟨G1,s1,F1⟩:=F.frz1 i;obtain⟨G2,s2,F2⟩:=Fr3.frz r F1;exact⟨G2,s1.trans s2,F2⟩
def frzS (is:List Nat) (t:TS3):TS3:=fun A ρ=>t A (frz is ρ)
theorem ju (is:List Nat) {t:TS3} (h:PS3 X H0 st t):PS3 X H0 st (frzS is t):=PS.imp h fun B σ H=>el7 fun G0 A ρ G F q L=>by
  obtain⟨G',s',F'⟩:=F.frz is;exact⟨G0,A,frz is ρ,G',F',q,L⟩
def whN (c:TT3) (tb:TS3) (A:Ends3):Nat→Env3→Prop
  | 0,_=>False
  | n+1,ρ=>c ρ fun k=>if k=true then tb { A with nx:=whN c tb A n,ct:=whN c tb A n,bk:=A.nx } ρ else A.nx ρ
def ziG (c:TT3) (tb:TS3):TS3:=fun A ρ=>∃ n,whN c tb A n ρ
theorem zaT {body:List Stmt} {tc:TT3} {tb:TS3} (hp:PassesOwn (model X.prog X.w) X.A X.env X.xe) (hc:PT3 X H0 c tc) (hb:PSs3 X H0 body tb):PS3 X H0 (.While c body [] pos) (ziG tc tb):=PS.imp (zdR hp hc.ok hb) fun B σ H hyp=>by
  obtain⟨G0,A,ρ,G,F,⟨n,q⟩,L⟩:=hyp;refine⟨fun m σ' H'=>∃ ρ' G',Fr3 X.K H0 G0 ρ' σ' G' H'∧whN tc tb A m ρ',⟨n,ρ,G,F,q⟩,?_⟩
  rintro m σ' H' ⟨ρ',G',F',q'⟩
  cases m with
  | zero=>exact q'.elim
  | succ m=>
    refine⟨G0,ρ',G',F',hc.mono ρ' _ _ (fun k q G2 H2 g=>?_) q'⟩
    cases k with
    | false=>exact L.nx ρ' σ' G2 H2 (F'.gr g) q
    | true=>
      exact⟨fun σ3 H3=>∃ ρ3 G3,Fr3 X.K H0 G0 ρ3 σ3 G3 H3∧whN tc tb A m ρ3,fun σ3 H3 h3=>⟨m,Nat.lt_succ_self _,h3⟩,
        G0,_,ρ',G2,F'.gr g,q,⟨fun ρ4 σ4 G4 H4 F4 q4=>⟨ρ4,G4,F4,q4⟩,L.rt,L.nx,fun ρ4 σ4 G4 H4 F4 q4=>⟨ρ4,G4,F4,q4⟩⟩⟩
structure ItOk (K:PySem.W.Frag) (H0:Hp) (J:It) (fl:Bool) (ds:List D) (Gs:Hp):Prop where
  go:∀ (i:Nat) d G H,ds[i]?=some d→Same Gs G→Same G H→J.go i H∧∀ x H',J.yld i H x H'→∃ G',Gr G H G' H'∧Rf K H0 G' fl x d
  stop:∀ (i:Nat) G H,i=ds.length→Same Gs G→Same G H→J.stop i H
abbrev TI3:=Env3→(Bool→List D→Prop)→Prop
def Z1 (K:PySem.W.Frag) (H0:Hp) (t:TI3):TI:=fun σ H R=>∃ G0 ρ G,Fr3 K H0 G0 ρ σ G H∧t ρ fun f ds=>∀ J G' H',Gr G H G' H'→ItOk K H0 J f ds G'→R J H'
structure PI3 (X:Cx) (H0:Hp) (tg iter:Expr) (t:TI3):Prop where
  mono:∀ ρ (Q Q':Bool→List D→Prop),(∀ f c,Q f c→Q' f c)→t ρ Q→t ρ Q'
  ok:PI X tg iter (Z1 X.K H0 t)
def forL (g:TG3) (tb:TS3) (A:Ends3) (f:Bool):List D→Env3→Prop
  | [],ρ=>A.nx ρ
  | d::ds,ρ=>g f d ρ fun ρ'=>tb { A with nx:=forL g tb A f ds,ct:=forL g tb A f ds,bk:=A.nx } ρ'
def for3 (ti:TI3) (g:TG3) (tb:TS3):TS3:=fun A ρ=>ti ρ fun f ds=>forL g tb A f ds ρ
theorem zI {tg iter:Expr} {body:List Stmt} {ti:TI3} {g:TG3} {tb:TS3} (hp:PassesOwn (model X.prog X.w) X.A X.env X.xe) (hc:X.calm=true) (hi:PI3 X H0 tg iter ti) (hg:PG3 X H0 tg g) (hb:PSs3 X H0 body tb)
    (hs:∀ x,foldedSetIterable iter X.env x=pure x:=by intro _;rfl):PS3 X H0 (.For tg iter body [] pos) (for3 ti g tb):=PS.imp (zdl hp hc hi.ok hg.ok hb hs) fun B σ H=>el7 fun G0 A ρ G F q L=>by
  refine⟨G0,ρ,G,F,hi.mono ρ _ _ (fun f ds k J G1 H1 g1 ok=>?_) q⟩
  have B1:Fr3 X.K H0 G0 ρ σ G1 H1:=F.gr g1;refine⟨fun i m σ' H'=>i≤ds.length∧m=ds.length - i∧∃ ρ' G',Fr3 X.K H0 G1 ρ' σ' G' H'∧forL g tb A f (ds.drop i) ρ',⟨ds.length,Nat.zero_le _,rfl,ρ,G1,B1.rebase,k⟩,?_⟩
  rintro i m σ' H' ⟨hil,rfl,ρ',G',F',k'⟩
  by_cases hlt:i<ds.length
  · right
    have hd:ds[i]?=some ds[i]:=List.getElem?_eq_getElem hlt;obtain⟨hgo,hy⟩:=ok.go i _ G' H' hd F'.g0 F'.sub;rw [List.drop_eq_getElem_cons hlt] at k';refine⟨hgo,fun σ2 H2=>∃ ρ2 G2,Fr3 X.K H0 G1 ρ2 σ2 G2 H2∧forL g tb A f (ds.drop (i+1)) ρ2,fun σ2 H2 h2=>⟨_,Nat.sub_lt_sub_left hlt (Nat.lt_succ_self _),Nat.succ_le_of_lt hlt,rfl,h2⟩,fun x H2 y=>?_⟩
    obtain⟨G2,g2,r2⟩:=hy x H2 y;refine⟨G1,ρ',G2,f,_,F'.gr g2,r2,hg.mono f _ ρ' _ _ (fun ρ3 q3 σ3 G3 H3 F3 _ _=>⟨G1,_,ρ3,G3,F3,q3,?_⟩) k'⟩
    exact⟨fun ρ4 σ4 G4 H4 F4 q4=>⟨ρ4,G4,F4,q4⟩,fun f d v G4 H4 g4 r4 q4=>L.rt f d v G4 H4 (g4.back B1) r4 q4,fun ρ4 σ4 G4 H4 F4 q4=>L.nx ρ4 σ4 G4 H4 (F4.back B1) q4,fun ρ4 σ4 G4 H4 F4 q4=>⟨ρ4,G4,F4,q4⟩⟩
  · left
    have e:i=ds.length:=Nat.le_antisymm hil (Nat.not_lt.mp hlt);rw [e,List.drop_length] at k';exact⟨ok.stop i G' H' e F'.g0 F'.sub,L.nx ρ' σ' G' H' (F'.back B1) k'⟩
theorem PI.imp {tg iter:Expr} {t t':TI} (h:PI X tg iter t) (i:∀ σ H R,t' σ H R→t σ H R):PI X tg iter t':=fun pins s σ H R I q=>h pins s σ H R I (i _ _ _ q)
def itL (te:TE3):TI3:=fun ρ Q=>te ρ fun c=>asL c Q
def itT (te:TE3):TI3:=fun ρ Q=>te ρ fun c=>∃ f ds,c=.sh f (.tuple ds)∧Q f ds
theorem zeT {K:PySem.W.Frag} {H0 G:Hp} {a:Addr} {xs:List V} {f:Bool} {ds:List D} (hq:SqL K G a xs) (r:Rfs K H0 G f xs ds):ItOk K H0 (Itl K a) f ds G where
  go:=fun i d G' H hd s1 s2=>by
    obtain⟨x,hx,rx⟩:=r.get hd;refine⟨⟨xs,x,(s1.trans s2).seq hq,hx⟩,fun y H' ⟨e,hy⟩=>?_⟩
    subst e;have:=hy xs ((s1.trans s2).seq hq);rw [hx] at this;cases this;exact⟨G',Gr.refl s2,rx.same s1⟩
  stop:=fun i G' H hl s1 s2=>⟨xs,(s1.trans s2).seq hq,by rw [r.length,hl];exact Nat.le_refl _⟩
theorem ziD {K:PySem.W.Frag} {H0 G:Hp} {a:Addr} {xs:List V} {f:Bool} {ds:List D} (hq:SqT K G a xs) (r:Rfs K H0 G f xs ds):ItOk K H0 (Itt K a) f ds G where
  go:=fun i d G' H hd s1 s2=>by
    obtain⟨x,hx,rx⟩:=r.get hd;refine⟨⟨xs,x,(s1.trans s2).tup hq,hx⟩,fun y H' ⟨e,hy⟩=>?_⟩
    subst e;have:=hy xs ((s1.trans s2).tup hq);rw [hx] at this;cases this;exact⟨G',Gr.refl s2,rx.same s1⟩
  stop:=fun i G' H hl s1 s2=>⟨xs,(s1.trans s2).tup hq,by rw [r.length,hl];exact Nat.le_refl _⟩
theorem zM {tg iter:Expr} {te:TE3} (h:PE3 X H0 iter te):PI3 X H0 tg iter (itL te):=
  ⟨fun ρ Q Q' hq q=>h.mono ρ _ _ (fun c q=>by obtain⟨f,ds,e,q⟩:=zcV q;subst e;exact hq _ _ q) q,PI.imp (zio h.ok) fun σ H R=>el5 fun G0 ρ G F q=>⟨G0,ρ,G,F,h.mono ρ _ _ (fun c hyp v G' H' g w=>by
    obtain⟨f,ds,e,k⟩:=zcV hyp;subst e;obtain⟨a,xs,rfl,hq,rs⟩:=Jj (zt w);exact⟨a,rfl,⟨xs,g.sub.seq hq⟩,k _ G' H' g (zeT hq rs)⟩) q⟩⟩
theorem zjx {tg iter:Expr} {te:TE3} (h:PE3 X H0 iter te):PI3 X H0 tg iter (itT te):=
  ⟨fun ρ Q Q' hq q=>h.mono ρ _ _ (fun c ⟨f,ds,e,q⟩=>⟨f,ds,e,hq _ _ q⟩) q,PI.imp (ze9 h.ok) fun σ H R=>el5 fun G0 ρ G F q=>⟨G0,ρ,G,F,h.mono ρ _ _ (fun c hyp v G' H' g w=>by
    obtain⟨f,ds,e,k⟩:=hyp;subst e;obtain⟨a,xs,rfl,hq,rs⟩:=zac (zt w);exact⟨a,rfl,⟨xs,g.sub.tup hq⟩,k _ G' H' g (ziD hq rs)⟩) q⟩⟩
def nums (lo:Int) (n:Nat):List D:=(List.range n).map fun i=>.int (lo+(i:Nat))
theorem zcz {K:PySem.W.Frag} {H0 G:Hp} {lo:Int} {n:Nat}:ItOk K H0 (Itr lo n) true (nums lo n) G where
  go:=fun i d G' H hd s1 s2=>by
    unfold nums at hd;rw [List.getElem?_map] at hd
    by_cases hi:i<n
    · rw [List.getElem?_range hi] at hd
      cases hd;exact⟨hi,fun x H' ⟨e1,e2⟩=>by subst e1 e2;exact⟨G',Gr.refl s2,.sc rfl (.int _)⟩⟩
    · rw [List.getElem?_eq_none (by simpa using hi)] at hd;cases hd
  stop:=fun i G' H hl s1 s2=>by unfold nums at hl;show n≤i;simp at hl;omega
theorem zE {K:PySem.W.Frag} {G:Hp} {v:V} {i:Int} (r:RdV K G v (.int i)):v=.int i:=by cases r;rfl
theorem vws1 {K:PySem.W.Frag} {H0 G H:Hp} {vs:List V} {c:Cl} (w:Vws K H0 G H vs [c]):∃ v,vs=[v]∧Vw K H0 G H v c:=by
  cases w with
  | cons a b=>cases b;exact⟨_,rfl,a⟩
theorem vws2 {K:PySem.W.Frag} {H0 G H:Hp} {vs:List V} {c d:Cl} (w:Vws K H0 G H vs [c,d]):∃ v u,vs=[v,u]∧Vw K H0 G H v c∧Vw K H0 G H u d:=by
  cases w with
  | cons a b=>obtain⟨u,rfl,h⟩:=vws1 b;exact⟨_,_,rfl,a,h⟩
theorem vws3 {K:PySem.W.Frag} {H0 G H:Hp} {vs:List V} {c d f:Cl} (w:Vws K H0 G H vs [c,d,f]):∃ v u z,vs=[v,u,z]∧Vw K H0 G H v c∧Vw K H0 G H u d∧Vw K H0 G H z f:=by
  cases w with
  | cons a b=>obtain⟨u,z,rfl,h,h'⟩:=vws2 b;exact⟨_,_,_,rfl,a,h,h'⟩
def rg1 (t:TA3):TI3:=fun ρ Q=>t ρ fun cs=>∃ j,cs=[.sh true (.int j)]∧(-(2 ^ 62)≤j∧j<2 ^ 62)∧Q true (nums 0 j.toNat)
def rg2 (t:TA3):TI3:=fun ρ Q=>t ρ fun cs=>∃ i j,cs=[.sh true (.int i),.sh true (.int j)]∧(-(2 ^ 62)≤i∧i<2 ^ 62∧-(2 ^ 62)≤j∧j<2 ^ 62)∧Q true (nums i (j - i).toNat)
theorem jg {tg a:Expr} {t:TA3} {p:Pos} (hg:Gl X "range") (hm:X.mg "range" = none) (ha:PA3 X H0 [a] t) (hs:starEach [a] X.env=[(false,eval a X.env)]:=by rfl):PI3 X H0 tg (.Call (.Name "range" p) [a] [] pos) (rg1 t):=
  ⟨fun ρ Q Q' hq q=>ha.mono ρ _ _ (fun c ⟨j,e,b,q⟩=>⟨j,e,b,hq _ _ q⟩) q,PI.imp (zft hg hm ha.ok hs) fun σ H R=>el5 fun G0 ρ G F q=>⟨G0,ρ,G,F,ha.mono ρ _ _ (fun c hyp vs G' H' g w=>by
    obtain⟨j,e,b,k⟩:=hyp;subst e;obtain⟨v,rfl,w1⟩:=vws1 w;cases zE (zt w1).rd;exact⟨j,rfl,b.1,b.2,k _ G' H' g zcz⟩) q⟩⟩
theorem zbL {tg a b:Expr} {t:TA3} {p:Pos} (hg:Gl X "range") (hm:X.mg "range" = none) (ha:PA3 X H0 [a,b] t) (hs:starEach [a,b] X.env=[(false,eval a X.env),(false,eval b X.env)]:=by rfl) (hs2:starEach [b] X.env=[(false,eval b X.env)]:=by rfl):PI3 X H0 tg (.Call (.Name "range" p) [a,b] [] pos) (rg2 t):=
  ⟨fun ρ Q Q' hq q=>ha.mono ρ _ _ (fun c ⟨i,j,e,b,q⟩=>⟨i,j,e,b,hq _ _ q⟩) q,PI.imp (ze5 hg hm ha.ok hs hs2) fun σ H R=>el5 fun G0 ρ G F q=>⟨G0,ρ,G,F,ha.mono ρ _ _ (fun c hyp vs G' H' g w=>by
    obtain⟨i,j,e,b,k⟩:=hyp;subst e;obtain⟨v,u,rfl,w1,w2⟩:=vws2 w;cases zE (zt w1).rd;cases zE (zt w2).rd;exact⟨i,j,rfl,b,k _ G' H' g zcz⟩) q⟩⟩
end
def cst3 (n:Nat) (js:List Nat) (ρ : Env3):Env3:=List.replicate n none++js.map fun j=>(ρ[j]?).join
def er (D:Addr) (H:Hp):Hp:=fun b=>if b=D then none else H b
theorem Zc {D:Addr} {H:Hp}:er D H D=none:=by unfold er;rw [if_pos rfl]
theorem jN {D b:Addr} {H:Hp} (h:b≠D):er D H b=H b:=by unfold er;rw [if_neg h]
theorem zij {D b:Addr} {H:Hp} {o:HO} (h:er D H b=some o):b≠D∧H b=some o:=by
  by_cases e:b=D
  · subst e;rw [Zc] at h;cases h
  · rw [jN e] at h;exact⟨e,h⟩
theorem zjz {D:Addr} {H:Hp} {o:HO} (h:H D=some o):upd (er D H) D o=H:=by
  funext b
  by_cases e:b=D
  · subst e;rw [zB,h]
  · rw [zh e,jN e]
theorem Gr.er {D:Addr} {G H G' H':Hp} (g:Gr G H G' H') (hD:G' D=none):Gr G (er D H) G' (er D H') where
  g:=g.g
  h:=fun b o e=>by
    obtain⟨n,e⟩:=zij e;rw [jN n];exact g.h b o e
  sub:=fun b o e=>by
    rw [jN (zN e hD)];exact g.sub b o e
  new:=fun b o e=>by
    rcases g.new b o e with q|q
    · exact .inl q
    · by_cases hb:b=D
      · subst hb;exact .inr Zc
      · exact .inr (by rw [jN hb];exact q)
theorem Jo {α : Type} {n i:Nat} {js:List Nat} {l:List (Option α)} {x:α} (h:(List.replicate n none++js.map fun j=>(l[j]?).join)[i]?=some (some x)):∃ j,n≤i∧js[i - n]?=some j∧l[j]?=some (some x):=by
  by_cases hi:i<n
  · rw [List.getElem?_append_left (by simpa using hi),List.getElem?_replicate,if_pos hi] at h
    cases h
  · rw [List.getElem?_append_right (by simpa using hi),List.length_replicate,List.getElem?_map] at h
    cases ej:js[i - n]? with
    | none=>rw [ej] at h;cases h
    | some j=>
      rw [ej] at h;have h':(l[j]?).join=some x:=Option.some.inj h;refine⟨j,Nat.not_lt.mp hi,rfl,?_⟩;cases q:l[j]? with
      | none=>rw [q] at h';cases h'
      | some o => rw [q] at h'; cases o with
        | none=>cases h'
        | some v=>cases h';rfl
theorem zjv {α : Type} {n i j:Nat} {js:List Nat} {l:List (Option α)} {x:α} (hi:n≤i) (hj:js[i - n]?=some j) (h:l[j]?=some (some x)):(List.replicate n none++js.map fun j=>(l[j]?).join)[i]?=some (some x):=by
  rw [List.getElem?_append_right (by simpa using hi),List.length_replicate,List.getElem?_map,hj]
  simp [h]
theorem Rf.asideU {K:PySem.W.Frag} {H0 G:Hp} {A:Addr} {ys:List V} {f:Bool} {v:V} {d:D} (r:Rf K H0 G f v d) (hA:G A=none):Rf K (upd H0 A (.lst ys)) G f v d:=⟨r.rd,fun h=>jX (Same.refl _) (fun a o e n=>by rw [zh (zN e hA)];exact n) (r.nw h)⟩
theorem Rf.asideD {K:PySem.W.Frag} {H0 G:Hp} {A:Addr} {ys:List V} {f:Bool} {v:V} {d:D} (r:Rf K (upd H0 A (.lst ys)) G f v d):Rf K H0 G f v d:=⟨r.rd,fun h=>jX (Same.refl _) (fun a o e n=>by
  have ha:a≠A:=fun z=>by subst z;rw [zB] at n;cases n
  rw [zh ha] at n;exact n) (r.nw h)⟩
theorem Rf.aside {K:PySem.W.Frag} {H0 G:Hp} {A:Addr} {ys zs:List V} {f:Bool} {v:V} {d:D} (r:Rf K (upd H0 A (.lst ys)) G f v d) (hA:G A=none):Rf K (upd H0 A (.lst zs)) G f v d:=r.asideD.asideU hA
theorem Rfs.asideU {K:PySem.W.Frag} {H0 G:Hp} {A:Addr} {ys:List V} {f:Bool} {v:List V} {d:List D} (r:Rfs K H0 G f v d) (hA:G A=none):Rfs K (upd H0 A (.lst ys)) G f v d:=⟨r.rd,fun h=>rdns_mono (Same.refl _) (fun a o e n=>by rw [zh (zN e hA)];exact n) (r.nw h)⟩
theorem Rfs.aside {K:PySem.W.Frag} {H0 G:Hp} {A:Addr} {ys zs:List V} {f:Bool} {v:List V} {d:List D} (r:Rfs K (upd H0 A (.lst ys)) G f v d) (hA:G A=none):Rfs K (upd H0 A (.lst zs)) G f v d:=⟨r.rd,fun h=>rdns_mono (Same.refl _) (fun a o e n=>by
  rw [zh (zN e hA)] at n ⊢;exact n) (r.nw h)⟩
theorem Dr.asideU {K:PySem.W.Frag} {H0 G:Hp} {A:Addr} {ys:List V} {kvs:List (List Key×V)} {ds:List (List Key×PyData)} (r:Dr K H0 G kvs ds) (hA:G A=none):Dr K (upd H0 A (.lst ys)) G kvs ds:=by
  induction r with
  | nil=>exact .nil
  | cons a b ih=>exact .cons (a.asideU hA) ih
theorem Dr.aside {K:PySem.W.Frag} {H0 G:Hp} {A:Addr} {ys zs:List V} {kvs:List (List Key×V)} {ds:List (List Key×PyData)} (r:Dr K (upd H0 A (.lst ys)) G kvs ds) (hA:G A=none):Dr K (upd H0 A (.lst zs)) G kvs ds:=by
  induction r with
  | nil=>exact .nil
  | cons a b ih=>exact .cons (a.aside hA) ih
theorem Vw.rebase {K:PySem.W.Frag} {H0 G H:Hp} {A:Addr} {v:V} {c:Cl} (w:Vw K H0 G (upd H A (.lst [])) v c) (s:Same G H) (hA:H A=none):Vw K (upd H0 A (.lst [])) G (upd H A (.lst [])) v c:=by
  have gA:G A=none:=s.free hA;cases w with
  | sh r=>exact .sh (r.asideU gA)
  | ow h r n=>exact .ow h (r.asideU gA) n
  | tr t=>
    refine .tr ⟨t.top,t.topG,t.nd,t.len,fun k p m h1 h2=>?_⟩
    obtain⟨vs,a,b,c⟩:=t.item k p m h1 h2;exact⟨vs,a,b,c.asideU gA⟩
  | dt h r n=>exact .dt h (r.asideU gA) n
  | ex h=>exact .ex h
section
variable {K:PySem.W.Frag} {H0 G0:Hp} {ρ : Env3} {σ : L2.St} {G H:Hp} {D:Addr}
theorem Fr3.comp (F:Fr3 K H0 G0 ρ σ G H) (n:Nat) {js:List Nat} (hj:js.Nodup) (hD:H D=none):Fr3 K (upd H0 D (.lst [])) G (cst3 n js ρ) (cst n js σ) G (upd H D (.lst [])) where
  keep:=fun b o e=>by
    by_cases hb:b=D
    · subst hb;rw [zB] at e ⊢;exact e
    · rw [zh hb] at e ⊢;exact F.keep b o e
  sub:=F.sub.trans (ja hD _)
  old:=fun b o e=>.inl e
  g0:=Same.refl _
  slot:=fun i c e=>by
    obtain⟨j,h1,h2,h3⟩:=Jo e;obtain⟨v,h4,h5⟩:=F.slot j c h3;exact⟨v,zjv h1 h2 h4,(h5.gr (Gr.apart F.sub hD)).rebase F.sub hD⟩
  mine:=fun i c v a e e' h=>by
    obtain⟨j,h1,h2,h3⟩:=Jo e;obtain⟨j',h1',h2',h3'⟩:=Jo e';rw [h2] at h2';cases h2';obtain⟨⟨o,q,_⟩,_⟩:=(F.vw h3 h3').has h;rw [zh (zN q hD)];exact F.mine j c v a h3 h3' h
  apart:=fun i k c1 c2 v1 v2 a e1 e2 e3 e4 q1 q2=>by
    obtain⟨j,h1,h2,h3⟩:=Jo e1;obtain⟨j',h1',h2',h3'⟩:=Jo e2;obtain⟨j2,h4,h5,h6⟩:=Jo e3;obtain⟨j3,h7,h8,h9⟩:=Jo e4;rw [h2] at h5;cases h5;rw [h2'] at h8;cases h8;have e:=F.apart j j' c1 c2 v1 v2 a h3 h3' h6 h9 q1 q2;subst e;have ei:i - n=k - n:=by
      obtain⟨a1,b1⟩:=List.getElem?_eq_some_iff.mp h2;obtain⟨a2,b2⟩:=List.getElem?_eq_some_iff.mp h2';exact(List.getElem_inj hj).mp (b1.trans b2.symm)
    omega
  len:=by unfold cst3 cst;simp
theorem Fr3.aside {ys zs:List V} (F:Fr3 K (upd H0 D (.lst ys)) G0 ρ σ G H) (hG0:G0 D=none):Fr3 K (upd H0 D (.lst zs)) G0 ρ σ G (upd H D (.lst zs)):=by
  have hD:H D=some (.lst ys):=F.keep D _ zB;have hG:G D=none:=by
    cases e:G D with
    | none=>rfl
    | some o=>
      rcases F.old D o e with q|q
      · rw [hG0] at q;cases q
      · rw [zB] at q;cases q
  refine⟨fun b o e=>?_,fun b o e=>by rw [zh (zN e hG)];exact F.sub b o e,fun b o e=>?_,F.g0,fun i c e=>?_,fun i c v a e e' h=>?_,F.apart,F.len⟩
  · by_cases hb:b=D
    · subst hb;rw [zB] at e ⊢;exact e
    · rw [zh hb] at e ⊢
      exact F.keep b o (by rw [zh hb];exact e)
  · rcases F.old b o e with q|q
    · exact .inl q
    · by_cases hb:b=D
      · subst hb;rw [zB] at q;cases q
      · rw [zh hb] at q;exact .inr (by rw [zh hb];exact q)
  · obtain⟨v,h1,h2⟩:=F.slot i c e
    refine⟨v,h1,?_⟩
    cases h2 with
    | sh r=>exact .sh (r.aside hG)
    | ow h r n=>
      rename_i l vs f ds;have hl:l≠D:=fun z=>by
        subst z;have:=F.mine i _ _ l e h1 rfl;rw [zB] at this;cases this
      exact .ow (by rw [zh hl];exact h) (r.aside hG) n
    | dt h r n=>
      rename_i l kvs ds;have hl:l≠D:=fun z=>by
        subst z;have:=F.mine i _ _ l e h1 rfl;rw [zB] at this;cases this
      exact .dt (by rw [zh hl];exact h) (r.aside hG) n
    | tr t=>
      rename_i l ps ms;have hl:∀ a,Has (.tr ps ms) (.ref l) a→a≠D:=fun a ha z=>by
        subst z;have:=F.mine i _ _ a e h1 ha;rw [zB] at this;cases this
      refine .tr ⟨by rw [zh (hl l (.inl rfl))];exact t.top,t.topG,t.nd,t.len,fun k p m h1 h2=>?_⟩
      obtain⟨vs,a,b,c⟩:=t.item k p m h1 h2;exact⟨vs,by rw [zh (hl p (.inr (List.mem_of_getElem? h1)))];exact a,b,c.aside hG⟩
    | ex h=>
      rename_i l C;have hl:l≠D:=fun z=>by subst z;rw [hD] at h;cases h
      exact .ex (by rw [zh hl];exact h)
  · have q:=F.mine i c v a e e' h
    have hl:a≠D:=fun z=>by subst z;rw [zB] at q;cases q
    rw [zh hl] at q ⊢;exact q
theorem Fr3.atD {ys:List V} (F:Fr3 K (upd H0 D (.lst ys)) G0 ρ σ G H) (hG0:G0 D=none):G D=none∧H D=some (.lst ys):=by
  refine⟨?_,F.keep D _ zB⟩
  cases e:G D with
  | none=>rfl
  | some o=>
    rcases F.old D o e with q|q
    · rw [hG0] at q;cases q
    · rw [zB] at q;cases q
end
section
variable {X:Cx} {H0:Hp} {pos:Pos}
structure PTs3 (X:Cx) (H0:Hp) (es:List Expr) (t:TT3):Prop where
  mono:∀ ρ (Q Q':Bool→Prop),(∀ c,Q c→Q' c)→t ρ Q→t ρ Q'
  ok:PTs X es (jD X.K H0 t)
def true3:TT3:=fun _ Q=>Q true
theorem zY:PTs3 X H0 [] true3:=⟨fun ρ Q Q' h q=>h _ q,fun pins s σ H Q I=>el5 fun G0 ρ G F q=>zeI pins s σ H Q I (q G H (Gr.refl F.sub))⟩
def jt (g:TG3) (tt:TT3) (te:TE3) (f:Bool):List D→Bool→List D→Env3→(Bool→List D→Prop)→Prop
  | [],fa,acc,_,Q=>Q fa acc
  | d::ds,fa,acc,ρ,Q=>g f d ρ fun ρ'=>tt ρ' fun k=>if k=true then te ρ' fun c=>asS c fun fy y=>jt g tt te f ds (fa&&fy) (acc++[y]) ρ' Q else jt g tt te f ds fa acc ρ' Q
def jO (ti:TI3) (g:TG3) (tt:TT3) (te:TE3) (n:Nat) (js:List Nat):TN3:=fun ρ Q=>ti ρ fun f ds=>ds.length≤sizeLine∧jt g tt te f ds true [] (cst3 n js ρ) Q
theorem zaP {g:TG3} {tt:TT3} {te:TE3} (hg:∀ f d ρ (Q Q':Env3→Prop),(∀ c,Q c→Q' c)→g f d ρ Q→g f d ρ Q') (ht:∀ ρ (Q Q':Bool→Prop),(∀ c,Q c→Q' c)→tt ρ Q→tt ρ Q') (he:∀ ρ (Q Q':Cl→Prop),(∀ c,Q c→Q' c)→te ρ Q→te ρ Q')
    {f:Bool} {Q Q':Bool→List D→Prop} (h:∀ f c,Q f c→Q' f c):∀ ds fa acc ρ,jt g tt te f ds fa acc ρ Q→jt g tt te f ds fa acc ρ Q'
  | [],fa,acc,ρ,q=>h _ _ q
  | d :: ds, fa, acc, ρ, q => hg f d ρ _ _ (fun ρ' => ht ρ' _ _ fun k => by
    cases k with
    | true=>exact he ρ' _ _ fun c q=>by obtain⟨fy,y,e,q⟩:=Jf q;subst e;exact zaP hg ht he h ds _ _ ρ' q
    | false=>exact zaP hg ht he h ds fa acc ρ') q
theorem za1 {tn fn N:List Str} {js:List Nat} (nd:(tn++fn).Nodup) (hj:js.map (fun j=>N[j]?)=fn.map some):js.Nodup:=by
  have h1:(fn.map some).Nodup:=by
    have:=(List.nodup_append.mp nd).2.1;exact List.Pairwise.map some (fun a b h e=>h (Option.some.inj e)) this
  rw [←hj] at h1;exact List.Pairwise.of_map _ (fun a b h e=>h (by rw [e])) h1
theorem zaI {elt tg:Expr} {ifs:List Expr} {scope:Scope} {N:List Str} {g:TG3} {tt:TT3} {te:TE3}
    (hb:∀ H0 s H fp cl,PG3 (X.comp scope N s H fp cl) H0 tg g∧PTs3 (X.comp scope N s H fp cl) H0 ifs tt∧PE3 (X.comp scope N s H fp cl) H0 elt te):∀ s H fp cl,PG (X.comp scope N s H fp cl) tg (fun v σ H Q=>∃ H0,Zs X.K H0 g v σ H Q)∧PTs (X.comp scope N s H fp cl) ifs (fun σ H Q=>∃ H0,jD X.K H0 tt σ H Q)∧PE (X.comp scope N s H fp cl) elt (fun σ H Q=>∃ H0,jc X.K H0 te σ H Q):=fun s H fp cl=>
  ⟨fun pins s' σ H' v u Q I r ⟨h0,q⟩=>(hb h0 s H fp cl).1.ok pins s' σ H' v u Q I r q,fun pins s' σ H' Q I ⟨h0,q⟩=>(hb h0 s H fp cl).2.1.ok pins s' σ H' Q I q,fun pins s' σ H' Q I ⟨h0,q⟩=>(hb h0 s H fp cl).2.2.ok pins s' σ H' Q I q⟩
theorem zbe {Y Y' Y'':Cx} {h1 h2 h3:Hp} {elt tg iter:Expr} {ifs:List Expr} {ti:TI3} {g:TG3} {tt:TT3} {te:TE3} {n:Nat} {js:List Nat} (hjn:js.Nodup) (hi:PI3 X H0 tg iter ti) (m1:PG3 Y h1 tg g) (m2:PTs3 Y' h2 ifs tt) (m3:PE3 Y'' h3 elt te) :
    ∀ σ H Q,zby X.K H0 (jO ti g tt te n js) σ H Q→Z8 (Z1 X.K H0 ti) (fun v σ H Q=>∃ H0,Zs X.K H0 g v σ H Q) (fun σ H Q=>∃ H0,jD X.K H0 tt σ H Q) (fun σ H Q=>∃ H0,jc X.K H0 te σ H Q) n js σ H Q:=by
  rintro σ H Q ⟨G0,ρ,G,F,q⟩
  refine⟨G0,ρ,G,F,hi.mono ρ _ _ (fun fl ds ⟨hz,k⟩ J G1 H1 g1 ok A hA=>?_) q⟩
  have F1:=F.gr g1;have gA:G1 A=none:=g1.sub.free hA;have h0A:H0 A=none:=F1.keep.free hA;refine⟨fun i m ys σ2 H2=>i≤ds.length∧m=ds.length - i∧ys.length≤i∧∃ ρ2 G2 fe es,Fr3 X.K (upd H0 A (.lst ys)) G1 ρ2 σ2 G2 H2∧Rfs X.K H0 G2 fe ys es∧Gr G1 H1 G2 (er A H2)∧jt g tt te fl (ds.drop i) fe es ρ2 (fun f ds=>∀ l vs G' H',Gr G H G' H'→H' l=none→Rfs X.K H0 G' f vs ds→Q (.ref l) (upd H' l (.lst vs))),
    ⟨ds.length,Nat.zero_le _,rfl,Nat.le_refl _,cst3 n js ρ,G1,true,[],F1.comp n hjn hA,.nil,?_,k⟩,?_⟩
  · have e:er A (upd H1 A (.lst []))=H1:=by
      funext b
      by_cases hb:b=A
      · subst hb;rw [Zc,hA]
      · rw [jN hb,zh hb]
    rw [e];exact Gr.refl g1.sub
  rintro i m ys σ2 H2 ⟨hil,rfl,hyl,ρ2,G2,fe,es,F2,r2,g2,k2⟩
  obtain⟨hG2,hH2⟩:=F2.atD gA
  by_cases hlt:i<ds.length
  · right
    have hd:ds[i]?=some ds[i]:=List.getElem?_eq_getElem hlt;obtain⟨hgo,hy⟩:=ok.go i _ G2 H2 hd F2.g0 F2.sub;rw [List.drop_eq_getElem_cons hlt] at k2;refine⟨hgo,fun x H3 y=>?_⟩
    obtain⟨G3,g3,r3⟩:=hy x H3 y;have F3:=F2.gr g3;refine⟨upd H0 A (.lst ys),G1,ρ2,G3,fl,_,F3,r3.asideU (F3.atD gA).1,m1.mono fl _ ρ2 _ _ (fun ρ4 q4 σ4 G4 H4 F4 s4 g4=>?_) k2⟩
    refine⟨upd H0 A (.lst ys),G1,ρ4,G4,F4,m2.mono ρ4 _ _ (fun b q5 G5 H5 g5=>?_) q4⟩
    have F5:=F4.gr g5;have gg5:=(g3.trans g4).trans g5;cases b with
    | true=>
      refine⟨upd H0 A (.lst ys),G1,ρ4,G5,F5,m3.mono ρ4 _ _ (fun c q6 v G6 H6 g6 w6=>?_) q5⟩
      obtain⟨fy,y,hc,q6⟩:=Jf q6;subst hc;have F6:=F5.gr g6;obtain⟨hG6,hH6⟩:=F6.atD gA;have gg6:=gg5.trans g6;refine⟨hH6,Nat.lt_of_lt_of_le (Nat.lt_of_le_of_lt hyl hlt) hz,ds.length - (i+1),Nat.sub_lt_sub_left hlt (Nat.lt_succ_self _),Nat.succ_le_of_lt hlt,rfl,by rw [List.length_append,List.length_singleton];omega,ρ4,G6,_,es++[y],F6.aside gA,(r2.same gg6.g).snoc ((zt w6).asideD),?_,q6⟩
      have e:er A (upd H6 A (.lst (ys++[v])))=er A H6:=by
        funext b
        by_cases hb:b=A
        · subst hb;rw [Zc,Zc]
        · rw [jN hb,jN hb,zh hb]
      rw [e];exact g2.trans (gg6.er hG6)
    | false=>
      obtain⟨hG5,hH5⟩:=F5.atD gA;exact⟨ds.length - (i+1),Nat.sub_lt_sub_left hlt (Nat.lt_succ_self _),Nat.succ_le_of_lt hlt,rfl,Nat.le_succ_of_le hyl,ρ4,G5,fe,es,F5,r2.same gg5.g,g2.trans (gg5.er hG5),q5⟩
  · left
    have e:i=ds.length:=Nat.le_antisymm hil (Nat.not_lt.mp hlt);rw [e,List.drop_length] at k2;refine⟨ok.stop i G2 H2 e F2.g0 F2.sub,?_⟩;have k3:=k2 A ys G2 (er A H2) (g1.trans g2) Zc r2;rw [zjz hH2] at k3;exact k3
theorem jd {elt tg iter:Expr} {ifs:List Expr} {scope:Scope} {ti:TI3} {g:TG3} {tt:TT3} {te:TE3} (tn fn:List Str) (js:List Nat) (hcalm:X.calm=true) (S:CompSc X.env.scope scope tn fn) (hj:js.map (fun j=>X.N[j]?)=fn.map some) (hi:PI3 X H0 tg iter ti)
    (hb:∀ H0 s H fp cl,PG3 (X.comp scope (tn++fn) s H fp cl) H0 tg g∧PTs3 (X.comp scope (tn++fn) s H fp cl) H0 ifs tt∧PE3 (X.comp scope (tn++fn) s H fp cl) H0 elt te)
    (hs:∀ x,foldedSetIterable iter X.env x=pure x:=by intro _;rfl):PN3 X H0 (.ListComp elt [⟨tg,iter,ifs,0⟩] scope pos) (jO ti g tt te tn.length js):=by
  obtain⟨m1,m2,m3⟩:=hb H0 X.s₀ X.H₀ [] [];have hjn:=za1 S.nd hj;refine⟨fun ρ Q Q' h q=>hi.mono ρ _ _ (fun f ds ⟨z,q⟩=>⟨z,zaP m1.mono m2.mono m3.mono h ds _ _ _ q⟩) q,?_⟩
  exact PE.imp (zeM (wi:=Z1 X.K H0 ti) (g:=fun v σ H Q=>∃ H0,Zs X.K H0 g v σ H Q) (tt:=fun σ H Q=>∃ H0,jD X.K H0 tt σ H Q) (te:=fun σ H Q=>∃ H0,jc X.K H0 te σ H Q) tn fn js hcalm S hj hi.ok (zaI hb) hs) (zbe hjn hi m1 m2 m3)
theorem zdP {elt tg iter:Expr} {ifs:List Expr} {scope:Scope} {spos pos':Pos} {i:Nat} {x:Str} {ti:TI3} {g:TG3} {tt:TT3} {te:TE3} (hN:X.N.Nodup) (hix:X.N[i]?=some x) (hx:Loc X.env.scope x) (tn fn:List Str) (js:List Nat) (hcalm:X.calm=true) (S:CompSc X.env.scope scope tn fn) (hj:js.map (fun j=>X.N[j]?)=fn.map some) (hi:PI3 X H0 tg iter ti)
    (hb:∀ H0 s H fp cl,PG3 (X.comp scope (tn++fn) s H fp cl) H0 tg g∧PTs3 (X.comp scope (tn++fn) s H fp cl) H0 ifs tt∧PE3 (X.comp scope (tn++fn) s H fp cl) H0 elt te)
    (hs:∀ x,foldedSetIterable iter X.env x=pure x:=by intro _;rfl)
    (hsw:swapsWith (.ListComp elt [⟨tg,iter,ifs,0⟩] scope pos) (some (.Name x pos')) spos.line X.env=pure true:=by rfl) (hf:X.fn x=true∨X.env.scope.names.lookup x=some .local:=by first|exact .inl rfl|exact .inr rfl|assumption) :
    PS3 X H0 (.Assign [.Name x pos'] (.ListComp elt [⟨tg,iter,ifs,0⟩] scope pos) spos) (own3 i (jO ti g tt te tn.length js)):=by
  obtain⟨m1,m2,m3⟩:=hb H0 X.s₀ X.H₀ [] [];have hjn:=za1 S.nd hj;have pn:=jd (pos:=pos) tn fn js hcalm S hj hi hb hs;refine PS.imp (zb6 hN hix hx (wi:=Z1 X.K H0 ti) (g:=fun v σ H Q=>∃ H0,Zs X.K H0 g v σ H Q) (tt:=fun σ H Q=>∃ H0,jD X.K H0 tt σ H Q) (te:=fun σ H Q=>∃ H0,jc X.K H0 te σ H Q) tn fn js hcalm S hj hi.ok (zaI hb) hs hsw hf) fun B σ H=>el7 fun G0 A ρ G F q L=>?_
  exact zbe hjn hi m1 m2 m3 σ H _ ⟨G0,ρ,G,F,pn.mono ρ _ _ (fun f ds q l vs G' H' g hl r=>L.nx _ _ G' _ ((F.gr g).own r hl) q) q⟩
theorem zaA {elt tg iter:Expr} {ifs:List Expr} {scope:Scope} {spos pos':Pos} {i:Nat} {x:Str} {ti:TI3} {g:TG3} {tt:TT3} {te:TE3} (hN:X.N.Nodup) (hix:X.N[i]?=some x) (hx:Loc X.env.scope x) (tn fn:List Str) (js:List Nat) (hcalm:X.calm=true) (S:CompSc X.env.scope scope tn fn) (hj:js.map (fun j=>X.N[j]?)=fn.map some) (hi:PI3 X H0 tg iter ti)
    (hb:∀ H0 s H fp cl,PG3 (X.comp scope (tn++fn) s H fp cl) H0 tg g∧PTs3 (X.comp scope (tn++fn) s H fp cl) H0 ifs tt∧PE3 (X.comp scope (tn++fn) s H fp cl) H0 elt te)
    (hs:∀ x,foldedSetIterable iter X.env x=pure x:=by intro _;rfl)
    (hsw:swapsWith (.ListComp elt [⟨tg,iter,ifs,0⟩] scope pos) (some (.Name x pos')) spos.line X.env=pure true:=by rfl) (hf:X.fn x=true∨X.env.scope.names.lookup x=some .local:=by first|exact .inl rfl|exact .inr rfl|assumption) :
    PS3 X H0 (.Assign [.Name x pos'] (.ListComp elt [⟨tg,iter,ifs,0⟩] scope pos) spos) (set3 i (nw3 (jO ti g tt te tn.length js))):=by
  obtain⟨m1,m2,m3⟩:=hb H0 X.s₀ X.H₀ [] [];have hjn:=za1 S.nd hj;have pn:=jd (pos:=pos) tn fn js hcalm S hj hi hb hs;refine PS.imp (zb6 hN hix hx (wi:=Z1 X.K H0 ti) (g:=fun v σ H Q=>∃ H0,Zs X.K H0 g v σ H Q) (tt:=fun σ H Q=>∃ H0,jD X.K H0 tt σ H Q) (te:=fun σ H Q=>∃ H0,jc X.K H0 te σ H Q) tn fn js hcalm S hj hi.ok (zaI hb) hs hsw hf) fun B σ H=>el7 fun G0 A ρ G F q L=>?_
  refine zbe hjn hi m1 m2 m3 σ H _ ⟨G0,ρ,G,F,pn.mono ρ _ _ (fun f ds q l vs G' H' g hl r=>?_) q⟩
  refine L.nx _ _ (upd G' l (.lst vs)) _ ((F.gr (g.trans (Gr.put g.sub hl))).set ?_) q
  exact⟨.lst (SqL.of zB) (rdvs_same (ja (g.sub.free hl) _) r.rd),fun hf=>.lst zB ((F.keep.trans g.h).free hl) (rdns_mono (ja (g.sub.free hl) _) (fun _ _ _ z=>z) (r.nw hf))⟩
end
def jp (N:List Str) (ds:List D):Env3:=ds.map (fun d=>some (.sh (zy d) d))++List.replicate (N.length - ds.length) none
theorem ziK {K:PySem.W.Frag} {G H:Hp} {N:List Str} {vs:List V} {ds:List D} (s:Same G H) (r:RdVs K G vs ds):Fr3 K H G (jp N ds) (start N vs) G H:=by
  have at3:∀ (i:Nat) c,(jp N ds)[i]?=some (some c)→∃ d,ds[i]?=some d∧c=.sh (zy d) d:=fun i c e=>by
    unfold jp at e
    by_cases hi:i<ds.length
    · rw [List.getElem?_append_left (by simpa using hi),List.getElem?_map] at e
      cases q:ds[i]? with
      | none=>rw [q] at e;cases e
      | some d=>rw [q] at e;cases e;exact⟨d,rfl,rfl⟩
    · rw [List.getElem?_append_right (by simpa using hi),List.getElem?_replicate] at e
      split at e<;>cases e
  refine⟨Same.refl _,s,fun b o e=>.inl e,Same.refl _,fun i c e=>?_,fun i c v a e _ h=>?_,fun i j c c' v v' a e _ _ _ h _=>?_,?_⟩
  · obtain⟨d,hd,rfl⟩:=at3 i c e
    obtain⟨x,hx,rx⟩:=r.get hd;refine⟨x,?_,.sh ⟨rx,fun h=>ZP h rx⟩⟩
    unfold L2.start;have hi:i<vs.length:=(List.getElem?_eq_some_iff.mp hx).1;rw [List.getElem?_append_left (by simpa using hi),List.getElem?_map,hx];rfl
  · obtain⟨d,hd,z⟩:=at3 i _ e;subst z;exact False.elim h
  · obtain⟨d,hd,z⟩:=at3 i _ e;subst z;exact False.elim h
  · unfold jp L2.start;simp [r.length]
theorem fn3 {P:Program} {w:World} {K:PySem.W.Frag} {mg:Str→Option Value} {base:Heap} {x qual:Str} {st:Stmt} {f:Addr} {fd:FuncData} {N ps:List Str} {k:Nat} {sp:Sp3} (F:Fun K x qual st f fd) (S:FnScope N ps (ze st)) (len:∀ ds Q E,sp ds Q E→ds.length=ps.length)
    (hbody:∀ (cdv:Value) (A:Around) (outer:List Env) (s:Shared) (H:Hp) (E:XK) (E3:Addr→Prop),(∀ C H',E3 C→Same H H'→E (.ref C) none H')→Room k (A.deeper (envOfC qual (ze st) s.heap.objs.size f cdv))→
      ∃ t,PSs3 (cxOf (CXR P w) P w K mg base N qual (ze st) f cdv A outer s H E) H (zq st) t∧∀ ds Q,sp ds Q E3→t { nx:=fun _=>Q true .none,rt:=Q } (jp N ds)):FnOk P w K mg base (CXR P w) (k+1) f fd ps (spL K sp):=by
  refine F.okR S (fun vs H Q E h=>?_) (fun cdv A outer s H vs Q E hr h=>?_)
  · obtain⟨G,ds,_,r,h⟩:=h
    rw [r.length];exact len _ _ _ h
  · obtain⟨G,ds,sG,r,h⟩:=h
    obtain⟨t,ht,hq⟩:=hbody cdv A outer s H E (fun C=>∀ H',Same H H'→E (.ref C) none H') (fun C H' e z=>e H' z) hr
    refine⟨_,ht,G,_,jp N ds,G,ziK sG r,hq ds _ h,⟨fun ρ σ G' H' F' q=>q .non G' H' F'.gr0 (.sc rfl .non),fun f d v G' H' g rd q=>q v G' H' g rd,fun _ _ _ _ _ q=>q.elim,fun _ _ _ _ _ q=>q.elim⟩⟩
def ZG (C:Addr) (E:Addr→Prop) (t:TA3):TS3:=fun _ ρ=>t ρ fun cs=>cs.length≤sizeLine∧E C
theorem zfH {K:PySem.W.Frag} {H0 G H:Hp} {vs:List V} {cs:List Cl} (h:Vws K H0 G H vs cs):vs.length=cs.length:=by
  induction h with
  | nil=>rfl
  | cons _ _ ih=>rw [List.length_cons,List.length_cons,ih]
theorem jb {X:Cx} {H0:Hp} {x:Str} {C:Addr} {e0:Expr} {t:TA3} {E:XK} {E3:Addr→Prop} {np cpos pos:Pos} (hE:∀ C H',E3 C→Same H0 H'→E (.ref C) none H') (hf:Flies X E) (hc:X.calm=true) (hg:Gl X x) (hm:X.mg x=some (.ref C)) (hx:PySem.W.excIn X.K C bmVE "ValueError.__new__" = true) (ha:PA3 X H0 [e0] t)
    (hdb:(x==("__debug__" : Str))=false:=by decide) (hs:starEach [e0] X.env=[(false,eval e0 X.env)]:=by rfl):PS3 X H0 (.Raise (some (.Call (.Name x np) [e0] [] cpos)) none pos) (ZG C E3 t):=
  PS.imp (zds hf hc hg hm hx ha.ok hdb hs) fun B σ H=>el7 fun G0 A ρ G F q L=>⟨G0,ρ,G,F,ha.mono ρ _ _ (fun cs ⟨z,e⟩ vs G' H' g w=>⟨by rw [zfH w];exact z,hE C H' e (F.gr g).keep⟩) q⟩
theorem JE {K:PySem.W.Frag} {G:Hp} {v:V} {i:Str} (r:RdV K G v (.str i)):v=.str i:=by cases r;rfl
theorem zeS {K:PySem.W.Frag} {G:Hp} {v:V} (r:RdV K G v .none):v=.non:=by cases r;rfl
section
variable {X:Cx}
def add3:R3:=fun a b Q=>match a,b with
  | .sh _ (.int i),.sh _ (.int j)=>Q true (.int (i+j))
  | .sh _ (.str x),.sh _ (.str y)=>x.length+y.length≤sizeLine∧Q true (.str (x++y))
  | _,_=>False
def int3 (C:Int→Int→Prop) (g:Int→Int→D):R3:=fun a b Q=>match a,b with
  | .sh _ (.int i),.sh _ (.int j)=>C i j∧Q true (g i j)
  | _,_=>False
def int0 (g:Int→Int→D):R3:=fun a b Q=>match a,b with
  | .sh _ (.int i),.sh _ (.int j)=>Q true (g i j)
  | _,_=>False
theorem zz:OpOk X (binaryOp .Add) add3:=by
  refine⟨fun a b Q Q' h q=>?_,fun H0=>OpR.imp (zf3.or zdc) fun x y H Q=>el3 fun G a b s wa wb q=>?_⟩
  · unfold add3 at *;split at q
    · exact h _ _ q
    · exact⟨q.1,h _ _ q.2⟩
    · exact q
  · unfold add3 at q;split at q
    · cases zE (zt wa).rd;cases zE (zt wb).rd
      exact .inl ⟨_,_,rfl,rfl,q _ G H (Gr.refl s) (.sc rfl (.int _))⟩
    · cases JE (zt wa).rd;cases JE (zt wb).rd
      exact .inr ⟨_,_,rfl,rfl,q.1,q.2 _ G H (Gr.refl s) (.sc rfl (.str _))⟩
    · exact q.elim
theorem opI3 {f:Value→Value→Sem Value} {C:Int→Int→Prop} {g:Int→Int→Int} (h:OpR X f (rI C fun i j=>.int (g i j))):OpOk X f (int3 C fun i j=>.int (g i j)):=by
  refine⟨fun a b Q Q' h q=>?_,fun H0=>OpR.imp h fun x y H Q=>el3 fun G a b s wa wb q=>?_⟩
  · unfold int3 at *;split at q
    · exact⟨q.1,h _ _ q.2⟩
    · exact q
  · unfold int3 at q;split at q
    · cases zE (zt wa).rd;cases zE (zt wb).rd
      exact⟨_,_,rfl,rfl,q.1,q.2 _ G H (Gr.refl s) (.sc rfl (.int _))⟩
    · exact q.elim
theorem zbD {f:Value→Value→Sem Value} {g:Int→Int→Int} (h:OpR X f (rI0 fun i j=>.int (g i j))):OpOk X f (int0 fun i j=>.int (g i j)):=by
  refine⟨fun a b Q Q' h q=>?_,fun H0=>OpR.imp h fun x y H Q=>el3 fun G a b s wa wb q=>?_⟩
  · unfold int0 at *;split at q
    · exact h _ _ q
    · exact q
  · unfold int0 at q;split at q
    · cases zE (zt wa).rd;cases zE (zt wb).rd
      exact⟨_,_,rfl,rfl,q _ G H (Gr.refl s) (.sc rfl (.int _))⟩
    · exact q.elim
theorem zai {f:Value→Value→Sem Value} {g:Int→Int→Bool} (h:OpR X f (rI0 fun i j=>.bl (g i j))):OpOk X f (int0 fun i j=>.bool (g i j)):=by
  refine⟨fun a b Q Q' h q=>?_,fun H0=>OpR.imp h fun x y H Q=>el3 fun G a b s wa wb q=>?_⟩
  · unfold int0 at *;split at q
    · exact h _ _ q
    · exact q
  · unfold int0 at q;split at q
    · cases zE (zt wa).rd;cases zE (zt wb).rd
      exact⟨_,_,rfl,rfl,q _ G H (Gr.refl s) (.sc rfl (.bl _))⟩
    · exact q.elim
theorem jx:OpOk X (binaryOp .Sub) (int0 fun i j=>.int (i - j)):=zbD zhj
theorem zU:OpOk X (binaryOp .Mult) (int3 IntMulOk fun i j=>.int (i*j)):=opI3 zfr
theorem zr:OpOk X (binaryOp .FloorDiv) (int3 jV fun i j=>.int (i/j)):=opI3 zgw
theorem zo:OpOk X (binaryOp .Mod) (int3 (fun _ j=>0<j) fun i j=>.int (i%j)):=opI3 ziz
theorem z8:OpOk X (binaryOp .Pow) (int3 jP fun i j=>.int (i ^ j.toNat)):=opI3 zin
theorem jG:OpOk X (compareOp .Lt) (int0 fun i j=>.bool (decide (i<j))):=zai zfm
theorem Z5:OpOk X (compareOp .LtE) (int0 fun i j=>.bool (decide (i≤j))):=zai zf5
theorem za0:OpOk X (compareOp .Gt) (int0 fun i j=>.bool (decide (j<i))):=zai zel
theorem zbI:OpOk X (compareOp .GtE) (int0 fun i j=>.bool (decide (j≤i))):=zai zgi
def neg3:U3:=fun a Q=>match a with
  | .sh _ (.int i)=>Q true (.int (-i))
  | _=>False
theorem UnR.imp {f:Value→Sem Value} {r r':V→Hp→VK→Prop} (h:UnR X f r) (i:∀ x H Q,r' x H Q→r x H Q):UnR X f r':=fun pins s σ H x v Q I rx q=>h pins s σ H x v Q I rx (i _ _ _ q)
theorem jm:UnOk X (unaryOp .USub) neg3:=by
  refine⟨fun a Q Q' h q=>?_,fun H0=>UnR.imp zfR fun x H Q ⟨G,a,s,wa,q⟩=>?_⟩
  · unfold neg3 at *;split at q
    · exact h _ _ q
    · exact q
  · unfold neg3 at q;split at q
    · cases zE (zt wa).rd
      exact⟨_,rfl,q _ G H (Gr.refl s) (.sc rfl (.int _))⟩
    · exact q.elim
def eqOk:D→D→Prop
  | .str _,.str _=>True
  | .int _,.int _=>True
  | d,e=>SeqAt.shaped d=true∧SeqAt.shaped e=true
def eqv3:D→D→Bool
  | .str x,.str y=>decide (x=y)
  | .int x,.int y=>decide (x=y)
  | d,e=>PyData.eqv d e
def eq3:R3:=fun a b Q=>a.dat=true∧b.dat=true∧eqOk a.d b.d∧Q true (.bool (eqv3 a.d b.d))
def ne3:R3:=fun a b Q=>a.dat=true∧b.dat=true∧eqOk a.d b.d∧Q true (.bool (!eqv3 a.d b.d))
theorem zc5 {d e:D}:(∃ x y,d=.str x∧e=.str y∧eqv3 d e=decide (V.str x=V.str y))∨(∃ x y,d=.int x∧e=.int y∧eqv3 d e=decide (V.int x=V.int y))∨(eqv3 d e=PyData.eqv d e∧(eqOk d e→SeqAt.shaped d=true∧SeqAt.shaped e=true)):=by
  cases d<;>cases e<;>first
    | exact .inr (.inr ⟨rfl,fun h=>h⟩)
    | exact .inl ⟨_,_,rfl,rfl,by simp [eqv3]⟩
    | exact .inr (.inl ⟨_,_,rfl,rfl,by simp [eqv3]⟩)
theorem zJ (hu:X.A.units+64<cLine):OpOk X (compareOp .Eq) eq3:=by
  refine⟨fun a b Q Q' h ⟨x,y,z,q⟩=>⟨x,y,z,h _ _ q⟩,fun H0=>OpR.imp (zjk.or (zer hu)) fun x y H Q ⟨G,a,b,s,wa,wb,ha,hb,ho,q⟩=>?_⟩
  have ra:=wa.rd s ha;have rb:=wb.rd s hb
  rcases zc5 (d:=a.d) (e:=b.d) with ⟨i,j,e1,e2,e3⟩|⟨i,j,e1,e2,e3⟩|⟨e3,hs⟩
  · rw [e1] at ra;rw [e2] at rb
    cases JE ra;cases JE rb
    exact .inl ⟨rfl,by rw [←e3];exact q _ G H (Gr.refl s) (.sc rfl (.bl _))⟩
  · rw [e1] at ra;rw [e2] at rb
    cases zE ra;cases zE rb
    exact .inl ⟨rfl,by rw [←e3];exact q _ G H (Gr.refl s) (.sc rfl (.bl _))⟩
  · exact .inr ⟨_,_,ra,rb,(hs ho).1,(hs ho).2,by rw [←e3];exact q _ G H (Gr.refl s) (.sc rfl (.bl _))⟩
theorem jl (hu:X.A.units+64<cLine):OpOk X (compareOp .NotEq) ne3:=by
  refine⟨fun a b Q Q' h ⟨x,y,z,q⟩=>⟨x,y,z,h _ _ q⟩,fun H0=>OpR.imp (zju.or (zei hu)) fun x y H Q ⟨G,a,b,s,wa,wb,ha,hb,ho,q⟩=>?_⟩
  have ra:=wa.rd s ha;have rb:=wb.rd s hb
  rcases zc5 (d:=a.d) (e:=b.d) with ⟨i,j,e1,e2,e3⟩|⟨i,j,e1,e2,e3⟩|⟨e3,hs⟩
  · rw [e1] at ra;rw [e2] at rb
    cases JE ra;cases JE rb
    exact .inl ⟨rfl,by rw [←e3];exact q _ G H (Gr.refl s) (.sc rfl (.bl _))⟩
  · rw [e1] at ra;rw [e2] at rb
    cases zE ra;cases zE rb
    exact .inl ⟨rfl,by rw [←e3];exact q _ G H (Gr.refl s) (.sc rfl (.bl _))⟩
  · exact .inr ⟨_,_,ra,rb,(hs ho).1,(hs ho).2,by rw [←e3];exact q _ G H (Gr.refl s) (.sc rfl (.bl _))⟩
def isNone:Cl→Bool
  | .sh _ .none=>true
  | _=>false
theorem ziZ {K:PySem.W.Frag} {H0 G H:Hp} {v:V} {c:Cl} (w:Vw K H0 G H v c):decide (v=.non)=isNone c:=by
  cases w with
  | sh r=>cases r.rd<;>simp [isNone]
  | ow _ _ _=>simp [isNone]
  | tr _=>simp [isNone]
  | dt _ _ _=>simp [isNone]
  | ex _=>simp [isNone]
def notN3:R3:=fun a b Q=>b=.sh true .none∧Q true (.bool (!isNone a))
theorem zfX:OpOk X (compareOp .IsNot) notN3:=⟨fun a b Q Q' h ⟨e,q⟩=>⟨e,h _ _ q⟩,fun H0=>OpR.imp zhw fun x y H Q hyp=>by
  obtain⟨G,a,b,s,wa,wb,e,q⟩:=hyp;subst e;exact⟨zeS (zt wb).rd,by rw [ziZ wa];exact q _ G H (Gr.refl s) (.sc rfl (.bl _))⟩⟩
def ixD:D→Int→Option D
  | .list ds,i=>atI ds i
  | .tuple ds,i=>atI ds i
  | .str z,i=>if z.length≤sizeLine then(atI z.cps.toList i).map fun c=>.str ⟨#[c]⟩ else none
  | _,_=>none
def ix3:R3:=fun a b Q=>match b with
  | .sh _ (.int i)=>a.dat=true∧∃ d,ixD a.d i=some d∧Q (a.f||zy d) d
  | _=>False
theorem zbf {K:PySem.W.Frag} {H0 G:Hp} {f:Bool} {vs:List V} {ds:List D} {i:Int} {d:D} (r:Rfs K H0 G f vs ds) (h:atI ds i=some d):∃ v,atI vs i=some v∧Rf K H0 G f v d:=by
  unfold atI at *;rw [r.length];cases e:ixN ds.length i with
  | none=>rw [e] at h;cases h
  | some j=>
    rw [e] at h;obtain⟨x,hx,rx⟩:=r.get (i:=j) (show ds[j]?=some d from h)
    exact⟨x,hx,rx⟩
theorem IxR.imp {r r':R2} (h:IxR X r) (i:∀ x y H Q,r' x y H Q→r x y H Q):IxR X r':=fun e f pins s σ H x y v u Q I rx ry q z=>h e f pins s σ H x y v u Q I rx ry (i _ _ _ _ q) z
theorem zdG (H0:Hp):IxR X (Zx X.K H0 ix3):=IxR.imp zdv fun x y H Q=>el3 fun G a b s wa wb q=>by
  unfold ix3 at q;split at q
  · obtain⟨ha,d,hd,q⟩:=q
    rename_i i;cases zE (zt wb).rd;cases wa with
    | @sh v0 f d0 r=>
      cases d0 with
      | list ds=>
        obtain⟨a,xs,rfl,hq,rs⟩:=Jj r;obtain⟨v,hv,rv⟩:=zbf rs (show atI ds i=some d from hd)
        exact .inl ⟨_,_,_,v,rfl,rfl,s.seq hq,hv,q v G H (Gr.refl s) rv.or⟩
      | tuple ds=>
        obtain⟨a,xs,rfl,hq,rs⟩:=zac r;obtain⟨v,hv,rv⟩:=zbf rs (show atI ds i=some d from hd)
        exact .inr (.inl ⟨_,_,_,v,rfl,rfl,s.tup hq,hv,q v G H (Gr.refl s) rv.or⟩)
      | str z=>
        cases JE r.rd
        have hd':(if z.length≤sizeLine then(atI z.cps.toList i).map fun c=>PyData.str ⟨#[c]⟩ else none)=some d:=hd
        split at hd'
        · rename_i hz
          cases e:atI z.cps.toList i with
          | none=>rw [e] at hd';cases hd'
          | some c=>
            rw [e] at hd';cases hd';exact .inr (.inr ⟨z,i,c,rfl,rfl,hz,e,q _ G H (Gr.refl s) (.sc rfl (.str _))⟩)
        · cases hd'
      | _=>cases hd
    | ow h rs n=>
      obtain⟨v,hv,rv⟩:=zbf rs (show atI _ i=some d from hd)
      exact .inl ⟨_,_,_,v,rfl,rfl,SqL.of h,hv,q v G H (Gr.refl s) rv.or⟩
    | tr h=>cases ha
    | dt _ _ _=>cases ha
    | ex h=>cases ha
  · exact q.elim
theorem zbO:∀ a b (Q Q':Bool→D→Prop),(∀ f c,Q f c→Q' f c)→ix3 a b Q→ix3 a b Q':=fun a b Q Q' h q=>by
  unfold ix3 at *;split at q
  · obtain⟨x,d,e,q⟩:=q;exact⟨x,d,e,h _ _ q⟩
  · exact q
theorem at3 {H0:Hp} {a b:Expr} {pos:Pos} {ta tb:TE3} (ha:PE3 X H0 a ta) (hb:PE3 X H0 b tb) (hs:zc0 b):PE3 X H0 (.Subscript a b pos) (o3 ix3 ta tb):=
  ⟨ZS zbO ha.mono hb.mono,PE.imp (zg1 (zdG H0) ha.ok hb.ok hs) (zaw zbO ha.mono hb.mono)⟩
abbrev TO3:=Env3→(Option Int→Prop)→Prop
def zgv (K:PySem.W.Frag) (H0:Hp) (t:TO3):TO:=fun σ H Q=>∃ G0 ρ G,Fr3 K H0 G0 ρ σ G H∧t ρ fun o=>∀ G' H',Gr G H G' H'→Q o H'
structure PO3 (X:Cx) (H0:Hp) (e:Option Expr) (t:TO3):Prop where
  mono:∀ ρ (Q Q':Option Int→Prop),(∀ c,Q c→Q' c)→t ρ Q→t ρ Q'
  ok:PO X e (zgv X.K H0 t)
theorem PO.imp {e:Option Expr} {t t':TO} (h:PO X e t) (i:∀ σ H Q,t' σ H Q→t σ H Q):PO X e t':=fun pins s σ H Q I q=>h pins s σ H Q I (i _ _ _ q)
def no3:TO3:=fun _ Q=>Q none
def Z4 (t:TE3):TO3:=fun ρ Q=>t ρ fun c=>∃ i,c=.sh true (.int i)∧Q (some i)
variable {H0:Hp} {pos p2:Pos}
theorem zP:PO3 X H0 none no3:=⟨fun ρ Q Q' h q=>h _ q,PO.imp zix fun σ H Q=>el5 fun G0 ρ G F q=>q G H (Gr.refl F.sub)⟩
theorem zQ {e:Expr} {t:TE3} (h:PE3 X H0 e t):PO3 X H0 (some e) (Z4 t):=⟨fun ρ Q Q' hq q=>h.mono ρ _ _ (fun c ⟨i,e,q⟩=>⟨i,e,hq _ q⟩) q,PO.imp (zfJ h.ok) fun σ H Q=>el5 fun G0 ρ G F q=>⟨G0,ρ,G,F,h.mono ρ _ _ (fun c hyp v G' H' g w=>by
  obtain⟨i,e,q⟩:=hyp;subst e;exact⟨i,zE (zt w).rd,q G' H' g⟩) q⟩⟩
def cut {α : Type} (xs:List α) (lo hi:Option Int):List α:=(xs.drop (HT.sIx xs.length 0 lo)).take (HT.sIx xs.length xs.length hi - HT.sIx xs.length 0 lo)
def slL3 (te:TE3) (tl th:TO3):TN3:=fun ρ Q=>te ρ fun c=>tl ρ fun l=>th ρ fun u=>match c with
  | .sh f (.list ds)=>Q (f||ds.all zy) (cut ds l u)
  | .ow f ds=>Q (f||ds.all zy) (cut ds l u)
  | _=>False
theorem SlR.imp {r r':V→Option Int→Option Int→Hp→VK→Prop} (h:SlR X r) (i:∀ x lo hi H Q,r' x lo hi H Q→r x lo hi H Q):SlR X r':=by
  unfold SlR at *;intros
  apply h<;>first|assumption|skip
  apply i;assumption
theorem zcv {K:PySem.W.Frag} {H0 G:Hp} {f:Bool} {vs:List V} {ds:List D} (r:Rfs K H0 G f vs ds) (lo hi:Option Int):Rfs K H0 G f (cutV vs lo hi) (cut ds lo hi):=by
  unfold cutV cut;rw [r.length];exact(r.drop _).take _
theorem zO {e:Expr} {lo hi:Option Expr} {te:TE3} {tl th:TO3} (he:PE3 X H0 e te) (hl:PO3 X H0 lo tl) (hh:PO3 X H0 hi th):PN3 X H0 (.Subscript e (.Slice lo hi none p2) pos) (slL3 te tl th):=by
  refine⟨fun ρ Q Q' h q=>he.mono ρ _ _ (fun c=>hl.mono ρ _ _ fun l=>hh.mono ρ _ _ fun u q=>?_) q,PE.imp (zi1 zeC he.ok hl.ok hh.ok) fun σ H Q=>el5 fun G0 ρ G F q=>?_⟩
  · split at q
    · exact h _ _ q
    · exact h _ _ q
    · exact q
  · refine⟨G0,ρ,G,F,he.mono ρ _ _ (fun c qc v G1 H1 g1 w1=>⟨G0,ρ,G1,F.gr g1,hl.mono ρ _ _ (fun l ql G2 H2 g2=>⟨G0,ρ,G2,F.gr (g1.trans g2),hh.mono ρ _ _ (fun u qu G3 H3 g3=>?_) ql⟩) qc⟩) q⟩
    have w3:=(w1.gr g2).gr g3;have gg:=(g1.trans g2).trans g3
    split at qu
    · obtain⟨a,xs,rfl,hq,rs⟩:=Jj (zt w3)
      exact⟨a,xs,rfl,g3.sub.seq hq,fun p hp=>qu p _ G3 H3 gg hp (zcv rs.or _ _)⟩
    · cases w3 with
      | ow h rs n=>exact⟨_,_,rfl,SqL.of h,fun p hp=>qu p _ G3 H3 gg hp (zcv rs.or _ _)⟩
    · exact qu.elim
def lenD:D→Option Nat
  | .list ds=>some ds.length
  | .tuple ds=>some ds.length
  | .str z=>if z.length≤sizeLine then some z.length else none
  | _=>none
def len3:C3:=fun cs Q=>match cs with
  | [c]=>c.dat=true∧∃ n,lenD c.d=some n∧Q true (.int n)
  | _=>False
theorem zL:CallOk X (.builtin "len") len3:=by
  refine⟨fun cs Q Q' h q=>?_,fun H0=>zG.imp (zG.or zjq zdV) fun xs H Q=>el2 fun G cs s w q=>?_⟩
  · unfold len3 at *;split at q
    · obtain⟨a,n,e,q⟩:=q;exact⟨a,n,e,h _ _ q⟩
    · exact q
  · unfold len3 at q;split at q
    · obtain⟨v,rfl,w1⟩:=vws1 w
      obtain⟨ha,n,hn,q⟩:=q;have r:=w1.rd s ha;generalize e:Cl.d _=d at r hn;cases r with
      | lst hq rs=>cases hn;exact .inl ⟨_,_,rfl,.inl hq,by rw [rs.length];exact q _ G H (Gr.refl s) (.sc rfl (.int _))⟩
      | tup hq rs=>cases hn;exact .inl ⟨_,_,rfl,.inr hq,by rw [rs.length];exact q _ G H (Gr.refl s) (.sc rfl (.int _))⟩
      | str z=>
        have hn':(if z.length≤sizeLine then some z.length else none)=some n:=hn
        split at hn'
        · rename_i hz;cases hn';exact .inr ⟨z,rfl,hz,q _ G H (Gr.refl s) (.sc rfl (.int _))⟩
        · cases hn'
      | _=>cases hn
    · exact q.elim
def abs3:C3:=fun cs Q=>match cs with
  | [.sh _ (.int i)]=>Q true (.int (if i<0 then -i else i))
  | _=>False
theorem za6:CallOk X (.builtin "abs") abs3:=by
  refine⟨fun cs Q Q' h q=>?_,fun H0=>zG.imp zgM fun xs H Q=>el2 fun G cs s w q=>?_⟩
  · unfold abs3 at *;split at q
    · exact h _ _ q
    · exact q
  · unfold abs3 at q;split at q
    · obtain⟨v,rfl,w1⟩:=vws1 w
      cases zE (zt w1).rd
      exact⟨_,rfl,q _ G H (Gr.refl s) (.sc rfl (.int _))⟩
    · exact q.elim
end
end L3
namespace L2
open PySem PySem.Spec PyProof.Rows
def Itz (K:PySem.W.Frag) (a b:Addr):It:=
  ⟨fun i H=>∃ xs ys x y,SqL K H a xs∧SqL K H b ys∧xs[i]?=some x∧ys[i]?=some y,
   fun i H v H'=>∃ p x y,H p=none∧v=.ref p∧H'=upd H p (.tup [x,y])∧∀ xs ys,SqL K H a xs→SqL K H b ys→xs[i]?=some x∧ys[i]?=some y,
   fun i H=>∃ xs ys,SqL K H a xs∧SqL K H b ys∧i=min xs.length ys.length⟩
theorem zez {P:Program} {w:World} {K:PySem.W.Frag} {elts:List Expr} {k:Nat} {pos:Pos} {z TI TO i1 i2 l1 l2:Addr} (D:ZipApart z TI TO i1 i2 l1 l2) :
    Turn P w K (.Tuple elts k pos) (Itz K l1 l2) [z,TI,TO,i1,i2] z (fun i h=>IsZip h z TI TO .none∧IsPair h TI (.ref i1) (.ref i2)∧(∃ a b,IsPair h TO a b)∧h.IsListIter i1 l1 i∧h.IsListIter i2 l2 i) where
  mem:=by simp
  obj:=fun i h hyp c hc=>by
    obtain⟨hz,hTI,⟨a,b,hTO⟩,⟨o1,e1,c1,d1⟩,⟨o2,e2,c2,d2⟩⟩:=hyp;have hc':c=z∨c=TI∨c=TO∨c=i1∨c=i2:=by simpa using hc
    rcases hc' with rfl|rfl|rfl|rfl|rfl
    · exact⟨_,hz,fun v z=>by cases(show Data.fields _=Data.cell v from z)⟩
    · exact⟨_,hTI,fun v z=>by cases(show Data.seq _ _=Data.cell v from z)⟩
    · exact⟨_,hTO,fun v z=>by cases(show Data.seq _ _=Data.cell v from z)⟩
    · exact⟨o1,e1,fun v z=>by rw [d1] at z;cases z⟩
    · exact⟨o2,e2,fun v z=>by rw [d2] at z;cases z⟩
  keep:=fun i h h' ⟨hz,hTI,⟨a,b,hTO⟩,h1,h2⟩ kk=>
    ⟨kk z (by simp) _ hz,kk TI (by simp) _ hTI,⟨a,b,kk TO (by simp) _ hTO⟩,h1.at fun o e=>kk i1 (by simp) o e,h2.at fun o e=>kk i2 (by simp) o e⟩
  item:=by
    intro X hP hw hK hc i pins s σ H E I hf st hg;subst hP hw hK;obtain⟨xs,ys,x,y,q1,q2,hx,hy⟩:=hg;obtain⟨its1,r1,p1,_⟩:=I.list q1;obtain⟨its2,r2,p2,_⟩:=I.list q2;obtain⟨u,hu,ru⟩:=r1.get hx;obtain⟨v,hv,rv⟩:=r2.get hy;have W:=WalksT.zip2 (prog:=X.prog) (w:=X.w) (I.ok.hd hc) z TI TO i1 i2 l1 l2 D its1.toArray its2.toArray;have hi:i<min its1.toArray.size its2.toArray.size:=by
      have a1:=(List.getElem?_eq_some_iff.mp hu).1;have a2:=(List.getElem?_eq_some_iff.mp hv).1;simp only [List.size_toArray];omega
    obtain⟨hz,hTI,hTO,h1,h2⟩:=st;have olt:∀ b∈[z,TI,TO,i1,i2],b<s.heap.objs.size:=fun b hb=>by
      obtain⟨a,b',hTO'⟩:=hTO;have hc':b=z∨b=TI∨b=TO∨b=i1∨b=i2:=by simpa using hb
      rcases hc' with rfl|rfl|rfl|rfl|rfl
      · exact Heap.lt_size hz
      · exact Heap.lt_size hTI
      · exact Heap.lt_size hTO'
      · obtain⟨_,e,_⟩:=h1;exact Heap.lt_size e
      · obtain⟨_,e,_⟩:=h2;exact Heap.lt_size e
    refine W.item i s _ _ hi ⟨hz,hTI,hTO,h1,h2,p1.isList,p2.isList⟩ fun T vals h1' tk hv' hT hTup mid kp=>?_
    obtain⟨u',v',hu',hv'',e⟩:=hv';subst e;have eu:u'=u:=by
      have:its1[i]?=some u':=by simpa using hu'
      rw [hu] at this;cases this;rfl
    have ev:v'=v:=by
      have:its2[i]?=some v':=by simpa using hv''
      rw [hv] at this;cases this;rfl
    subst eu ev;refine⟨_,rfl,W.go elts k pos i T _ _ _ mid fun h2' st2 kp2=>?_⟩
    have sub:∀ b∈[z,TO,i1,i2],b∈[z,TI,TO,i1,i2]:=fun b hb=>by
      have hc':b=z∨b=TO∨b=i1∨b=i2:=by simpa using hb
      rcases hc' with rfl|rfl|rfl|rfl<;>simp
    have I1:Inv X pins σ H { s with heap:=h2',toks:=tk }:=I.turnedL (ch:=[z,TO,i1,i2]) (fun b o hb e=>kp2 b o hb (kp b o hb e)) fun b hb=>hf b (sub b hb)
    have hTn:H T=none:=I.hok.fresh hT;obtain⟨o,ho,oc,on,od⟩:=hTup;have ho2:=kp2 T o (W.apart i T _ mid) ho;have I2:Inv X pins σ (upd H T (.tup [x,y])) { s with heap:=h2',toks:=tk }:=I1.track hTn (Nat.le_trans I.sz hT) (Nat.ne_of_gt (Nat.lt_of_lt_of_le I.lt hT)) (fun n c e z=>by
        obtain⟨vv,q⟩:=I.cell n c e;exact absurd (Nat.lt_of_lt_of_le q.lt (by rw [z];exact hT)) (Nat.lt_irrefl _)) (fun p hp z=>absurd (Nat.lt_of_lt_of_le (Heap.lt_size (I.pin p hp).1) (by rw [z];exact hT)) (Nat.lt_irrefl _))
      ⟨by show 2≤sizeLine;decide,[u',v'],.cons ru (.cons rv .nil),o,ho2,oc,on,od⟩
    refine⟨.ref T,_,I2,rfl,⟨T,x,y,hTn,rfl,rfl,fun xs' ys' z1 z2=>?_⟩,⟨st2.1,st2.2.1,st2.2.2.1,st2.2.2.2.1,st2.2.2.2.2.1⟩,fun b hb=>?_⟩
    · rw [I.list_inj z1 q1,I.list_inj z2 q2];exact⟨hx,hy⟩
    · rw [zh (Nat.ne_of_lt (Nat.lt_of_lt_of_le (olt b hb) hT))];exact(hf b hb).1
  done:=by
    intro X hP hw hK hc i pins s σ H E I hf st hg;subst hP hw hK;obtain⟨xs,ys,q1,q2,hi⟩:=hg;obtain⟨its1,r1,p1,_⟩:=I.list q1;obtain⟨its2,r2,p2,_⟩:=I.list q2;have W:=WalksT.zip2 (prog:=X.prog) (w:=X.w) (I.ok.hd hc) z TI TO i1 i2 l1 l2 D its1.toArray its2.toArray;obtain⟨hz,hTI,hTO,h1,h2⟩:=st;have ei:i=min its1.toArray.size its2.toArray.size:=by simp only [List.size_toArray];rw [←r1.length,←r2.length];exact hi
    subst ei;refine W.done s _ _ ⟨hz,hTI,hTO,h1,h2,p1.isList,p2.isList⟩ fun h' tk kp=>⟨rfl,?_⟩
    exact I.turnedL (ch:=[z,TO,i1,i2]) kp fun b hb=>hf b (by
      have hc':b=z∨b=TO∨b=i1∨b=i2:=by simpa using hb
      rcases hc' with rfl|rfl|rfl|rfl<;>simp)
  self:=fun _ _ _ _ _ st h=>wpAny_pyIter_zip st.1 h
def iZip (K:PySem.W.Frag) (ta:TA):TI:=fun σ H R=>ta σ H fun vs H1=>∃ a b,vs=[.ref a,.ref b]∧(∃ xs,SqL K H1 a xs)∧(∃ ys,SqL K H1 b ys)∧R (Itz K a b) H1
theorem ziW {X:Cx} {elts:List Expr} {k:Nat} {tpos:Pos} {a b:Expr} {ta:TA} {p pos:Pos} (hg:Gl X "zip") (hm:X.mg "zip" = none) (ha:PA X [a,b] ta) (hs:starEach [a,b] X.env=[(false,eval a X.env),(false,eval b X.env)]:=by rfl)
    (hs2:starEach [b] X.env=[(false,eval b X.env)]:=by rfl):PI X (.Tuple elts k tpos) (.Call (.Name "zip" p) [a,b] [] pos) (iZip X.K ta):=by
  intro pins s σ H R I h;refine Call_ (Jy I hg hm zhU (PyProof.Rows.callWith_type1 (thn (ha pos pins s σ H _ I h) fun us s1 ⟨vs,H1,I1,r1,q1⟩=>?_) (by rw [hs,hs2]) (by rw [hs2];rfl)))
  obtain⟨l1,l2,e,⟨xs,hx⟩,⟨ys,hy⟩,q⟩:=q1;subst e;obtain⟨u,v,rfl,ru,rv⟩:=J8 r1;cases(show u=Value.ref l1 from ru)
  cases(show v=Value.ref l2 from rv)
  obtain⟨its1,_,p1,_⟩:=I1.list hx;obtain⟨its2,_,p2,_⟩:=I1.list hy;have lt1:l1<s1.heap.objs.size:=by obtain⟨o,e,_⟩:=p1.isList;exact Heap.lt_size e
  have lt2:l2<s1.heap.objs.size:=by obtain⟨o,e,_⟩:=p2.isList;exact Heap.lt_size e
  refine call_zip_2 p1.isList p2.isList fun h' hz hTI hTO hi1 hi2 hsz kp=>wpAny_pyIter_zip hz ?_
  have I2:Inv X pins σ H1 { s1 with heap:=h' }:=I1.kept (t':=s1.toks) kp
  have D:ZipApart (s1.heap.objs.size+4) (s1.heap.objs.size+2) (s1.heap.objs.size+3) s1.heap.objs.size (s1.heap.objs.size+1) l1 l2:=PySem.W.ktu_apart _ _ _ lt1 lt2;refine⟨_,[s1.heap.objs.size+4,s1.heap.objs.size+2,s1.heap.objs.size+3,s1.heap.objs.size,s1.heap.objs.size+1],_,Itz X.K l1 l2,H1,rfl,I2,zez D,⟨hz,hTI,⟨_,_,hTO⟩,hi1,hi2⟩,fun b hb=>?_,q⟩
  have hb':s1.heap.objs.size≤b:=by
    have hc':b=s1.heap.objs.size+4∨b=s1.heap.objs.size+2∨b=s1.heap.objs.size+3∨b=s1.heap.objs.size∨b=s1.heap.objs.size+1:=by simpa using hb
    rcases hc' with rfl|rfl|rfl|rfl|rfl<;>first|exact Nat.le_refl _|exact Nat.le_add_right _ _
  have f:=I1.fpOk (H':=H1) hb' (I1.hok.fresh hb');exact⟨f.1,f.2.1,f.2.2.1,f.2.2.2.1,f.2.2.2.2.1,f.2.2.2.2.2⟩
section
variable {X:Cx}
theorem zbi {us:List Value} {ns:List Int} (h:IntsAre us ns):∃ xs:Array (Int×Tok),us.toArray=intItems xs∧xs.toList.map (·.1)=ns:=by
  obtain⟨xs,e⟩:=h.allInts.items;refine⟨xs,e,?_⟩;have e1:=h.numsOf;have e2:us=xs.toList.map fun p=>Value.int p.1 p.2:=by
    have:=congrArg Array.toList e
    simpa [intItems] using this
  rw [e2,numsOf_map] at e1;exact e1
theorem ziO (hc:X.calm=true):zG X (.builtin "sum") (fun xs H Q=>∃ (p:Addr) (ns:List Int),xs=[.ref p]∧SqL X.K H p (ns.map V.int)∧Q (.int ns.sum) H):=by
  intro pins s σ H xs us Q I r h;obtain⟨p,ns,rfl,hq,q⟩:=h;obtain⟨u,rfl,ru⟩:=jS r;cases(show u=Value.ref p from ru)
  obtain⟨its,rv,pl,_⟩:=I.list hq;obtain⟨ys,e1,e2⟩:=zbi (zag rv);have hl:=pl.isList;rw [e1] at hl;refine sum_intListG (I.ok.hd hc) hl fun h' tk t' kp=>⟨.int ns.sum,H,I.kept (t':=tk) kp,⟨t',?_⟩,q⟩
  rw [preSum_eq,List.take_of_length_le (by simp),e2]
def maxL:List Int→Int
  | []=>0
  | x::xs=>xs.foldl (fun a b=>if b > a then b else a) x
def minL:List Int→Int
  | []=>0
  | x::xs=>xs.foldl (fun a b=>if b<a then b else a) x
theorem zc8 {α β : Type} (f:β→α→β) (b:β) (l:List α) (a:α):(l++[a]).foldl f b=f (l.foldl f b) a:=by rw [List.foldl_append];rfl
theorem zco (ns:List Int):∀ n,n<ns.length→ns.getD (argBest (fun i j=>decide (ns.getD i 0 > ns.getD j 0)) n) 0=maxL (ns.take (n+1))
  | 0, h => by
    cases ns with
    | nil=>simp at h
    | cons x xs=>simp [argBest,maxL]
  | n + 1, h => by
    have ih:=zco ns n (by omega)
    have et:ns.take (n+1+1)=ns.take (n+1)++[ns.getD (n+1) 0]:=by
      rw [List.take_succ_eq_append_getElem h,List.getD_eq_getElem?_getD,List.getElem?_eq_getElem h];rfl
    rw [et];cases q:ns.take (n+1) with
    | nil=>
      have:=congrArg List.length q;rw [List.length_take,List.length_nil] at this;omega
    | cons x xs=>
      rw [q] at ih;have e1:maxL (x::xs++[ns.getD (n+1) 0])=if ns.getD (n+1) 0 > maxL (x::xs) then ns.getD (n+1) 0 else maxL (x::xs):=by
        show(xs++[ns.getD (n+1) 0]).foldl _ x=_
        rw [zc8];rfl
      rw [e1,←ih];show ns.getD (if decide (ns.getD (n+1) 0 > ns.getD (argBest (fun i j=>decide (ns.getD i 0 > ns.getD j 0)) n) 0)=true then n+1 else argBest (fun i j=>decide (ns.getD i 0 > ns.getD j 0)) n) 0=_
      by_cases hc:ns.getD (n+1) 0 > ns.getD (argBest (fun i j=>decide (ns.getD i 0 > ns.getD j 0)) n) 0
      · rw [if_pos (decide_eq_true hc),if_pos hc]
      · rw [if_neg (by simpa using hc),if_neg hc]
theorem zcA (ns:List Int):∀ n,n<ns.length→ns.getD (argBest (fun i j=>decide (ns.getD i 0<ns.getD j 0)) n) 0=minL (ns.take (n+1))
  | 0, h => by
    cases ns with
    | nil=>simp at h
    | cons x xs=>simp [argBest,minL]
  | n + 1, h => by
    have ih:=zcA ns n (by omega)
    have et:ns.take (n+1+1)=ns.take (n+1)++[ns.getD (n+1) 0]:=by
      rw [List.take_succ_eq_append_getElem h,List.getD_eq_getElem?_getD,List.getElem?_eq_getElem h];rfl
    rw [et];cases q:ns.take (n+1) with
    | nil=>
      have:=congrArg List.length q;rw [List.length_take,List.length_nil] at this;omega
    | cons x xs=>
      rw [q] at ih;have e1:minL (x::xs++[ns.getD (n+1) 0])=if ns.getD (n+1) 0<minL (x::xs) then ns.getD (n+1) 0 else minL (x::xs):=by
        show(xs++[ns.getD (n+1) 0]).foldl _ x=_
        rw [zc8];rfl
      rw [e1,←ih];show ns.getD (if decide (ns.getD (n+1) 0<ns.getD (argBest (fun i j=>decide (ns.getD i 0<ns.getD j 0)) n) 0)=true then n+1 else argBest (fun i j=>decide (ns.getD i 0<ns.getD j 0)) n) 0=_
      by_cases hc:ns.getD (n+1) 0<ns.getD (argBest (fun i j=>decide (ns.getD i 0<ns.getD j 0)) n) 0
      · rw [if_pos (decide_eq_true hc),if_pos hc]
      · rw [if_neg (by simpa using hc),if_neg hc]
theorem zae {xs:Array (Int×Tok)} {ns:List Int} (e:xs.toList.map (·.1)=ns):numAt xs=fun i=>ns.getD i 0:=by
  funext i
  subst e;unfold numAt;rw [List.getD_eq_getElem?_getD,List.getElem?_map,Array.getElem?_toList]
theorem zfG (hc:X.calm=true):zG X (.builtin "max") (fun xs H Q=>∃ (p:Addr) (ns:List Int),xs=[.ref p]∧ns≠[]∧SqL X.K H p (ns.map V.int)∧Q (.int (maxL ns)) H):=by
  intro pins s σ H xs us Q I r h;obtain⟨p,ns,rfl,hn,hq,q⟩:=h;obtain⟨u,rfl,ru⟩:=jS r;cases(show u=Value.ref p from ru)
  obtain⟨its,rv,pl,_⟩:=I.list hq;obtain⟨ys,e1,e2⟩:=zbi (zag rv);have hl:=pl.isList;rw [e1] at hl;have hs:ys.size=ns.length:=by rw [←e2,List.length_map];simp
  have hp:0<ns.length:=List.length_pos_iff.mpr hn;refine max_intList (I.ok.hd hc) hl (by omega) fun v h' tk hv kp=>?_
  rw [zae e2,hs] at hv;have hb:=zco ns (ns.length - 1) (by omega)
  rw [show ns.length - 1+1=ns.length by omega,List.take_length] at hb
  generalize argBest (fun i j=>decide (ns.getD i 0 > ns.getD j 0)) (ns.length - 1)=k at hv hb
  have hv':∃ a t,v=.int a t∧ns.getD k 0=a:=by
    unfold intItems at hv;rw [Array.getElem?_map] at hv;cases ek:ys[k]? with
    | none=>rw [ek] at hv;cases hv
    | some pr=>
      rw [ek] at hv;cases hv;refine⟨_,_,rfl,?_⟩;have:=congrFun (zae e2) k;rw [←this];unfold numAt;rw [ek];rfl
  obtain⟨a,t,rfl,ea⟩:=hv';exact⟨.int (maxL ns),H,I.kept (t':=tk) kp,⟨t,by rw [←hb,ea]⟩,q⟩
theorem zh7 (hc:X.calm=true):zG X (.builtin "min") (fun xs H Q=>∃ (p:Addr) (ns:List Int),xs=[.ref p]∧ns≠[]∧SqL X.K H p (ns.map V.int)∧Q (.int (minL ns)) H):=by
  intro pins s σ H xs us Q I r h;obtain⟨p,ns,rfl,hn,hq,q⟩:=h;obtain⟨u,rfl,ru⟩:=jS r;cases(show u=Value.ref p from ru)
  obtain⟨its,rv,pl,_⟩:=I.list hq;obtain⟨ys,e1,e2⟩:=zbi (zag rv);have hl:=pl.isList;rw [e1] at hl;have hs:ys.size=ns.length:=by rw [←e2,List.length_map];simp
  have hp:0<ns.length:=List.length_pos_iff.mpr hn;refine min_intList (I.ok.hd hc) hl (by omega) fun v h' tk hv kp=>?_
  rw [zae e2,hs] at hv;have hb:=zcA ns (ns.length - 1) (by omega)
  rw [show ns.length - 1+1=ns.length by omega,List.take_length] at hb
  generalize argBest (fun i j=>decide (ns.getD i 0<ns.getD j 0)) (ns.length - 1)=k at hv hb
  have hv':∃ a t,v=.int a t∧ns.getD k 0=a:=by
    unfold intItems at hv;rw [Array.getElem?_map] at hv;cases ek:ys[k]? with
    | none=>rw [ek] at hv;cases hv
    | some pr=>
      rw [ek] at hv;cases hv;refine⟨_,_,rfl,?_⟩;have:=congrFun (zae e2) k;rw [←this];unfold numAt;rw [ek];rfl
  obtain⟨a,t,rfl,ea⟩:=hv';exact⟨.int (minL ns),H,I.kept (t':=tk) kp,⟨t,by rw [←hb,ea]⟩,q⟩
def isD:PyData→String→Option Bool
  | .int _,n=>if n = "int" then some true else if n = "bool" then some false else none
  | .tuple _,n=>if n = "tuple" then some true else none
  | .list _,n=>if n = "list" then some true else none
  | .str _,n=>if n = "str" then some true else none
  | .bool _,n=>if n = "bool" then some true else none
  | _,_=>none
def tyD:PyData→String
  | .int _=>"int"
  | .tuple _=>"tuple"
  | .list _=>"list"
  | .str _=>"str"
  | .bool _=>"bool"
  | _=>"NoneType"
theorem zhi {d:PyData} {n:String} {b:Bool} (h:isD d n=some b):isB (tyD d) n=some b:=by
  unfold isD at h
  split at h
  · split at h
    · rename_i e;subst e;cases h;rfl
    · split at h
      · rename_i e;subst e;cases h;rfl
      · cases h
  all_goals first
    | (split at h
       · rename_i e;subst e;cases h;rfl
       · cases h)
    | cases h
theorem zhH:zG X (.builtin "isinstance") (fun xs H Q=>∃ x n d b,xs=[x,.ty n]∧RdV X.K H x d∧isD d n=some b∧Q (.bl b) H):=by
  intro pins s σ H xs us Q I r h;obtain⟨x,n,d,b,rfl,rd,hb,q⟩:=h;obtain⟨u,c,rfl,rx,rc⟩:=J8 r;cases(show c=Value.type n from rc)
  have e:=zjb (K:=X.K) (zhi hb);have fin:∀ tk,EP X pins σ Q (.bool b) { s with toks:=tk }:=fun tk=>⟨.bl b,H,I.tok tk,rfl,q⟩
  cases rd with
  | non=>cases hb
  | bl y=>cases(show u=Value.bool y from rx);exact PySem.W.kia_one PySem.W.kitx_bool I.kIn True.intro e (fun z=>nomatch z) fin
  | int i=>obtain⟨t,q⟩:=(show ∃ t,u=Value.int i t from rx);cases q;exact PySem.W.kia_one PySem.W.kitx_int I.kIn True.intro e (fun z=>nomatch z) fin
  | str y=>obtain⟨t,q⟩:=(show ∃ t,u=Value.str y t from rx);cases q;exact PySem.W.kia_one PySem.W.kitx_str I.kIn True.intro e (fun z=>nomatch z) fin
  | lst hq rs=>
    cases rx;obtain⟨its,rv,⟨o,n,ho,hc,_,hd⟩,_⟩:=I.list hq
    exact PySem.W.kia_one PySem.W.kitx_list I.kIn ⟨o,ho,hc⟩ e (fun z=>nomatch z) fin
  | tup hq rs=>
    cases rx;obtain⟨its,rv,⟨o,ho,hc,n,hd⟩,_⟩:=I.tuple hq
    exact PySem.W.kia_one PySem.W.kitx_tuple I.kIn ⟨o,ho,hc⟩ e (fun z=>nomatch z) fin
end
section
variable {X:Cx}
end
end L2
namespace L3
open PySem PySem.Spec PyProof.Rows L2
section
variable {X:Cx} {H0:Hp} {pos p:Pos} {e:Expr}
def jq:List D→Option (List Int)
  | []=>some []
  | .int i::r=>(jq r).map (i :: ·)
  | _::_=>none
def Zd:List D→Option (List Bool)
  | []=>some []
  | .bool i::r=>(Zd r).map (i :: ·)
  | _::_=>none
theorem jh (ns:List Int):jq (ns.map .int)=some ns:=by
  induction ns with
  | nil=>rfl
  | cons a r ih=>simp [jq,ih]
theorem zaj {K:PySem.W.Frag} {G:Hp} {vs:List V} {ds:List D} {ns:List Int} (r:RdVs K G vs ds) (e:jq ds=some ns):vs=ns.map V.int:=by
  induction vs generalizing ds ns with
  | nil=>cases r;cases e;rfl
  | cons v vs ih=>
    cases r with
    | @cons _ _ d ds a b=>
      cases d with
      | int i=>
        have e':(jq ds).map (i :: ·)=some ns:=e;cases q:jq ds with
        | none=>rw [q] at e';cases e'
        | some ms=>
          rw [q] at e';cases e';rw [List.map_cons,ih b q,zE a]
      | _=>cases e
theorem zbB {K:PySem.W.Frag} {G:Hp} {vs:List V} {ds:List D} {ns:List Bool} (r:RdVs K G vs ds) (e:Zd ds=some ns):vs=ns.map V.bl:=by
  induction vs generalizing ds ns with
  | nil=>cases r;cases e;rfl
  | cons v vs ih=>
    cases r with
    | @cons _ _ d ds a b=>
      cases d with
      | bool i=>
        have e':(Zd ds).map (i :: ·)=some ns:=e;cases q:Zd ds with
        | none=>rw [q] at e';cases e'
        | some ms=>
          rw [q] at e';cases e';rw [List.map_cons,ih b q,zaU a]
      | _=>cases e
theorem jH {K:PySem.W.Frag} {H0 G H:Hp} {v:V} {c:Cl} {ds:List D} (w:Vw K H0 G H v c) (s:Same G H) (hd:c.dat=true) (h:c.d=.list ds):∃ a vs,v=.ref a∧SqL K H a vs∧Rfs K H0 G c.f vs ds:=by
  cases w with
  | sh r=>
    have h':_=PyData.list ds:=h;subst h';obtain⟨a,xs,rfl,hq,rs⟩:=Jj r;exact⟨a,xs,rfl,s.seq hq,rs⟩
  | ow hh r n=>cases h;exact⟨_,_,rfl,SqL.of hh,r⟩
  | tr hh=>cases hd
  | dt _ _ _=>cases hd
  | ex hh=>cases hd
def sum3:C3:=fun cs Q=>match cs with
  | [c]=>c.dat=true∧∃ ds ns,c.d=.list ds∧jq ds=some ns∧Q true (.int ns.sum)
  | _=>False
theorem Je (hc:X.calm=true):CallOk X (.builtin "sum") sum3:=by
  refine⟨fun cs Q Q' h q=>?_,fun H0=>zG.imp (ziO hc) fun xs H Q=>el2 fun G cs s w q=>?_⟩
  · unfold sum3 at *;split at q
    · obtain⟨a,ds,ns,h1,h2,q⟩:=q;exact⟨a,ds,ns,h1,h2,h _ _ q⟩
    · exact q
  · unfold sum3 at q;split at q
    · obtain⟨v,rfl,w1⟩:=vws1 w
      obtain⟨a,ds,ns,h1,h2,q⟩:=q;obtain⟨l,vs,rfl,hq,rs⟩:=jH w1 s a h1;cases zaj rs.rd h2;exact⟨l,ns,rfl,hq,q _ G H (Gr.refl s) (.sc rfl (.int _))⟩
    · exact q.elim
def max3:C3:=fun cs Q=>match cs with
  | [c]=>c.dat=true∧∃ ds ns,c.d=.list ds∧jq ds=some ns∧ns≠[]∧Q true (.int (maxL ns))
  | _=>False
theorem zcm (hc:X.calm=true):CallOk X (.builtin "max") max3:=by
  refine⟨fun cs Q Q' h q=>?_,fun H0=>zG.imp (zfG hc) fun xs H Q=>el2 fun G cs s w q=>?_⟩
  · unfold max3 at *;split at q
    · obtain⟨a,ds,ns,h1,h2,h3,q⟩:=q;exact⟨a,ds,ns,h1,h2,h3,h _ _ q⟩
    · exact q
  · unfold max3 at q;split at q
    · obtain⟨v,rfl,w1⟩:=vws1 w
      obtain⟨a,ds,ns,h1,h2,h3,q⟩:=q;obtain⟨l,vs,rfl,hq,rs⟩:=jH w1 s a h1;cases zaj rs.rd h2;exact⟨l,ns,rfl,h3,hq,q _ G H (Gr.refl s) (.sc rfl (.int _))⟩
    · exact q.elim
def min3:C3:=fun cs Q=>match cs with
  | [c]=>c.dat=true∧∃ ds ns,c.d=.list ds∧jq ds=some ns∧ns≠[]∧Q true (.int (minL ns))
  | _=>False
theorem ziL (hc:X.calm=true):CallOk X (.builtin "min") min3:=by
  refine⟨fun cs Q Q' h q=>?_,fun H0=>zG.imp (zh7 hc) fun xs H Q=>el2 fun G cs s w q=>?_⟩
  · unfold min3 at *;split at q
    · obtain⟨a,ds,ns,h1,h2,h3,q⟩:=q;exact⟨a,ds,ns,h1,h2,h3,h _ _ q⟩
    · exact q
  · unfold min3 at q;split at q
    · obtain⟨v,rfl,w1⟩:=vws1 w
      obtain⟨a,ds,ns,h1,h2,h3,q⟩:=q;obtain⟨l,vs,rfl,hq,rs⟩:=jH w1 s a h1;cases zaj rs.rd h2;exact⟨l,ns,rfl,h3,hq,q _ G H (Gr.refl s) (.sc rfl (.int _))⟩
    · exact q.elim
def ZX (t:TA3):TN3:=fun ρ Q=>t ρ fun cs=>∃ c ds,cs=[c]∧c.dat=true∧(c.d=.list ds∨c.d=.tuple ds)∧Q (c.f||ds.all zy) ds
theorem zbk {x:Str} {es:List Expr} {t:TA3} (hg:Gl X x) (hm:X.mg x=none) (hv:bootBuiltins x=some (.type "list")) (ha:PA3 X H0 (e::es) t) (hn:x≠"__name__":=by decide) (hdb:(x==("__debug__" : Str))=false:=by decide)
    (he:starEach (e::es) X.env=(false,eval e X.env)::starEach es X.env:=by rfl) (hpl:(backTo pos (starEach es X.env)).any (·.1)=false:=by rfl):PN3 X H0 (.Call (.Name x p) (e::es) [] pos) (ZX t):=
  ⟨fun ρ Q Q' h q=>ha.mono ρ _ _ (fun cs ⟨c,ds,a,b,d,q⟩=>⟨c,ds,a,b,d,h _ _ q⟩) q,PE.imp (zfS zho hg hm hv ha.ok hn hdb he hpl) fun σ H Q=>el5 fun G0 ρ G F q=>⟨G0,ρ,G,F,ha.mono ρ _ _ (fun cs hyp vs G1 H1 g1 w=>by
    obtain⟨c,ds,a,b,d,k⟩:=hyp;subst a;obtain⟨v,rfl,w1⟩:=vws1 w
    rcases d with d|d
    · obtain⟨l,us,rfl,hq,rs⟩:=jH w1 g1.sub b d
      exact⟨l,us,rfl,.inl hq,fun l' hl=>k l' us G1 H1 g1 hl rs.or⟩
    · cases w1 with
      | sh r=>
        have d':_=PyData.tuple ds:=d;subst d';obtain⟨l,us,rfl,hq,rs⟩:=zac r;exact⟨l,us,rfl,.inr (g1.sub.tup hq),fun l' hl=>k l' us G1 H1 g1 hl rs.or⟩
      | ow _ _ _=>cases d
      | tr _=>cases d
      | dt _ _ _=>cases d
      | ex _=>cases b) q⟩⟩
def catN (ta tb:TE3):TN3:=fun ρ Q=>ta ρ fun a=>tb ρ fun b=>∃ ds es,a.dat=true∧b.dat=true∧a.d=.list ds∧b.d=.list es∧ds.length+es.length≤sizeLine∧Q ((a.f||ds.all zy)&&(b.f||es.all zy)) (ds++es)
theorem zf8:OpR X (binaryOp .Add) (fun x y H Q=>∃ l b xs zs,x=.ref l∧y=.ref b∧SqL X.K H l xs∧SqL X.K H b zs∧xs.length+zs.length≤sizeLine∧∀ p,H p=none→Q (.ref p) (upd H p (.lst (xs++zs)))):=by
  intro pins s σ H x y v u Q I rx ry h;obtain⟨l,b,xs,zs,rfl,rfl,hl,hb,hz,k⟩:=h;cases rx;cases ry;obtain⟨its,rv,pl,_⟩:=I.list hl;obtain⟨its',rv',pl',_⟩:=I.list hb;obtain⟨⟨cls,dd,data,sl⟩,ho,hc,n,hd⟩:=pl.isList;obtain⟨⟨cls2,dd2,data2,sl2⟩,ho2,hc2,n2,hd2⟩:=pl'.isList;simp only at hc hd hc2 hd2;subst hc hd hc2 hd2;have e:its.toArray++its'.toArray=(its++its').toArray:=by simp
  refine concat_meets ⟨_,ho,rfl⟩ ⟨_,ho2,rfl⟩ noFill_list_add seq_list_add PySem.F.slot_list_add PySem.F.entry_list_add (PySem.F.args_list_add_2 _ _) (list_addW l b its.toArray its'.toArray n n2 dd dd2 sl sl2 (by rw [List.size_toArray,List.size_toArray,←rv.length,←rv'.length];exact hz)) ⟨ho,ho2,?_⟩
  rw [e];exact⟨.ref _,_,I.lnew (t':=s.toks) (rv.append rv') (by rw [List.length_append];exact hz),rfl,k _ I.fresh⟩
theorem cat3 {a b:Expr} {ta tb:TE3} (ha:PE3 X H0 a ta) (hb:PE3 X H0 b tb):PN3 X H0 (.BinOp a .Add b pos) (catN ta tb):=
  ⟨fun ρ Q Q' h q=>ha.mono ρ _ _ (fun a=>hb.mono ρ _ _ fun b ⟨ds,es,h1,h2,h3,h4,h5,q⟩=>⟨ds,es,h1,h2,h3,h4,h5,h _ _ q⟩) q,PE.imp (zaG zf8 ha.ok hb.ok) fun σ H Q=>el5 fun G0 ρ G F q=>⟨G0,ρ,G,F,ha.mono ρ _ _ (fun a qa v1 G1 H1 g1 w1=>⟨G0,ρ,G1,F.gr g1,hb.mono ρ _ _ (fun b hyp v2 G2 H2 g2 w2=>by
    obtain⟨ds,es,h1,h2,h3,h4,h5,k⟩:=hyp;obtain⟨l,us,rfl,hq,rs⟩:=jH (w1.gr g2) g2.sub h1 h3;obtain⟨m,us',rfl,hq',rs'⟩:=jH w2 g2.sub h2 h4;exact⟨l,m,us,us',rfl,rfl,hq,hq',by rw [rs.length,rs'.length];exact h5,fun p hp=>k p _ G2 H2 (g1.trans g2) hp (rs.or.append rs'.or)⟩) qa⟩) q⟩⟩
def ZI (n:String) (te:TE3):TE3:=fun ρ Q=>te ρ fun c=>∃ b,c.dat=true∧L2.isD c.d n=some b∧Q (.sh true (.bool b))
theorem zcM {nf:Str} {n:String} {x:Str} {p2:Pos} {te:TE3} (hg:Gl X nf) (hm:X.mg nf=none) (hnf:nf = "isinstance") (hg2:Gl X x) (hm2:X.mg x=none) (hv:bootBuiltins x=some (.type n)) (he:PE3 X H0 e te) (hn:x≠"__name__":=by decide)
    (h1:starEach [e,.Name x p2] X.env=(false,eval e X.env)::starEach [.Name x p2] X.env:=by rfl) (h2:starEach [.Name x p2] X.env=(false,eval (.Name x p2) X.env)::starEach [] X.env:=by rfl)
    (hpl:(backTo pos (starEach [.Name x p2] X.env)).any (·.1)=false:=by rfl) (hdx:(x==("__debug__" : Str))=false:=by decide):PE3 X H0 (.Call (.Name nf p) [e,.Name x p2] [] pos) (ZI n te):=by
  subst hnf;exact⟨fun ρ Q Q' h q=>he.mono ρ _ _ (fun c ⟨b,a,d,q⟩=>⟨b,a,d,h _ q⟩) q,PE.imp (Zz (x:="isinstance") zhH hg hm zak (z9 he.ok (z9 (zbM (v:=.ty n) hg2 hm2 hv rfl hn hdx) jn h2) h1) (by decide) (by decide) h1 hpl) fun σ H Q=>el5 fun G0 ρ G F q=>⟨G0,ρ,G,F,he.mono ρ _ _ (fun c ⟨b,hd,hb,k⟩ v G1 H1 g1 w=>
    ⟨v,n,c.d,b,rfl,w.rd g1.sub hd,hb,k _ G1 H1 g1 (.sh (.sc rfl (.bl b)))⟩) q⟩⟩
def zipD:List D→List D→List D
  | a::as,b::bs=>.tuple [a,b]::zipD as bs
  | _,_=>[]
theorem zbw:∀ as bs,(zipD as bs).length=min as.length bs.length
  | [],_=>by simp [zipD]
  | _::_,[]=>by simp [zipD]
  | a::as,b::bs=>by simp [zipD,zbw as bs,Nat.succ_min_succ]
theorem zcd:∀ {as bs:List D} {i:Nat} {d:D},(zipD as bs)[i]?=some d→∃ a b,d=.tuple [a,b]∧as[i]?=some a∧bs[i]?=some b
  | [],_,i,d,h=>by simp [zipD] at h
  | _::_,[],i,d,h=>by simp [zipD] at h
  | a::as,b::bs,0,d,h=>by cases h;exact⟨a,b,rfl,rfl,rfl⟩
  | a :: as, b :: bs, i + 1, d, h => by
    obtain⟨x,y,h1,h2,h3⟩:=zcd (i:=i) (show(zipD as bs)[i]?=some d from h)
    exact⟨x,y,h1,h2,h3⟩
def itZ (t:TA3):TI3:=fun ρ Q=>t ρ fun cs=>∃ f g as bs,cs=[.sh f (.list as),.sh g (.list bs)]∧Q (f&&g) (zipD as bs)
theorem zhf {K:PySem.W.Frag} {H0 G:Hp} {a b:Addr} {xs ys:List V} {f g:Bool} {as bs:List D} (h1:SqL K G a xs) (r1:Rfs K H0 G f xs as) (h2:SqL K G b ys) (r2:Rfs K H0 G g ys bs):ItOk K H0 (Itz K a b) (f&&g) (zipD as bs) G where
  go:=fun i d G' H hd s1 s2=>by
    obtain⟨p,q,rfl,hp,hq⟩:=zcd hd;obtain⟨x,hx,rx⟩:=r1.get hp;obtain⟨y,hy,ry⟩:=r2.get hq;have ss:=s1.trans s2;refine⟨⟨xs,ys,x,y,ss.seq h1,ss.seq h2,hx,hy⟩,fun v H' ⟨l,x',y',hl,e1,e2,hh⟩=>?_⟩
    subst e1 e2;obtain⟨z1,z2⟩:=hh xs ys (ss.seq h1) (ss.seq h2);rw [hx] at z1;rw [hy] at z2;cases z1;cases z2;have gl:=ja (s2.free hl) (.tup [x,y]);exact⟨upd G' l (.tup [x,y]),Gr.put s2 hl,⟨.tup (SqT.of zB) (.cons (Zk (s1.trans gl) rx.rd) (.cons (Zk (s1.trans gl) ry.rd) .nil)),fun hf=>by
      rw [Bool.and_eq_true] at hf;exact .tup (SqT.of zB) (.cons (jX (s1.trans gl) (fun _ _ _ z=>z) (rx.nw hf.1)) (.cons (jX (s1.trans gl) (fun _ _ _ z=>z) (ry.nw hf.2)) .nil))⟩⟩
  stop:=fun i G' H hl s1 s2=>⟨xs,ys,(s1.trans s2).seq h1,(s1.trans s2).seq h2,by rw [hl,zbw,r1.length,r2.length]⟩
theorem zas {elts:List Expr} {k:Nat} {tpos:Pos} {a b:Expr} {t:TA3} (hg:Gl X "zip") (hm:X.mg "zip" = none) (ha:PA3 X H0 [a,b] t) (hs:starEach [a,b] X.env=[(false,eval a X.env),(false,eval b X.env)]:=by rfl)
    (hs2:starEach [b] X.env=[(false,eval b X.env)]:=by rfl):PI3 X H0 (.Tuple elts k tpos) (.Call (.Name "zip" p) [a,b] [] pos) (itZ t):=
  ⟨fun ρ Q Q' h q=>ha.mono ρ _ _ (fun cs ⟨f,g,as,bs,e,q⟩=>⟨f,g,as,bs,e,h _ _ q⟩) q,PI.imp (ziW hg hm ha.ok hs hs2) fun σ H R=>el5 fun G0 ρ G F q=>⟨G0,ρ,G,F,ha.mono ρ _ _ (fun cs hyp vs G' H' g w=>by
    obtain⟨fl,fm,as,bs,e,k⟩:=hyp;subst e;obtain⟨v,u,rfl,w1,w2⟩:=vws2 w;obtain⟨x,xs,rfl,hx,rx⟩:=Jj (zt w1);obtain⟨y,ys,rfl,hy,ry⟩:=Jj (zt w2);exact⟨x,y,rfl,⟨xs,g.sub.seq hx⟩,⟨ys,g.sub.seq hy⟩,k _ G' H' g (zhf hx rx hy ry)⟩) q⟩⟩
end
section
variable {K:PySem.W.Frag} {H0 G0:Hp} {ρ : Env3} {σ : L2.St} {G H:Hp}
theorem Fr3.exc (F:Fr3 K H0 G0 ρ σ G H) {i:Nat} {a C:Addr} (h:H a=some (excO a C)):Fr3 K H0 G0 (ρ.set i (some (.ex C))) (σ.set i (some (.ref a))) G H:=F.put (Same.refl _) (.ex h) fun _ h=>False.elim h
theorem Fr3.gone (F:Fr3 K H0 G0 ρ σ G H) {i:Nat}:Fr3 K H0 G0 (ρ.set i none) (σ.set i none) G H where
  keep:=F.keep
  sub:=F.sub
  old:=F.old
  g0:=F.g0
  slot:=fun j c e=>by
    rcases zV e with ⟨rfl,q,hl⟩|⟨n,q⟩
    · cases q
    · obtain⟨v',h1,h2⟩:=F.slot j c q
      exact⟨v',by rw [List.getElem?_set_ne n];exact h1,h2⟩
  mine:=fun j c v a e e' h=>by
    rcases zV e with ⟨rfl,q,hl⟩|⟨n,q⟩
    · cases q
    · rw [List.getElem?_set_ne n] at e'
      exact F.mine j c v a q e' h
  apart:=fun j k c1 c2 v1 v2 a e1 e2 e3 e4 h1 h2=>by
    rcases zV e1 with ⟨rfl,q,hl⟩|⟨n,q⟩
    · cases q
    · rcases zV e2 with ⟨rfl,q',hl⟩|⟨n',q'⟩
      · cases q'
      · rw [List.getElem?_set_ne n] at e3
        rw [List.getElem?_set_ne n'] at e4;exact F.apart j k c1 c2 v1 v2 a q q' e3 e4 h1 h2
  len:=by rw [List.length_set,List.length_set];exact F.len
end
abbrev TX3:=Ends3→(Addr→Prop)→Env3→Prop
def zh4 (K:PySem.W.Frag) (H0:Hp) (t:TX3):TX:=fun B E σ H=>∃ G0 A E3 ρ G,Fr3 K H0 G0 ρ σ G H∧t A E3 ρ∧LD K H0 G0 A B∧∀ C H',E3 C→Same H H'→E C H'
def PX3 (X:Cx) (H0:Hp) (st:List Stmt) (t:TX3):Prop:=PX X st (zh4 X.K H0 t)
theorem PX.imp {X:Cx} {e:List Stmt} {t t':TX} (h:PX X e t) (i:∀ B E σ H,t' B E σ H→t B E σ H):PX X e t':=fun pins s σ H B E I q=>h pins s σ H B E I (i _ _ _ _ q)
section
variable {X:Cx} {H0:Hp} {pos pos' p:Pos} {e:Expr} {es:List Expr} {x:Str}
def ZY (sp:Sp3) (ta:TA3):TX3:=fun A E ρ=>ta ρ fun cs=>cs.all Cl.dat=true∧sp (cs.map Cl.d) (fun _ _=>A.nx ρ) E
theorem zaB {k:Nat} {ps:List Str} {sp:Sp3} {t:TA3} (Gd:Df3 X.prog X.w X.K X.mg X.base k x ps sp) (hr:Room k X.A) (hg:Gl X x) (ha:PA3 X.nox H0 (e::es) t) (hdb:(x==("__debug__" : Str))=false:=by decide)
    (he:starEach (e::es) X.env=(false,eval e X.env)::starEach es X.env:=by rfl) (hpl:(backTo pos (starEach es X.env)).any (·.1)=false:=by rfl)
    (hs:swapsWith (.Call (.Name x p) (e::es) [] pos) none pos'.line X.env=pure false:=by rfl):PX3 X H0 [.Expr (.Call (.Name x p) (e::es) [] pos) pos'] (ZY sp t):=
  PX.imp (zg7 Gd.ok hr hg ha.ok hdb he hpl hs) fun B E σ H ⟨G0,A,E3,ρ,G,F,q,L,hE⟩=>⟨G0,ρ,G,F,ha.mono ρ _ _ (fun cs ⟨hd,qc⟩ vs G1 H1 g1 w=>⟨H1,cs.map Cl.d,Same.refl _,w.rds g1.sub hd,
    Gd.mono _ _ _ _ _ (fun f d k v G' H' g r=>L.nx ρ σ G1 H' ((F.gr g1).gr ⟨Same.refl _,g.h,g1.sub.trans g.h,fun _ _ e=>.inl e⟩) k) (fun C c H' s=>⟨C,rfl,hE C H' c (g1.h.trans s)⟩) qc⟩) q⟩
def xif3 (c:TT3) (t u:TX3):TX3:=fun A E ρ=>c ρ fun k=>if k=true then t A E ρ else u A E ρ
theorem x_if {c:Expr} {a b:List Stmt} {tc:TT3} {t u:TX3} (hc:PT3 X.nox H0 c tc) (ha:PX3 X H0 a t) (hb:PX3 X H0 b u):PX3 X H0 [.If c a b pos] (xif3 tc t u):=
  PX.imp (zg5 hc.ok ha hb) fun B E σ H ⟨G0,A,E3,ρ,G,F,q,L,hE⟩=>⟨G0,ρ,G,F,hc.mono ρ _ _ (fun k q G' H' g=>by
    cases k with
    | true=>exact⟨G0,A,E3,ρ,G',F.gr g,q,L,fun C H2 c s=>hE C H2 c (g.h.trans s)⟩
    | false=>exact⟨G0,A,E3,ρ,G',F.gr g,q,L,fun C H2 c s=>hE C H2 c (g.h.trans s)⟩) q⟩
def try3 (K:PySem.W.Frag) (CC:Addr) (i:Nat) (tx:TX3) (th:TS3):TS3:=fun A ρ=>tx A (fun C=>PySem.W.exmOne K (.ref C) (.ref CC)=some true∧
  th { nx:=fun ρ'=>A.nx (ρ'.set i none),rt:=A.rt,bk:=fun ρ'=>A.bk (ρ'.set i none),ct:=fun ρ'=>A.ct (ρ'.set i none) } (ρ.set i (some (.ex C)))) ρ
theorem zdt {rest:List ExceptHandler} {body:List Stmt} {b₀ : Stmt} {suite:List Stmt} {cx n:Str} {CC:Addr} {i:Nat} {np hpos:Pos} {tx:TX3} {th:TS3} (hst:X.stack=X.env::X.outer) (hfr:X.env.frame=some X.env.locals) (hN:X.N.Nodup) (hi:X.N[i]?=some n)
    (hk:X.env.scope.names.lookup n=some .local) (hg:Gl X cx) (hm:X.mg cx=some (.ref CC)) (hb:PX3 X H0 body tx) (hh:∀ ea,PSs3 (X.inExc ea) H0 (b₀ :: suite) th) (hdb:(cx==("__debug__" : Str))=false:=by decide) :
    PS3 X H0 (.Try body (.ExceptHandler (some (.Name cx np)) (some n) (b₀ :: suite) hpos::rest) [] [] pos) (try3 X.K CC i tx th):=
  PS.imp (zfF (th:=fun ea=>za4 X.K H0 th) hst hfr hN hi hk hg hm hb hh hdb) fun B σ H=>el7 fun G0 A ρ G F q L=>
    ⟨G0,A,_,ρ,G,F,q,L,fun C H1 ⟨hx,hth⟩ s1=>⟨hx,fun ea hea=>by
      have g1:Gr G H G H1:=⟨Same.refl _,s1,F.sub.trans s1,fun _ _ e=>.inl e⟩
      have g2:Gr G H1 G (upd H1 ea (excO ea C)):=Gr.apart g1.sub hea;exact⟨G0,_,ρ.set i (some (.ex C)),G,((F.gr g1).gr g2).exc zB,hth,⟨fun ρ' σ' G' H' F' q'=>L.nx _ _ _ _ F'.gone q',L.rt,fun ρ' σ' G' H' F' q'=>L.bk _ _ _ _ F'.gone q',fun ρ' σ' G' H' F' q'=>L.ct _ _ _ _ F'.gone q'⟩⟩⟩⟩
def isxr (K:PySem.W.Frag) (A:Addr) (te:TE3):TE3:=fun ρ Q=>te ρ fun c=>∃ C b,c=.ex C∧XAttr K C∧PySem.W.kitOne K (.ref C) (.ref A)=some b∧Q (.sh true (.bool b))
def isxy (K:PySem.W.Frag) (n:String) (te:TE3):TE3:=fun ρ Q=>te ρ fun c=>∃ C b,c=.ex C∧XAttr K C∧PySem.W.kitOne K (.ref C) (.type n)=some b∧Q (.sh true (.bool b))
def isxt (K:PySem.W.Frag) (As:List Addr) (te:TE3):TE3:=fun ρ Q=>te ρ fun c=>∃ C b,c=.ex C∧XAttr K C∧PySem.W.kitAny K (.ref C) (As.map Value.ref)=some b∧Q (.sh true (.bool b))
theorem zaY {K:PySem.W.Frag} {H0 G H:Hp} {v:V} {C:Addr} (w:Vw K H0 G H v (.ex C)):∃ a,v=.ref a∧H a=some (excO a C):=by
  cases w with
  | ex h=>exact⟨_,rfl,h⟩
theorem zar {nf:Str} {K':PySem.W.Frag} (hK:X.K=K') {A:Addr} {p2:Pos} {te:TE3} (hg:Gl X nf) (hm:X.mg nf=none) (hnf:nf = "isinstance") (hg2:Gl X x) (hm2:X.mg x=some (.ref A)) (he:PE3 X H0 e te)
    (h1:starEach [e,.Name x p2] X.env=(false,eval e X.env)::starEach [.Name x p2] X.env:=by rfl) (h2:starEach [.Name x p2] X.env=(false,eval (.Name x p2) X.env)::starEach [] X.env:=by rfl)
    (hpl:(backTo pos (starEach [.Name x p2] X.env)).any (·.1)=false:=by rfl) (hdx:(x==("__debug__" : Str))=false:=by decide):PE3 X H0 (.Call (.Name nf p) [e,.Name x p2] [] pos) (isxr K' A te):=by
  subst hK;subst hnf;exact⟨fun ρ Q Q' h q=>he.mono ρ _ _ (fun c ⟨C,b,a,d,f,q⟩=>⟨C,b,a,d,f,h _ q⟩) q,PE.imp (Zz (x:="isinstance") ze6 hg hm zak (z9 he.ok (z9 (zay (v:=.ref A) hg2 hm2 rfl hdx) jn h2) h1) (by decide) (by decide) h1 hpl) fun σ H Q=>el5 fun G0 ρ G F q=>⟨G0,ρ,G,F,he.mono ρ _ _ (fun c hyp v G1 H1 g1 w=>by
    obtain⟨C,b,hc,Y,hk,k⟩:=hyp;subst hc;obtain⟨a,rfl,ha⟩:=zaY w;exact⟨a,C,A,b,rfl,ha,Y,hk,k _ G1 H1 g1 (.sh (.sc rfl (.bl b)))⟩) q⟩⟩
theorem zdX {nf:Str} {K':PySem.W.Frag} (hK:X.K=K') {n:String} {p2:Pos} {te:TE3} (hg:Gl X nf) (hm:X.mg nf=none) (hnf:nf = "isinstance") (hg2:Gl X x) (hm2:X.mg x=none) (hv:bootBuiltins x=some (.type n)) (he:PE3 X H0 e te) (hn:x≠"__name__":=by decide)
    (h1:starEach [e,.Name x p2] X.env=(false,eval e X.env)::starEach [.Name x p2] X.env:=by rfl) (h2:starEach [.Name x p2] X.env=(false,eval (.Name x p2) X.env)::starEach [] X.env:=by rfl)
    (hpl:(backTo pos (starEach [.Name x p2] X.env)).any (·.1)=false:=by rfl) (hdx:(x==("__debug__" : Str))=false:=by decide):PE3 X H0 (.Call (.Name nf p) [e,.Name x p2] [] pos) (isxy K' n te):=by
  subst hK;subst hnf;exact⟨fun ρ Q Q' h q=>he.mono ρ _ _ (fun c ⟨C,b,a,d,f,q⟩=>⟨C,b,a,d,f,h _ q⟩) q,PE.imp (Zz (x:="isinstance") zeo hg hm zak (z9 he.ok (z9 (zbM (v:=.ty n) hg2 hm2 hv rfl hn hdx) jn h2) h1) (by decide) (by decide) h1 hpl) fun σ H Q=>el5 fun G0 ρ G F q=>⟨G0,ρ,G,F,he.mono ρ _ _ (fun c hyp v G1 H1 g1 w=>by
    obtain⟨C,b,hc,Y,hk,k⟩:=hyp;subst hc;obtain⟨a,rfl,ha⟩:=zaY w;exact⟨a,C,n,b,rfl,ha,Y,hk,k _ G1 H1 g1 (.sh (.sc rfl (.bl b)))⟩) q⟩⟩
def PCl (X:Cx) (es:List Expr) (As:List Addr):Prop:=PA X es (fun _ H Q=>Q (As.map V.ref) H)
theorem zgJ:PCl X [] []:=fun pos pins s σ H Q I h=>jn pos pins s σ H Q I h
theorem jr {A:Addr} {As:List Addr} {p2:Pos} (hg:Gl X x) (hm:X.mg x=some (.ref A)) (h:PCl X es As) (hs:starEach (.Name x p2::es) X.env=(false,eval (.Name x p2) X.env)::starEach es X.env:=by rfl) (hdx:(x==("__debug__" : Str))=false:=by decide):PCl X (.Name x p2::es) (A::As):=
  fun pos pins s σ H Q I q=>z9 (zay (v:=.ref A) hg hm rfl hdx) h hs pos pins s σ H Q I q
theorem zjG {nf:Str} {K':PySem.W.Frag} (hK:X.K=K') {As:List Addr} {p2:Pos} {k2} {te:TE3} (hg:Gl X nf) (hm:X.mg nf=none) (hnf:nf = "isinstance") (hcl:PCl X es As) (hlen:As.length≤sizeLine) (he:PE3 X H0 e te)
    (h1:starEach [e,.Tuple es k2 p2] X.env=(false,eval e X.env)::starEach [.Tuple es k2 p2] X.env:=by rfl) (h2:starEach [.Tuple es k2 p2] X.env=(false,eval (.Tuple es k2 p2) X.env)::starEach [] X.env:=by rfl)
    (hpl:(backTo pos (starEach [.Tuple es k2 p2] X.env)).any (·.1)=false:=by rfl):PE3 X H0 (.Call (.Name nf p) [e,.Tuple es k2 p2] [] pos) (isxt K' As te):=by
  subst hK;subst hnf;exact⟨fun ρ Q Q' h q=>he.mono ρ _ _ (fun c ⟨C,b,a,d,f,q⟩=>⟨C,b,a,d,f,h _ q⟩) q,PE.imp (Zz (x:="isinstance") zd7 hg hm zak (z9 he.ok (z9 (zc2 hcl) jn h2) h1) (by decide) (by decide) h1 hpl) fun σ H Q=>el5 fun G0 ρ G F q=>⟨G0,ρ,G,F,he.mono ρ _ _ (fun c hyp v G1 H1 g1 w=>by
    obtain⟨C,b,hc,Y,hk,k⟩:=hyp;subst hc;obtain⟨a,rfl,ha⟩:=zaY w;refine⟨by rw [List.length_map];exact hlen,fun tp htp=>⟨a,C,tp,As,b,rfl,?_,Y,zB,hk,k _ G1 _ (g1.trans (Gr.apart g1.sub htp)) (.sh (.sc rfl (.bl b)))⟩⟩
    rw [zh (zN ha htp)];exact ha) q⟩⟩
end
theorem zbU {P:Program} {w:World} {X:Cx}:Passes (CXR P w) X (fun _ _ _=>False):=fun _ _ _ _ _ _ _ ⟨_,_,_,_,_,h⟩=>h.elim
section
variable {X:Cx} {H0:Hp} {pos:Pos} {x:Str}
theorem g3i {i:Int} (hg:Gl X x) (hm:∃ t,X.mg x=some (.int i t)) (hd:(x==("__debug__" : Str))=false:=by decide):PE3 X H0 (.Name x pos) (k3 (.int i)):=by
  obtain⟨t,hm⟩:=hm;exact g3 (v:=.int i) hg hm ⟨t,rfl⟩ (fun _=>.int i) rfl hd
end
theorem sz {n:Nat} (h:n≤1000000):n≤sizeLine:=Nat.le_trans h (by decide)
theorem sz0:(0≤sizeLine)=True:=eq_true (by decide)
theorem sz1:(1≤sizeLine)=True:=eq_true (by decide)
theorem sz2:(2≤sizeLine)=True:=eq_true (by decide)
theorem sz3:(3≤sizeLine)=True:=eq_true (by decide)
theorem sz4:(4≤sizeLine)=True:=eq_true (by decide)
theorem sz5:(5≤sizeLine)=True:=eq_true (by decide)
theorem zbh {K:PySem.W.Frag} {H:Hp}:∀ ns:List Int,RdVs K H (ns.map V.int) (ns.map PyData.int)
  | []=>.nil
  | a::r=>.cons (.int a) (zbh r)
theorem JW {g:TG3} {tb:TS3} {A:Ends3} {f:Bool} (P:List D→Env3→Prop) (s:∀ d ds ρ,P (d::ds) ρ→∀ W:Env3→Prop,(∀ ρ',P ds ρ'→W ρ')→g f d ρ fun ρ'=>tb { A with nx:=W,ct:=W,bk:=A.nx } ρ') (e:∀ ρ,P [] ρ→A.nx ρ):∀ ds ρ,P ds ρ→forL g tb A f ds ρ
  | [],ρ,h=>e ρ h
  | d::ds,ρ,h=>s d ds ρ h _ fun ρ' p=>JW P s e ds ρ' p
theorem zk {a b:TS3} {A:Ends3} {ρ : Env3} (h:∀ N:Env3→Prop,(∀ ρ',b A ρ'→N ρ')→a { A with nx:=N } ρ):seq3 a b A ρ:=h (b A) fun _ z=>z
theorem jf {a b:TS3} {A:Ends3} {ρ : Env3} (M:Env3→Prop) (h1:∀ N:Env3→Prop,(∀ ρ',M ρ'→N ρ')→a { A with nx:=N } ρ) (h2:∀ ρ',M ρ'→b A ρ'):seq3 a b A ρ:=h1 (b A) h2
theorem zhZ {c:TT3} {t u:TS3} {A:Ends3} {ρ : Env3} (h:∀ Y N:Prop,(t A ρ→Y)→(u A ρ→N)→c ρ fun k=>if k=true then Y else N):ifS3 c t u A ρ:=h (t A ρ) (u A ρ) id id
theorem zaf {c:TT3} {tb:TS3} {A:Ends3} (P:Nat→Env3→Prop) (h:∀ n ρ,P n ρ→∀ W:Env3→Prop,(∀ m ρ',m<n→P m ρ'→W ρ')→c ρ fun k=>if k=true then tb { A with nx:=W,ct:=W,bk:=A.nx } ρ else A.nx ρ):∀ n ρ,P n ρ→whN c tb A (n+1) ρ
  | n, ρ, p => by
    have key:∀ k m ρ,m≤k→P m ρ→whN c tb A (k+1) ρ:=by
      intro k
      induction k with
      | zero=>intro m ρ hm p;exact h m ρ p _ (fun m' ρ' hlt _=>absurd hlt (by omega))
      | succ k ih=>intro m ρ hm p;exact h m ρ p _ (fun m' ρ' hlt p'=>ih m' ρ' (by omega) p')
    exact key n n ρ (Nat.le_refl _) p
theorem zZ {α : Type} {g:TG3} {tt:TT3} {te:TE3} {f:Bool} (enc out:α→D) (R:Env3→Prop):∀ (xs:List α),(∀ x∈xs,∀ ρ fa acc (K:Bool→List D→Env3→Prop),R ρ→(∀ ρ',R ρ'→K fa (acc++[out x]) ρ')→
    g f (enc x) ρ fun ρ'=>tt ρ' fun k=>if k=true then te ρ' fun c=>asS c fun fy y=>K (fa&&fy) (acc++[y]) ρ' else K fa acc ρ')→∀ fa acc ρ (Q:Bool→List D→Prop),R ρ→Q fa (acc++xs.map out)→jt g tt te f (xs.map enc) fa acc ρ Q
  | [],_,fa,acc,ρ,Q,_,q=>by show Q fa acc;simpa using q
  | x::xs,s,fa,acc,ρ,Q,hR,q=>s x List.mem_cons_self ρ fa acc (fun fa acc ρ'=>jt g tt te f (xs.map enc) fa acc ρ' Q) hR fun ρ' hR'=>
      zZ enc out R xs (fun y hy=>s y (List.mem_cons_of_mem _ hy)) fa (acc++[out x]) ρ' Q hR' (by rw [List.append_assoc];exact q)
theorem ZA {α β : Type} (e1:α→D) (e2:β→D):∀ (xs:List α) (ys:List β),zipD (xs.map e1) (ys.map e2)=(xs.zip ys).map fun p=>.tuple [e1 p.1,e2 p.2]
  | [],_=>by simp [zipD]
  | _::_,[]=>by simp [zipD]
  | x::xs,y::ys=>by simp [zipD,ZA e1 e2 xs ys]
theorem JT {α β : Type} (e:α→β) (xs:List α) (i:Int):atI (xs.map e) i=(atI xs i).map e:=by
  unfold atI;rw [List.length_map];cases ixN xs.length i with
  | none=>rfl
  | some j=>simp
end L3
namespace L3
theorem ziX (lo:Int) (n:Nat):nums lo (n+1)=.int lo::nums (lo+1) n:=by
  unfold nums;rw [List.range_succ_eq_map,List.map_cons,List.map_map]
  congr 1
  · simp
  · apply List.map_congr_left
    intro i _;simp only [Function.comp]
    congr 1
    omega
theorem ji {g:TG3} {tb:TS3} {A:Ends3} {f:Bool} {lo:Int} {n:Nat} (P:Nat→Env3→Prop) (s:∀ k ρ,k<n→P k ρ→∀ W:Env3→Prop,(∀ ρ',P (k+1) ρ'→W ρ')→g f (.int (lo+k)) ρ fun ρ'=>tb { A with nx:=W,ct:=W,bk:=A.nx } ρ') (e:∀ ρ,P n ρ→A.nx ρ) {ρ : Env3} (h:P 0 ρ):forL g tb A f (nums lo n) ρ:=by
  have key:∀ m k ρ,k+m=n→P k ρ→forL g tb A f (nums (lo+k) m) ρ:=by
    intro m
    induction m with
    | zero => intro k ρ hk p; have : k = n := by omega
              subst this;exact e ρ p
    | succ m ih=>
      intro k ρ hk p;rw [ziX];refine s k ρ (by omega) p _ fun ρ' p'=>?_
      have:=ih (k+1) ρ' (by omega) p'
      rw [show lo+((k+1:Nat):Int)=lo+k+1 by omega] at this
      exact this
  have:=key n 0 ρ (by omega) h
  simpa using this
theorem jk {α : Type} {g:TG3} {tb:TS3} {A:Ends3} {f:Bool} (enc:α→D) (l:List α) (P:List α→Env3→Prop) (s:∀ done x rest ρ,l=done++x::rest→P done ρ→∀ W:Env3→Prop,(∀ ρ',P (done++[x]) ρ'→W ρ')→g f (enc x) ρ fun ρ'=>tb { A with nx:=W,ct:=W,bk:=A.nx } ρ') (e:∀ ρ,P l ρ→A.nx ρ) {ρ : Env3} (h:P [] ρ):forL g tb A f (l.map enc) ρ:=by
  have key:∀ rest done ρ,l=done++rest→P done ρ→forL g tb A f (rest.map enc) ρ:=by
    intro rest
    induction rest with
    | nil=>intro done ρ hl p;rw [List.append_nil] at hl;subst hl;exact e ρ p
    | cons x rest ih=>
      intro done ρ hl p;exact s done x rest ρ hl p _ fun ρ' p'=>ih (done++[x]) ρ' (by rw [hl,List.append_assoc];rfl) p'
  exact key l [] ρ rfl h
end L3
namespace L3
open PySem L2
mutual
theorem zcX:∀ {d:D},PyData.canLay0 d=true→PyData.eqv d d=true
  | .none,_=>by simp [PyData.eqv]
  | .bool b,_=>by simp [PyData.eqv]
  | .int i,_=>by simp [PyData.eqv]
  | .str x,_=>by simp [PyData.eqv]
  | .list xs, h => by
    have h':PyData.canLayAll0 xs=true:=by simpa [PyData.canLay0] using h
    simpa [PyData.eqv] using eqvAll_refl h'
  | .tuple xs, h => by
    have h':PyData.canLayAll0 xs=true:=by simpa [PyData.canLay0] using h
    simpa [PyData.eqv] using eqvAll_refl h'
  | .dict _,h=>by simp [PyData.canLay0] at h
theorem eqvAll_refl:∀ {ds:List D},PyData.canLayAll0 ds=true→PyData.eqvAll ds ds=true
  | [],_=>by simp [PyData.eqvAll]
  | d :: ds, h => by
    have h':PyData.canLay0 d=true∧PyData.canLayAll0 ds=true:=by simpa [PyData.canLayAll0] using h
    simp [PyData.eqvAll,zcX h'.1,eqvAll_refl h'.2]
end
def Plain (n:Nat) (d:D):Prop:=PyData.canLay0 d=true∧PyData.depth d≤n
theorem Plain.shaped {n:Nat} {d:D} (h:Plain n d) (hn:n≤64):SeqAt.shaped d=true:=by
  unfold SeqAt.shaped;rw [h.1,Bool.true_and];exact decide_eq_true (Nat.le_trans h.2 hn)
theorem Plain.int (i:Int):Plain 0 (.int i):=⟨by simp [PyData.canLay0],by simp [PyData.depth]⟩
theorem Plain.bool (i:Bool):Plain 0 (.bool i):=⟨by simp [PyData.canLay0],by simp [PyData.depth]⟩
theorem Plain.none:Plain 0 .none:=⟨by simp [PyData.canLay0],by simp [PyData.depth]⟩
theorem zaV {n:Nat}:∀ {ds:List D},(∀ d∈ds,Plain n d)→PyData.canLayAll0 ds=true∧PyData.depthAll ds≤n
  | [],_=>by simp [PyData.canLayAll0,PyData.depthAll]
  | d :: ds, h => by
    obtain⟨h1,h2⟩:=h d List.mem_cons_self;obtain⟨h3,h4⟩:=zaV (ds:=ds) fun x hx=>h x (List.mem_cons_of_mem _ hx)
    simp [PyData.canLayAll0,PyData.depthAll,h1,h3]
    omega
theorem Plain.list {n:Nat} {ds:List D} (h:∀ d∈ds,Plain n d):Plain (n+1) (.list ds):=by
  obtain⟨h1,h2⟩:=zaV h;exact⟨by simp [PyData.canLay0,h1],by simp [PyData.depth,h2]⟩
theorem Plain.tuple {n:Nat} {ds:List D} (h:∀ d∈ds,Plain n d):Plain (n+1) (.tuple ds):=by
  obtain⟨h1,h2⟩:=zaV h;exact⟨by simp [PyData.canLay0,h1],by simp [PyData.depth,h2]⟩
theorem Plain.mono {m n:Nat} {d:D} (h:Plain m d) (hn:m≤n):Plain n d:=⟨h.1,Nat.le_trans h.2 hn⟩
theorem jJ {α : Type} {xs:List α} {i:Int} (h0:0≤i) (h:i<xs.length):∃ x,atI xs i=some x∧x∈xs∧xs[i.toNat]?=some x:=by
  have hk:i.toNat<xs.length:=by omega
  refine⟨xs[i.toNat],?_,List.getElem_mem hk,List.getElem?_eq_getElem hk⟩
  have:=ZR (xs:=xs) (j:=i.toNat) (List.getElem?_eq_getElem hk);rwa [show((i.toNat:Nat):Int)=i by omega] at this
theorem zaD {n:Nat} {i:Int} (h0:0≤i) (h:i<n):ixN n i=some i.toNat:=by
  unfold ixN;rw [if_pos h0,if_pos h]
end L3
namespace L3
open PySem PySem.Spec PyProof.Rows L2
section
variable {K:PySem.W.Frag} {H0 G0:Hp} {ρ : Env3} {σ : L2.St} {G H G' H':Hp}
end
section
variable {X:Cx} {H0:Hp} {e:Expr} {es:List Expr} {pos p:Pos} {x:Str}
end
section
variable {X:Cx}
end
end L3
namespace L2
open PySem PySem.Spec PyProof.Rows
section
variable {X:Cx}
theorem zd0 (hc:X.calm=true):zG X (.builtin "max") (fun xs H Q=>∃ i j k,xs=[.int i,.int j,.int k]∧Q (.int (if j > i then(if k > j then k else j) else(if k > i then k else i))) H):=by
  intro pins s σ H xs us Q I r h;obtain⟨i,j,k,rfl,q⟩:=h;cases r with
  | cons ru r=>
  obtain⟨t,rfl⟩:=ru;obtain⟨w',z',rfl,⟨t',rfl⟩,⟨t2,rfl⟩⟩:=J8 r;refine max_three_ints (I.ok.hd hc) fun h' tk kp=>⟨_,H,I.kept kp,?_,q⟩
  split
  · split<;>exact⟨_,rfl⟩
  · split<;>exact⟨_,rfl⟩
def zfo (K:PySem.W.Frag):V→V→Hp→VK→Prop:=fun x y H Q=>∃ p xs i v,x=.ref p∧y=.int i∧0≤i∧SqL K H p xs∧atI xs i=some v∧Q v H
theorem ziJ:PGet X (zfo X.K):=by
  intro pins s σ H x y v u Q I rx ry h;obtain⟨p,xs,i,z,rfl,rfl,h0,hq,he,q⟩:=h;cases rx;obtain⟨t,rfl⟩:=ry;obtain⟨its,r,pl,hz⟩:=I.list hq;obtain⟨j,h1,h2,h3,h4,h5⟩:=zav he;obtain⟨w,ew,rw'⟩:=r.get h2;have hl:=r.length;have hn:=jw;have hj:i.toNat=j:=by
    rw [seqIndex_of h0 h5] at h1;exact Option.some.inj h1
  exact wpAny_getItem_list pl.isList h0 (by omega) (by rw [hj];simpa using ew) ⟨z,H,I,rw',q⟩
def ziF (K:PySem.W.Frag):V→List V→Hp→VK→Prop:=fun x vs H Q=>∃ (p:Addr) (ns:List Int) (n:Int),x=.ref p∧vs=[.int n]∧SqL K H p (ns.map V.int)∧n∈ns∧Q (.int (ns.idxOf n:Nat)) H
theorem zdC:MtM X "list.index" (ziF X.K):=by
  intro pins s σ H x vs v us Q I rx rv h;obtain⟨p,ns,n,rfl,rfl,hq,hk,q⟩:=h;cases rx;obtain⟨u,rfl,t,rfl⟩:=rv.one;obtain⟨its,r,pl,hz⟩:=I.list hq;have hi:=zag r;obtain⟨⟨cls,dd,data,sl⟩,ho,hc,n',hd⟩:=pl.isList;simp only at hc hd;subst hc hd;have hlen:=hi.length;have hj:ns.idxOf n<ns.length:=List.idxOf_lt_length_iff.mpr hk;have hn:=jw;rw [List.length_map] at hz;refine call_meets PySem.F.slot_list_index ⟨_,ho,rfl⟩ PySem.F.entry_list_index (PySem.F.args_list_index_2 _ _)
    (SeqAt.list_indexAt p its.toArray n' dd sl (.int n t) (isInt n) (ns.idxOf n) (by simpa [hlen] using hj) (by omega) ?_ ?_) ⟨ho,fun y hy=>(eq_isInt n t hi y (by simpa using hy)).at _ _,⟨.int _,H,I.tok _,⟨_,rfl⟩,q⟩⟩
  · show isInt n its[ns.idxOf n]=true
    rw [isInt_at n hi _ (by omega) hj]
    simpa using List.getElem_idxOf hj
  · intro j hjs hlt
    show isInt n its[j]=false
    rw [isInt_at n hi j (by simpa using hjs) (by omega)]
    exact ne_of_lt_idxOf hlt _
end
end L2
namespace L3
open PySem PySem.Spec PyProof.Rows L2
section
variable {X:Cx} {H0:Hp} {e:Expr} {pos:Pos}
theorem zcs {K:PySem.W.Frag} {H0 G G':Hp}:∀ {vs:List V} {ds:List D},ds.all zy=true→RdVs K G vs ds→Rfs K H0 G' true vs ds
  | _,_,_,.nil=>⟨.nil,fun _=>.nil⟩
  | _, _, h, .cons a b => by
    rw [List.all_cons,Bool.and_eq_true] at h;have r:=zcs (H0:=H0) (G':=G') h.2 b;have ra:=zb7 (G':=G') h.1 a;exact⟨.cons ra r.rd,fun hf=>.cons (ZP h.1 ra) (r.nw hf)⟩
def Z7 (is:List Nat) (t:TN3):TN3:=fun ρ Q=>t (frz is ρ) fun _ ds=>ds.all zy=true∧Q true ds
theorem zgm (is:List Nat) {t:TN3} (h:PN3 X H0 e t):PN3 X H0 e (Z7 is t):=
  ⟨fun ρ Q Q' hq q=>h.mono _ _ _ (fun f ds ⟨a,b⟩=>⟨a,hq _ _ b⟩) q,PE.imp h.ok fun σ H Q=>el5 fun G0 ρ G F q=>by
    obtain⟨G',s',F'⟩:=F.frz is;exact⟨G0,frz is ρ,G',F',h.mono _ _ _ (fun f ds ⟨hs,k⟩ l vs G1 H1 g1 hl r=>k l vs G H1 ⟨Same.refl _,g1.h,F.sub.trans g1.h,fun _ _ e=>.inl e⟩ hl (zcs hs r.rd)) q⟩⟩
def aug3 (i:Nat) (te:TE3):TS3:=fun A ρ=>∃ f n,ρ[i]?=some (some (.sh f (.int n)))∧te ρ fun c=>∃ g m,c=.sh g (.int m)∧A.nx (ρ.set i (some (.sh true (.int (n+m)))))
theorem zgl {i:Nat} {x:Str} {te:TE3} {pos':Pos} (hN:X.N.Nodup) (hi:X.N[i]?=some x) (hx:Loc X.env.scope x) (he:PE3 X H0 e te)
    (hf:X.fn x=true∨X.env.scope.names.lookup x=some .local:=by first|exact .inl rfl|exact .inr rfl|assumption):PS3 X H0 (.AugAssign (.Name x pos') .Add e pos) (aug3 i te):=
  PS.imp (zem hN hi hx he.ok zbN hf) fun B σ H hyp=>by
    obtain⟨G0,A,ρ,G,F,⟨f,n,h,q⟩,L⟩:=hyp;obtain⟨v,h1,h2⟩:=F.slot i _ h;have r:=zE (zt h2).rd;subst r;refine⟨_,h1,G0,ρ,G,F,he.mono ρ _ _ (fun c ⟨g,m,hc,q⟩ v G1 H1 g1 w=>?_) q⟩
    subst hc;have r:=zE (zt w).rd;subst r;exact⟨n,m,rfl,rfl,L.nx _ _ _ _ ((F.gr g1).set (.sc rfl (.int _))) q⟩
def ZB (i:Nat) (tk te:TE3):TS3:=fun A ρ=>∃ f ds,ρ[i]?=some (some (.ow f ds))∧tk ρ fun k=>∃ h n m,k=.sh h (.int n)∧0≤n∧ds[n.toNat]?=some (.int m)∧te ρ fun c=>∃ g a,c=.sh g (.int a)∧A.nx (ρ.set i (some (.ow f (ds.set n.toNat (.int (m+a))))))
theorem zir {i:Nat} {tk te:TE3} {x:Str} {np spos:Pos} {k:Expr} (hN:X.N[i]?=some x) (hv:Vis X.env.scope x) (hk:PE3 X H0 k tk) (he:PE3 X H0 e te) (hd:(x==("__debug__" : Str))=false:=by decide) (hcd:(x==("__classdict__" : Str))=false:=by decide)
    (ha:∀ ov iv new,augStore k ov iv new=(do holding [new,ov,iv] (setItem ov iv new);release [new,ov,iv] [];pure .next):=by intros;rfl):PS3 X H0 (.AugAssign (.Subscript (.Name x np) k spos) .Add e pos) (ZB i tk te):=by
  refine PS.imp (zhL (ZD hN hv hd hcd) hk.ok ziJ he.ok zbN zck ha) fun B σ H hyp=>?_
  obtain⟨G0,A,ρ,G,F,⟨f,ds,hi,q⟩,L⟩:=hyp;obtain⟨l,vs,h1,h2,r⟩:=zao F hi;refine⟨.ref l,h1,G0,ρ,G,F,hk.mono ρ _ _ (fun kc ⟨h,n,m,hc,h0,hm,q⟩ kv G1 H1 g1 w1=>?_) q⟩
  subst hc;have rk:=zE (zt w1).rd;subst rk;obtain⟨xv,hx1,hx2⟩:=RdVs.get r.rd hm;have hx3:=zE hx2;subst hx3;have hlt:n.toNat<vs.length:=(List.getElem?_eq_some_iff.mp hx1).1;refine⟨l,vs,n,.int m,rfl,rfl,h0,SqL.of (g1.h _ _ h2),?_,G0,ρ,G1,F.gr g1,he.mono ρ _ _ (fun c ⟨g,a,hc,q⟩ v G2 H2 g2 w2=>?_) q⟩
  · unfold atI
    rw [zaD h0 (by omega)]
    exact hx1
  subst hc;have rv:=zE (zt w2).rd;subst rv;refine⟨m,a,rfl,rfl,l,vs,n,n.toNat,rfl,rfl,g2.h _ _ (g1.h _ _ h2),zaD h0 (by omega),?_⟩
  have:=((F.gr g1).gr g2).change hi h1 ((r.same (g1.g.trans g2.g)).set (Rf.sc (f:=true) rfl (RdV.int (m+a))) n.toNat);rw [Bool.and_true] at this;exact L.nx _ _ _ _ this q
def par3 (i j:Nat) (t:TA3):TS3:=fun A ρ=>t ρ fun cs=>∃ f a g b,cs=[.sh f a,.sh g b]∧A.nx ((ρ.set i (some (.sh f a))).set j (some (.sh g b)))
theorem zih {i j:Nat} {x y:Str} {a b:Expr} {ta:TA3} {px py pt:Pos} {kt k2 pt2} (hc:X.calm=true) (hN:X.N.Nodup) (hi:X.N[i]?=some x) (hj:X.N[j]?=some y) (hij:i≠j)
    (hx:X.env.scope.names.lookup x=some .local) (hy:X.env.scope.names.lookup y=some .local) (ha:PA3 X H0 [a,b] ta)
    (hw:swappedStores [.Tuple [.Name x px,.Name y py] kt pt] (.Tuple [a,b] k2 pt2) X.env=pure (some [x,y]):=by rfl)
    (hs:swapsWithSole [.Tuple [.Name x px,.Name y py] kt pt] (.Tuple [a,b] k2 pt2) pos.line X.env=pure false:=by rfl) :
    PS3 X H0 (.Assign [.Tuple [.Name x px,.Name y py] kt pt] (.Tuple [a,b] k2 pt2) pos) (par3 i j ta):=
  PS.imp (ze7 hc hN hi hj hij hx hy ha.ok hw hs) fun B σ H=>el7 fun G0 A ρ G F q L=>⟨G0,ρ,G,F,ha.mono ρ _ _ (fun cs hyp vs G1 H1 g1 w=>by
    obtain⟨f,a,g,b,hcs,q⟩:=hyp;subst hcs;obtain⟨v,u,rfl,w1,w2⟩:=vws2 w;exact⟨v,u,rfl,L.nx _ _ _ _ (((F.gr g1).set (zt w1)).set (zt w2)) q⟩) q⟩
def max33:C3:=fun cs Q=>match cs with
  | [.sh _ (.int i),.sh _ (.int j),.sh _ (.int k)]=>Q true (.int (if j > i then(if k > j then k else j) else(if k > i then k else i)))
  | _=>False
theorem zdO (hc:X.calm=true):CallOk X (.builtin "max") max33:=by
  refine⟨fun cs Q Q' h q=>?_,fun H0=>zG.imp (zd0 hc) fun xs H Q=>el2 fun G cs s w q=>?_⟩
  · unfold max33 at *;split at q
    · exact h _ _ q
    · exact q
  · unfold max33 at q;split at q
    · obtain⟨v,u,z,rfl,w1,w2,w3⟩:=vws3 w
      cases zE (zt w1).rd;cases zE (zt w2).rd;cases zE (zt w3).rd
      exact⟨_,_,_,rfl,q _ G H (Gr.refl s) (.sc rfl (.int _))⟩
    · exact q.elim
def idx3 (to te:TE3):TE3:=fun ρ Q=>to ρ fun c=>∃ ds ns,c.dat=true∧c.d=.list ds∧jq ds=some ns∧te ρ fun c2=>∃ g n,c2=.sh g (.int n)∧n∈ns∧Q (.sh true (.int (ns.idxOf n:Nat)))
theorem zfl {o:Expr} {apos:Pos} {to te:TE3} (ho:PE3 X H0 o to) (he:PE3 X H0 e te) (hb:attributeBase o "index" X.env (eval o X.env)=eval o X.env:=by rfl)
    (hf:((backTo pos (starEach [e] X.env)).all (fun x=>!x.1)&&(backToKw pos (keywordEach [] X.env)).all (fun x=>x.1.isSome)&&decide ([e].length+([]:List Keyword).length+(if([]:List Keyword).isEmpty then 0 else 1)<30))=true:=by rfl)
    (hl:(apos.endLine==pos.line)=true:=by rfl) (hs:starEach [e] X.env=(false,eval e X.env)::starEach [] X.env:=by rfl) (hp:(backTo pos (starEach [] X.env)).any (·.1)=false:=by rfl) :
    PE3 X H0 (.Call (.Attribute o "index" apos) [e] [] pos) (idx3 to te):=by
  refine⟨fun ρ Q Q' h q=>ho.mono ρ _ _ (fun c ⟨ds,ns,a,b,d,q⟩=>⟨ds,ns,a,b,d,he.mono ρ _ _ (fun c2 ⟨g,n,x,y,q⟩=>⟨g,n,x,y,h _ q⟩) q⟩) q,PE.imp (ZQ PySem.F.plainAttrs_list PySem.F.slot_list_index PySem.F.type_list_index zdC ho.ok (z9 he.ok jn hs) hb hf hl hs hp) fun σ H Q=>el5 fun G0 ρ G F q=>⟨G0,ρ,G,F,ho.mono ρ _ _ (fun c hc0 v G1 H1 g1 w=>?_) q⟩⟩
  obtain⟨ds,ns,hd,hc,hu,q⟩:=hc0;obtain⟨a,vs,rfl,hq,rs⟩:=jH w g1.sub hd hc;refine⟨.inl ⟨rfl,_,hq⟩,G0,ρ,G1,F.gr g1,he.mono ρ _ _ (fun c2 hc1 v2 G2 H2 g2 w2=>?_) q⟩
  obtain⟨g,n,rfl,hn,q⟩:=hc1;have r:=zE (zt w2).rd;subst r;have hvs:=zaj rs.rd hu;subst hvs;exact⟨a,ns,n,rfl,rfl,g2.h.seq hq,hn,q _ G2 H2 (g1.trans g2) (.sh (.sc rfl (.int _)))⟩
def ext3 (i:Nat) (te:TE3):TS3:=fun A ρ=>∃ f ds,ρ[i]?=some (some (.ow f ds))∧te ρ fun c=>∃ es,c=.sh true (.list es)∧ds.length+es.length≤sizeLine∧A.nx (ρ.set i (some (.ow f (ds++es))))
theorem zhu {i:Nat} {te:TE3} {x:Str} {np apos cpos:Pos} (hN:X.N[i]?=some x) (hv:Vis X.env.scope x) (he:PE3 X H0 e te) (hd:(x==("__debug__" : Str))=false:=by decide) (hcd:(x==("__classdict__" : Str))=false:=by decide)
    (hb:attributeBase (.Name x np) "extend" X.env (eval (.Name x np) X.env)=eval (.Name x np) X.env:=by rfl)
    (hf:((backTo cpos (starEach [e] X.env)).all (fun x=>!x.1)&&(backToKw cpos (keywordEach [] X.env)).all (fun x=>x.1.isSome)&&decide ([e].length+([]:List Keyword).length+(if([]:List Keyword).isEmpty then 0 else 1)<30))=true:=by rfl)
    (hl:(apos.endLine==cpos.line)=true:=by rfl) (hs:starEach [e] X.env=(false,eval e X.env)::starEach [] X.env:=by rfl) (hp:(backTo cpos (starEach [] X.env)).any (·.1)=false:=by rfl)
    (hw:swapsWith (.Call (.Attribute (.Name x np) "extend" apos) [e] [] cpos) none pos.line X.env=pure false:=by rfl):PS3 X H0 (.Expr (.Call (.Attribute (.Name x np) "extend" apos) [e] [] cpos) pos) (ext3 i te):=by
  refine PS.imp (zaW (ZQ PySem.F.plainAttrs_list PySem.F.slot_list_extend PySem.F.type_list_extend zeD (ZD hN hv hd hcd) (z9 he.ok jn hs) hb hf hl hs hp) hw) fun B σ H hyp=>?_
  obtain⟨G0,A,ρ,G,F,⟨f,ds,hi,q⟩,L⟩:=hyp;obtain⟨l,vs,h1,h2,r⟩:=zao F hi;refine⟨.ref l,h1,zbQ h2,G0,ρ,G,F,he.mono ρ _ _ (fun c ⟨es,hc,hz,q⟩ v G' H' g w=>?_) q⟩
  subst hc;have rw':=zt w;have rn:=rw'.nw rfl;cases rn with
  | lst hG hn rs=>
    rename_i b xs;have ra:Rfs X.K H0 G' f (vs++xs) (ds++es):=⟨((r.same g.g).rd).append (rdns_rd rs),fun hf=>zaF ((r.same g.g).nw hf) rs⟩
    exact⟨l,b,vs,xs,rfl,rfl,g.h _ _ h2,g.sub _ _ hG,by rw [r.length,(rdns_rd rs).length];exact hz,L.nx _ _ _ _ ((F.gr g).change hi h1 ra) q⟩
end
end L3
namespace L2
open PySem PySem.Spec PyProof.Rows
theorem zhg:bootBuiltins "enumerate" = some (.type "enumerate"):=by with_unfolding_all rfl
def Ite (K:PySem.W.Frag) (a:Addr):It:=
  ⟨fun i H=>∃ xs x,SqL K H a xs∧xs[i]?=some x,
   fun i H v H'=>∃ p x,H p=none∧v=.ref p∧H'=upd H p (.tup [.int i,x])∧∀ xs,SqL K H a xs→xs[i]?=some x,
   fun i H=>∃ xs,SqL K H a xs∧i=xs.length⟩
theorem zhb {P:Program} {w:World} {K:PySem.W.Frag} {elts:List Expr} {k:Nat} {pos:Pos} {e it l:Addr} (hei:e≠it) (hle:l≠e) (hli:l≠it) :
    Turn P w K (.Tuple elts k pos) (Ite K l) [e,it] e (fun i h=>(∃ old,IsEnum h e it i old)∧h.IsListIter it l i) where
  mem:=by simp
  obj:=fun i h hyp c hc=>by
    obtain⟨⟨old,he⟩,⟨o1,e1,c1,d1⟩⟩:=hyp;have hc':c=e∨c=it:=by simpa using hc
    rcases hc' with rfl|rfl
    · exact⟨_,he,fun v z=>by cases(show Data.fields _=Data.cell v from z)⟩
    · exact⟨o1,e1,fun v z=>by rw [d1] at z;cases z⟩
  keep:=fun i h h' ⟨⟨old,he⟩,h1⟩ kk=>⟨⟨old,kk e (by simp) _ he⟩,h1.at fun o e=>kk it (by simp) o e⟩
  item:=by
    intro X hP hw hK hc i pins s σ H E I hf st hg;subst hP hw hK;obtain⟨xs,x,q1,hx⟩:=hg;obtain⟨its1,r1,p1,_⟩:=I.list q1;obtain⟨u,hu,ru⟩:=r1.get hx;have W:=WalksT.enumerate (prog:=X.prog) (w:=X.w) (A:=X.A) (I.ok.hd hc) e it l hei hle hli its1.toArray;have hi:i<its1.toArray.size:=by
      have a1:=(List.getElem?_eq_some_iff.mp hu).1;simp only [List.size_toArray];omega
    obtain⟨he,h1⟩:=st;have olt:∀ b∈[e,it],b<s.heap.objs.size:=fun b hb=>by
      obtain⟨old,he'⟩:=he;have hc':b=e∨b=it:=by simpa using hb
      rcases hc' with rfl|rfl
      · exact Heap.lt_size he'
      · obtain⟨_,e,_⟩:=h1;exact Heap.lt_size e
    refine W.item i s _ _ hi ⟨he,h1,p1.isList⟩ fun T vals h1' tk hv' hT hTup mid kp=>?_
    obtain⟨t',u',hu',e'⟩:=hv';subst e';have eu:u'=u:=by
      have:its1[i]?=some u':=by simpa using hu'
      rw [hu] at this;cases this;rfl
    subst eu;refine⟨_,rfl,W.go elts k pos i T _ _ _ mid fun h2' st2 kp2=>?_⟩
    have I1:Inv X pins σ H { s with heap:=h2',toks:=tk }:=I.turnedL (ch:=[e,it]) (fun b o hb e=>kp2 b o hb (kp b o hb e)) fun b hb=>hf b hb
    have hTn:H T=none:=I.hok.fresh hT;obtain⟨o,ho,oc,on,od⟩:=hTup;have ho2:=kp2 T o (W.apart i T _ mid) ho;have I2:Inv X pins σ (upd H T (.tup [.int i,x])) { s with heap:=h2',toks:=tk }:=I1.track hTn (Nat.le_trans I.sz hT) (Nat.ne_of_gt (Nat.lt_of_lt_of_le I.lt hT)) (fun n c e z=>by
        obtain⟨vv,q⟩:=I.cell n c e;exact absurd (Nat.lt_of_lt_of_le q.lt (by rw [z];exact hT)) (Nat.lt_irrefl _)) (fun p hp z=>absurd (Nat.lt_of_lt_of_le (Heap.lt_size (I.pin p hp).1) (by rw [z];exact hT)) (Nat.lt_irrefl _))
      ⟨by show 2≤sizeLine;decide,[.int i t',u'],.cons ⟨t',rfl⟩ (.cons ru .nil),o,ho2,oc,on,od⟩
    refine⟨.ref T,_,I2,rfl,⟨T,x,hTn,rfl,rfl,fun xs' z1=>?_⟩,⟨st2.1,st2.2.1⟩,fun b hb=>?_⟩
    · rw [I.list_inj z1 q1];exact hx
    · rw [zh (Nat.ne_of_lt (Nat.lt_of_lt_of_le (olt b hb) hT))];exact(hf b hb).1
  done:=by
    intro X hP hw hK hc i pins s σ H E I hf st hg;subst hP hw hK;obtain⟨xs,q1,hi⟩:=hg;obtain⟨its1,r1,p1,_⟩:=I.list q1;have W:=WalksT.enumerate (prog:=X.prog) (w:=X.w) (A:=X.A) (I.ok.hd hc) e it l hei hle hli its1.toArray;obtain⟨he,h1⟩:=st;have ei:i=its1.toArray.size:=by simp only [List.size_toArray];rw [←r1.length];exact hi
    subst ei;refine W.done s _ _ ⟨he,h1,p1.isList⟩ fun h' tk kp=>⟨rfl,?_⟩
    exact I.turnedL (ch:=[e,it]) kp fun b hb=>hf b hb
  self:=fun _ _ _ _ _ st h=>by obtain⟨⟨old,he⟩,_⟩:=st;exact wpAny_pyIter_enum he h
def zfQ (K:PySem.W.Frag) (ta:TA):TI:=fun σ H R=>ta σ H fun vs H1=>∃ a,vs=[.ref a]∧(∃ xs,SqL K H1 a xs)∧R (Ite K a) H1
theorem zfw {X:Cx} {elts:List Expr} {k:Nat} {tpos:Pos} {a:Expr} {ta:TA} {p pos:Pos} (hg:Gl X "enumerate") (hm:X.mg "enumerate" = none) (ha:PA X [a] ta) (hs:starEach [a] X.env=[(false,eval a X.env)]:=by rfl):PI X (.Tuple elts k tpos) (.Call (.Name "enumerate" p) [a] [] pos) (zfQ X.K ta):=by
  intro pins s σ H R I h;refine Call_ (Jy I hg hm zhg (PyProof.Rows.callWith_type1 (thn (ha pos pins s σ H _ I h) fun us s1 ⟨vs,H1,I1,r1,q1⟩=>?_) (by rw [hs];rfl) rfl))
  obtain⟨l1,e,⟨xs,hx⟩,q⟩:=q1;subst e;obtain⟨u,rfl,ru⟩:=jS r1;cases(show u=Value.ref l1 from ru)
  obtain⟨its1,_,p1,_⟩:=I1.list hx;have lt1:l1<s1.heap.objs.size:=by obtain⟨o,e,_⟩:=p1.isList;exact Heap.lt_size e
  refine call_enumerate_list p1.isList fun h' he hi1 hsz kp=>wpAny_pyIter_enum he ?_
  have I2:Inv X pins σ H1 { s1 with heap:=h' }:=I1.kept (t':=s1.toks) kp
  refine⟨_,[s1.heap.objs.size+1,s1.heap.objs.size],_,Ite X.K l1,H1,rfl,I2,zhb (Nat.succ_ne_self _) (Nat.ne_of_lt (Nat.lt_succ_of_lt lt1)) (Nat.ne_of_lt lt1),⟨⟨_,he⟩,hi1⟩,fun b hb=>?_,q⟩
  have hb':s1.heap.objs.size≤b:=by
    have hc':b=s1.heap.objs.size+1∨b=s1.heap.objs.size:=by simpa using hb
    rcases hc' with rfl|rfl<;>omega
  have f:=I1.fpOk (H':=H1) hb' (I1.hok.fresh hb');exact⟨f.1,f.2.1,f.2.2.1,f.2.2.2.1,f.2.2.2.2.1,f.2.2.2.2.2⟩
end L2
namespace L3
open PySem PySem.Spec PyProof.Rows L2
section
variable {X:Cx} {H0:Hp} {pos p:Pos}
def jU (ds:List D):List D:=(List.range ds.length).map fun i=>.tuple [.int (i:Nat),ds.getD i .none]
theorem zdE (ds:List D):(jU ds).length=ds.length:=by unfold jU;simp
theorem zhC {ds:List D} {i:Nat} {d:D} (h:(jU ds)[i]?=some d):∃ a,d=.tuple [.int (i:Nat),a]∧ds[i]?=some a:=by
  unfold jU at h;rw [List.getElem?_map] at h
  by_cases hi:i<ds.length
  · rw [List.getElem?_range hi] at h
    cases h;exact⟨ds[i],by simp [hi],List.getElem?_eq_getElem hi⟩
  · rw [List.getElem?_eq_none (by simp;omega)] at h;cases h
def itE (t:TA3):TI3:=fun ρ Q=>t ρ fun cs=>∃ f as,cs=[.sh f (.list as)]∧Q f (jU as)
theorem zjl {K:PySem.W.Frag} {H0 G:Hp} {a:Addr} {xs:List V} {f:Bool} {as:List D} (h1:SqL K G a xs) (r1:Rfs K H0 G f xs as):ItOk K H0 (Ite K a) f (jU as) G where
  go:=fun i d G' H hd s1 s2=>by
    obtain⟨q,rfl,hq⟩:=zhC hd;obtain⟨x,hx,rx⟩:=r1.get hq;have ss:=s1.trans s2;refine⟨⟨xs,x,ss.seq h1,hx⟩,fun v H' ⟨l,x',hl,e1,e2,hh⟩=>?_⟩
    subst e1 e2;have z1:=hh xs (ss.seq h1);rw [hx] at z1;cases z1;have gl:=ja (s2.free hl) (.tup [.int i,x]);exact⟨upd G' l (.tup [.int i,x]),Gr.put s2 hl,⟨.tup (SqT.of zB) (.cons (.int _) (.cons (Zk (s1.trans gl) rx.rd) .nil)),fun hf=>
      .tup (SqT.of zB) (.cons (.int _) (.cons (jX (s1.trans gl) (fun _ _ _ z=>z) (rx.nw hf)) .nil))⟩⟩
  stop:=fun i G' H hl s1 s2=>⟨xs,(s1.trans s2).seq h1,by rw [hl,zdE,r1.length]⟩
theorem zje {elts:List Expr} {k:Nat} {tpos:Pos} {a:Expr} {t:TA3} (hg:Gl X "enumerate") (hm:X.mg "enumerate" = none) (ha:PA3 X H0 [a] t) (hs:starEach [a] X.env=[(false,eval a X.env)]:=by rfl):PI3 X H0 (.Tuple elts k tpos) (.Call (.Name "enumerate" p) [a] [] pos) (itE t):=
  ⟨fun ρ Q Q' h q=>ha.mono ρ _ _ (fun cs ⟨f,as,e,q⟩=>⟨f,as,e,h _ _ q⟩) q,PI.imp (zfw hg hm ha.ok hs) fun σ H R=>el5 fun G0 ρ G F q=>⟨G0,ρ,G,F,ha.mono ρ _ _ (fun cs hyp vs G1 H1 g1 w=>by
    obtain⟨f,as,e,k⟩:=hyp;subst e;obtain⟨v,rfl,w1⟩:=vws1 w;obtain⟨a,xs,rfl,hq,rs⟩:=Jj (zt w1);exact⟨a,rfl,⟨xs,g1.sub.seq hq⟩,k _ G1 H1 g1 (zjl hq rs)⟩) q⟩⟩
end
def TupI (K:PySem.W.Frag) (a:Addr) (ns:List Int):Prop:=∃ (o:Obj) (its:Array Value) (n:Nat),K.lookup a=some o∧o.cls=.type "tuple"∧o.data=.seq its n∧its.size≤sizeLine∧Vals (ns.map V.int) its.toList
theorem zcI {K:PySem.W.Frag} {H0 H:Hp}:∀ ns:List Int,RdNs K H0 H (ns.map V.int) (ns.map PyData.int)
  | []=>.nil
  | a::r=>.cons (.int a) (zcI r)
section
variable {X:Cx} {H0:Hp} {e:Expr} {pos:Pos} {x:Str}
theorem g3t {ns:List Int} (hg:Gl X x) (hm:∃ a,X.mg x=some (.ref a)∧TupI X.K a ns) (hd:(x==("__debug__" : Str))=false:=by decide):PE3 X H0 (.Name x pos) (k3 (.tuple (ns.map .int))):=by
  obtain⟨a,hm,ht⟩:=hm;exact⟨fun ρ Q Q' h q=>h _ q,PE.imp (zay (v:=.ref a) hg hm rfl hd) fun σ H Q=>el5 fun G0 ρ G F q=>q (.ref a) G H (Gr.refl F.sub) (.sh ⟨.tup (.inr ht) (zbh ns),fun _=>.tup (.inr ht) (zcI ns)⟩)⟩
end
end L3
namespace L2
open PySem PySem.Spec PyProof.Rows
section
variable {X:Cx}
theorem za7:∀ {bs:List Bool} {its:List Value},Vals (bs.map V.bl) its→its=bs.map Value.bool
  | [],_,.nil=>rfl
  | b :: bs, _, .cons r t => by
    have e:_=Value.bool b:=r;rw [e,za7 t];rfl
theorem eqB {A:Around} {s:Shared} {k:Bool} {bs:List Bool} {y:Value} (h:y∈bs.map Value.bool):SeqAt.EqAt A s y (.bool k) (isBoolOf k y):=by
  obtain⟨b,_,rfl⟩:=List.mem_map.mp h;exact SeqAt.EqAt.bool_bool b k
def zgb (K:PySem.W.Frag):V→List V→Hp→VK→Prop:=fun x vs H Q=>∃ (p:Addr) (bs:List Bool),x=.ref p∧vs=[.bl true]∧SqL K H p (bs.map V.bl)∧true∈bs∧Q (.int (bs.idxOf true:Nat)) H
def zgr (K:PySem.W.Frag):V→List V→Hp→VK→Prop:=fun x vs H Q=>∃ (p:Addr) (bs:List Bool),x=.ref p∧vs=[.bl true]∧SqL K H p (bs.map V.bl)∧Q (.int (bs.countP id:Nat)) H
theorem ziw:MtM X "list.index" (zgb X.K):=by
  intro pins s σ H x vs v us Q I rx rv h;obtain⟨p,bs,rfl,rfl,hq,hk,q⟩:=h;cases rx;obtain⟨u,rfl,e⟩:=rv.one;cases e;obtain⟨its,r,pl,hz⟩:=I.list hq;cases za7 r;obtain⟨⟨cls,dd,data,sl⟩,ho,hc,n',hd⟩:=pl.isList;simp only at hc hd;subst hc hd;have hj:bs.idxOf true<bs.length:=List.idxOf_lt_length_iff.mpr hk;have hn:=jw;rw [List.length_map] at hz;refine call_meets PySem.F.slot_list_index ⟨_,ho,rfl⟩ PySem.F.entry_list_index (PySem.F.args_list_index_2 _ _)
    (SeqAt.list_indexAt p (bs.map Value.bool).toArray n' dd sl (.bool true) (isBoolOf true) (bs.idxOf true) (by simpa using hj) (by omega) ?_ ?_) ⟨ho,fun y hy=>eqB (by simpa using hy),⟨.int _,H,I.tok _,⟨_,rfl⟩,q⟩⟩
  · simpa [isBoolOf] using List.getElem_idxOf hj
  · intro j hjs hlt
    have hj':j<bs.length:=by simpa using hjs
    have:(bs[j]==true)=false:=List.not_of_lt_findIdx (p:=(· == true)) (xs:=bs) hlt
    simpa [isBoolOf] using this
theorem zh8:MtM X "list.count" (zgr X.K):=by
  intro pins s σ H x vs v us Q I rx rv h;obtain⟨p,bs,rfl,rfl,hq,q⟩:=h;cases rx;obtain⟨u,rfl,e⟩:=rv.one;cases e;obtain⟨its,r,pl,hz⟩:=I.list hq;cases za7 r;obtain⟨⟨cls,dd,data,sl⟩,ho,hc,n',hd⟩:=pl.isList;simp only at hc hd;subst hc hd;have e:(bs.map Value.bool).countP (isBoolOf true)=bs.countP id:=by
    rw [List.countP_map];congr 1;funext b;cases b<;>rfl
  refine call_meets PySem.F.slot_list_count ⟨_,ho,rfl⟩ PySem.F.entry_list_count (PySem.F.args_list_count_2 _ _)
    (SeqAt.list_countAt p (bs.map Value.bool).toArray n' dd sl (.bool true) (isBoolOf true)) ⟨ho,fun y hy=>eqB (by simpa using hy),?_⟩
  rw [show(bs.map Value.bool).toArray.toList=bs.map Value.bool from rfl,e]
  exact⟨.int _,H,I.tok _,⟨_,rfl⟩,q⟩
end
end L2
namespace L3
open PySem PySem.Spec PyProof.Rows L2
section
variable {X:Cx} {H0:Hp} {e a b:Expr} {pos:Pos}
theorem zge:OpOk X (binaryOp .RShift) (int3 (fun _ j=>0≤j) fun i j=>.int (i/2 ^ j.toNat)):=opI3 zeK
theorem zfg:OpOk X (binaryOp .BitAnd) (int0 fun i j=>.int (Builtin.bitAnd i j)):=zbD zjE
def repN (ta:TN3) (tb:TE3):TN3:=fun ρ Q=>ta ρ fun f ds=>tb ρ fun c=>asI c fun k=>(-(2 ^ 63)≤k∧k<2 ^ 63)∧ds.length*k.toNat≤sizeLine∧Q f (List.replicate k.toNat ds).flatten
theorem Rfs.rep {K:PySem.W.Frag} {H0 G:Hp} {f:Bool} {vs:List V} {ds:List D} (r:Rfs K H0 G f vs ds) (n:Nat):Rfs K H0 G f (List.replicate n vs).flatten (List.replicate n ds).flatten:=by
  induction n with
  | zero=>exact Rfs.nil
  | succ n ih=>
    rw [List.replicate_succ,List.replicate_succ,List.flatten_cons,List.flatten_cons];have:=Rfs.append r ih;rwa [Bool.and_self] at this
theorem rep3 {ta:TN3} {tb:TE3} (ha:PN3 X H0 a ta) (hb:PE3 X H0 b tb):PN3 X H0 (.BinOp a .Mult b pos) (repN ta tb):=
  ⟨fun ρ Q Q' h q=>ha.mono ρ _ _ (fun f ds=>hb.mono ρ _ _ fun c q=>by obtain⟨k,rfl,h1,h2,q⟩:=za9 q;exact⟨h1,h2,h _ _ q⟩) q,
   PE.imp (zaG zhz ha.ok hb.ok) fun σ H Q=>el5 fun G0 ρ G F q=>⟨G0,ρ,G,F,ha.mono ρ _ _ (fun f ds qa l vs G1 H1 g1 hl r=>⟨G0,ρ,upd G1 l (.lst vs),F.gr (g1.trans (Gr.put g1.sub hl)),hb.mono ρ _ _ (fun c hyp v2 G2 H2 g2 w2=>by
    obtain⟨k,rfl,⟨h1,h2⟩,h3,q⟩:=za9 hyp;have e:=zE (zt w2).rd;subst e;refine⟨l,k,vs,rfl,rfl,g2.h _ _ zB,h1,h2,by rw [r.length];exact h3,fun p hp=>q p _ G2 H2 ((g1.trans (Gr.put g1.sub hl)).trans g2) hp (((r.same (ja (g1.sub.free hl) _)).same g2.g).rep _)⟩) qa⟩) q⟩⟩
theorem zcy {α : Type} {g:TG3} {tt:TT3} {te:TE3} {f:Bool} (enc out:α→D) (R:Env3→Prop):∀ (xs:List α),(∀ x∈xs,∀ ρ fa acc (K:Bool→List D→Env3→Prop),R ρ→(∀ fb ρ',R ρ'→K fb (acc++[out x]) ρ')→
    g f (enc x) ρ fun ρ'=>tt ρ' fun k=>if k=true then te ρ' fun c=>asS c fun fy y=>K (fa&&fy) (acc++[y]) ρ' else K fa acc ρ')→∀ fa acc ρ (Q:Bool→List D→Prop),R ρ→(∀ fb,Q fb (acc++xs.map out))→jt g tt te f (xs.map enc) fa acc ρ Q
  | [],_,fa,acc,ρ,Q,_,q=>by show Q fa acc;simpa using q fa
  | x::xs,s,fa,acc,ρ,Q,hR,q=>s x List.mem_cons_self ρ fa acc (fun fa acc ρ'=>jt g tt te f (xs.map enc) fa acc ρ' Q) hR fun fb ρ' hR'=>
      zcy enc out R xs (fun y hy=>s y (List.mem_cons_of_mem _ hy)) fb (acc++[out x]) ρ' Q hR' (by intro fb;rw [List.append_assoc];exact q fb)
def ZE (to te:TE3):TE3:=fun ρ Q=>to ρ fun c=>∃ ds bs,c.dat=true∧c.d=.list ds∧Zd ds=some bs∧te ρ fun c2=>∃ g,c2=.sh g (.bool true)∧true∈bs∧Q (.sh true (.int (bs.idxOf true:Nat)))
def ZO (to te:TE3):TE3:=fun ρ Q=>to ρ fun c=>∃ ds bs,c.dat=true∧c.d=.list ds∧Zd ds=some bs∧te ρ fun c2=>∃ g,c2=.sh g (.bool true)∧Q (.sh true (.int (bs.countP id:Nat)))
theorem zgV {o:Expr} {apos:Pos} {to te:TE3} (ho:PE3 X H0 o to) (he:PE3 X H0 e te) (hb:attributeBase o "index" X.env (eval o X.env)=eval o X.env:=by rfl)
    (hf:((backTo pos (starEach [e] X.env)).all (fun x=>!x.1)&&(backToKw pos (keywordEach [] X.env)).all (fun x=>x.1.isSome)&&decide ([e].length+([]:List Keyword).length+(if([]:List Keyword).isEmpty then 0 else 1)<30))=true:=by rfl)
    (hl:(apos.endLine==pos.line)=true:=by rfl) (hs:starEach [e] X.env=(false,eval e X.env)::starEach [] X.env:=by rfl) (hp:(backTo pos (starEach [] X.env)).any (·.1)=false:=by rfl) :
    PE3 X H0 (.Call (.Attribute o "index" apos) [e] [] pos) (ZE to te):=by
  refine⟨fun ρ Q Q' h q=>ho.mono ρ _ _ (fun c ⟨ds,ns,a,b,d,q⟩=>⟨ds,ns,a,b,d,he.mono ρ _ _ (fun c2 ⟨g,x,y,q⟩=>⟨g,x,y,h _ q⟩) q⟩) q,PE.imp (ZQ PySem.F.plainAttrs_list PySem.F.slot_list_index PySem.F.type_list_index ziw ho.ok (z9 he.ok jn hs) hb hf hl hs hp) fun σ H Q=>el5 fun G0 ρ G F q=>⟨G0,ρ,G,F,ho.mono ρ _ _ (fun c hc0 v G1 H1 g1 w=>?_) q⟩⟩
  obtain⟨ds,ns,hd,hc,hu,q⟩:=hc0;obtain⟨a,vs,rfl,hq,rs⟩:=jH w g1.sub hd hc;refine⟨.inl ⟨rfl,_,hq⟩,G0,ρ,G1,F.gr g1,he.mono ρ _ _ (fun c2 hc1 v2 G2 H2 g2 w2=>?_) q⟩
  obtain⟨g,rfl,hn,q⟩:=hc1;have r:=Z2 w2;subst r;have hvs:=zbB rs.rd hu;subst hvs;exact⟨a,ns,rfl,rfl,g2.h.seq hq,hn,q _ G2 H2 (g1.trans g2) (.sh (.sc rfl (.int _)))⟩
theorem zie {o:Expr} {apos:Pos} {to te:TE3} (ho:PE3 X H0 o to) (he:PE3 X H0 e te) (hb:attributeBase o "count" X.env (eval o X.env)=eval o X.env:=by rfl)
    (hf:((backTo pos (starEach [e] X.env)).all (fun x=>!x.1)&&(backToKw pos (keywordEach [] X.env)).all (fun x=>x.1.isSome)&&decide ([e].length+([]:List Keyword).length+(if([]:List Keyword).isEmpty then 0 else 1)<30))=true:=by rfl)
    (hl:(apos.endLine==pos.line)=true:=by rfl) (hs:starEach [e] X.env=(false,eval e X.env)::starEach [] X.env:=by rfl) (hp:(backTo pos (starEach [] X.env)).any (·.1)=false:=by rfl) :
    PE3 X H0 (.Call (.Attribute o "count" apos) [e] [] pos) (ZO to te):=by
  refine⟨fun ρ Q Q' h q=>ho.mono ρ _ _ (fun c ⟨ds,ns,a,b,d,q⟩=>⟨ds,ns,a,b,d,he.mono ρ _ _ (fun c2 ⟨g,x,q⟩=>⟨g,x,h _ q⟩) q⟩) q,PE.imp (ZQ PySem.F.plainAttrs_list PySem.F.slot_list_count PySem.F.type_list_count zh8 ho.ok (z9 he.ok jn hs) hb hf hl hs hp) fun σ H Q=>el5 fun G0 ρ G F q=>⟨G0,ρ,G,F,ho.mono ρ _ _ (fun c hc0 v G1 H1 g1 w=>?_) q⟩⟩
  obtain⟨ds,ns,hd,hc,hu,q⟩:=hc0;obtain⟨a,vs,rfl,hq,rs⟩:=jH w g1.sub hd hc;refine⟨.inl ⟨rfl,_,hq⟩,G0,ρ,G1,F.gr g1,he.mono ρ _ _ (fun c2 hc1 v2 G2 H2 g2 w2=>?_) q⟩
  obtain⟨g,rfl,q⟩:=hc1;have r:=Z2 w2;subst r;have hvs:=zbB rs.rd hu;subst hvs;exact⟨a,ns,rfl,rfl,g2.h.seq hq,q _ G2 H2 (g1.trans g2) (.sh (.sc rfl (.int _)))⟩
end
end L3
open PySem PySem.Spec PyProof.Rows L2
namespace Law
open PySem L2 L3
theorem jT {α : Type} {us:List α} (h:us.length=1):∃ a0,us=[a0]:=match us,h with|[a0],_=>⟨a0,rfl⟩
theorem zR {α : Type} {us:List α} (h:us.length=2):∃ a0 a1,us=[a0,a1]:=match us,h with|[a0,a1],_=>⟨a0,a1,rfl⟩
theorem ZZ {α : Type} {us:List α} (h:us.length=3):∃ a0 a1 a2,us=[a0,a1,a2]:=match us,h with|[a0,a1,a2],_=>⟨a0,a1,a2,rfl⟩
theorem zgR {α : Type} {us:List α} (h:us.length=4):∃ a0 a1 a2 a3,us=[a0,a1,a2,a3]:=match us,h with|[a0,a1,a2,a3],_=>⟨a0,a1,a2,a3,rfl⟩
theorem zdF {α : Type} {us:List α} (h:us.length=5):∃ a0 a1 a2 a3 a4,us=[a0,a1,a2,a3,a4]:=match us,h with|[a0,a1,a2,a3,a4],_=>⟨a0,a1,a2,a3,a4,rfl⟩
def top (i:Nat):Stmt:=PySem.Challenge.pw_chairclans_k13_rows_and_windows_refused.main.body.getD i (.Pass ⟨0,0,0,0⟩)
abbrev Jv:Stmt:=top 52
abbrev Jr:Stmt:=top 53
abbrev Jq:Stmt:=top 54
abbrev Jw:Stmt:=top 55
abbrev jK:Stmt:=top 56
abbrev jv:Stmt:=top 59
abbrev JC:Stmt:=top 57
abbrev j6:Stmt:=top 60
abbrev JD:Stmt:=top 62
abbrev j5:Stmt:=top 63
abbrev jo:Stmt:=top 61
abbrev j9:Stmt:=top 32
abbrev jR:Stmt:=top 33
abbrev j1:Stmt:=top 34
abbrev Jc:Stmt:=top 18
abbrev JA:Stmt:=top 35
abbrev Js:Stmt:=top 36
abbrev jQ:Stmt:=top 37
abbrev jB:Stmt:=top 38
abbrev j7:Stmt:=top 40
abbrev jA:Stmt:=top 41
abbrev JB:Stmt:=top 17
abbrev j4:Stmt:=top 19
abbrev JF:Stmt:=top 42
abbrev Jt:Stmt:=top 20
abbrev Jl:Stmt:=top 24
abbrev Ja:Stmt:=top 25
abbrev jW:Stmt:=top 27
abbrev Jx:Stmt:=top 43
abbrev Jk:Stmt:=top 45
abbrev j8:Stmt:=top 46
abbrev jZ:Stmt:=top 47
abbrev j0:Stmt:=top 48
abbrev Ji:Stmt:=top 49
abbrev JG:Stmt:=top 26
abbrev jM:Stmt:=top 50
abbrev Jm:Stmt:=top 64
abbrev jE:Stmt:=top 65
structure Cl where
  ClanError:Addr
  NoRatio:Addr
  NoText:Addr
  NoSpell:Addr
  NoRow:Addr
  NoBounds:Addr
  NoDistance:Addr
  NoClan:Addr
  TooLong:Addr
  NoRule:Addr
  NoLine:Addr
  NoNumber:Addr
  NoName:Addr
  Known:Addr
  TooMany:Addr
structure Txt (c:Law.Cl) (K:PySem.W.Frag) (mg:Str→Option Value):Prop where
  d_law_cell_at:∃ f fd,Fun K "_law_cell_at" "_law_cell_at" Jv f fd∧mg "_law_cell_at" = some (.ref f)
  d_law_mixed:∃ f fd,Fun K "_law_mixed" "_law_mixed" Jr f fd∧mg "_law_mixed" = some (.ref f)
  d_law_wide:∃ f fd,Fun K "_law_wide" "_law_wide" Jq f fd∧mg "_law_wide" = some (.ref f)
  d_law_spells:∃ f fd,Fun K "_law_spells" "_law_spells" Jw f fd∧mg "_law_spells" = some (.ref f)
  d_law_quotas:∃ f fd,Fun K "_law_quotas" "_law_quotas" jK f fd∧mg "_law_quotas" = some (.ref f)
  d_law_row:∃ f fd,Fun K "_law_row" "_law_row" jv f fd∧mg "_law_row" = some (.ref f)
  d_law_ratio:∃ f fd,Fun K "_law_ratio" "_law_ratio" JC f fd∧mg "_law_ratio" = some (.ref f)
  d_law_bounds:∃ f fd,Fun K "_law_bounds" "_law_bounds" j6 f fd∧mg "_law_bounds" = some (.ref f)
  d_law_no_bounds:∃ f fd,Fun K "_law_no_bounds" "_law_no_bounds" JD f fd∧mg "_law_no_bounds" = some (.ref f)
  d_law_no_row:∃ f fd,Fun K "_law_no_row" "_law_no_row" j5 f fd∧mg "_law_no_row" = some (.ref f)
  d_law_no_spells:∃ f fd,Fun K "_law_no_spells" "_law_no_spells" jo f fd∧mg "_law_no_spells" = some (.ref f)
  d_check_weights:∃ f fd,Fun K "check_weights" "check_weights" j9 f fd∧mg "check_weights" = some (.ref f)
  d_all_turns:∃ f fd,Fun K "all_turns" "all_turns" jR f fd∧mg "all_turns" = some (.ref f)
  d_check_spells:∃ f fd,Fun K "check_spells" "check_spells" j1 f fd∧mg "check_spells" = some (.ref f)
  d_common_divisor:∃ f fd,Fun K "common_divisor" "common_divisor" Jc f fd∧mg "common_divisor" = some (.ref f)
  d_divisor_of_all:∃ f fd,Fun K "divisor_of_all" "divisor_of_all" JA f fd∧mg "divisor_of_all" = some (.ref f)
  d_least_bottom:∃ f fd,Fun K "least_bottom" "least_bottom" Js f fd∧mg "least_bottom" = some (.ref f)
  d_shares_over:∃ f fd,Fun K "shares_over" "shares_over" jQ f fd∧mg "shares_over" = some (.ref f)
  d_quotas:∃ f fd,Fun K "quotas" "quotas" jB f fd∧mg "quotas" = some (.ref f)
  d_check_row:∃ f fd,Fun K "check_row" "check_row" j7 f fd∧mg "check_row" = some (.ref f)
  d_leads:∃ f fd,Fun K "leads" "leads" jA f fd∧mg "leads" = some (.ref f)
  d_is_whole:∃ f fd,Fun K "is_whole" "is_whole" JB f fd∧mg "is_whole" = some (.ref f)
  d_ratio:∃ f fd,Fun K "ratio" "ratio" j4 f fd∧mg "ratio" = some (.ref f)
  d_distance:∃ f fd,Fun K "distance" "distance" JF f fd∧mg "distance" = some (.ref f)
  d_less:∃ f fd,Fun K "less" "less" Jt f fd∧mg "less" = some (.ref f)
  d_check_bounds:∃ f fd,Fun K "check_bounds" "check_bounds" Jl f fd∧mg "check_bounds" = some (.ref f)
  d_room_at_most:∃ f fd,Fun K "room_at_most" "room_at_most" Ja f fd∧mg "room_at_most" = some (.ref f)
  d_rooms_of:∃ f fd,Fun K "rooms_of" "rooms_of" jW f fd∧mg "rooms_of" = some (.ref f)
  d_keeps:∃ f fd,Fun K "keeps" "keeps" Jx f fd∧mg "keeps" = some (.ref f)
  d_first_turn:∃ f fd,Fun K "first_turn" "first_turn" Jk f fd∧mg "first_turn" = some (.ref f)
  d_window_of:∃ f fd,Fun K "window_of" "window_of" j8 f fd∧mg "window_of" = some (.ref f)
  d_windows_of_clan:∃ f fd,Fun K "windows_of_clan" "windows_of_clan" jZ f fd∧mg "windows_of_clan" = some (.ref f)
  d_windows_within:∃ f fd,Fun K "windows_within" "windows_within" j0 f fd∧mg "windows_within" = some (.ref f)
  d_windows:∃ f fd,Fun K "windows" "windows" Ji f fd∧mg "windows" = some (.ref f)
  d_room_less:∃ f fd,Fun K "room_less" "room_less" JG f fd∧mg "room_less" = some (.ref f)
  d_windows_less:∃ f fd,Fun K "windows_less" "windows_less" jM f fd∧mg "windows_less" = some (.ref f)
  d_law_answer:∃ f fd,Fun K "_law_answer" "_law_answer" Jm f fd∧mg "_law_answer" = some (.ref f)
  d_law:∃ f fd,Fun K "law" "law" jE f fd∧mg "law" = some (.ref f)
  m_ClanError:mg "ClanError" = some (.ref c.ClanError)
  m_NoRatio:mg "NoRatio" = some (.ref c.NoRatio)
  m_NoText:mg "NoText" = some (.ref c.NoText)
  m_NoSpell:mg "NoSpell" = some (.ref c.NoSpell)
  m_NoRow:mg "NoRow" = some (.ref c.NoRow)
  m_NoBounds:mg "NoBounds" = some (.ref c.NoBounds)
  m_NoDistance:mg "NoDistance" = some (.ref c.NoDistance)
  m_NoClan:mg "NoClan" = some (.ref c.NoClan)
  m_TooLong:mg "TooLong" = some (.ref c.TooLong)
  m_NoRule:mg "NoRule" = some (.ref c.NoRule)
  m_NoLine:mg "NoLine" = some (.ref c.NoLine)
  m_NoNumber:mg "NoNumber" = some (.ref c.NoNumber)
  m_NoName:mg "NoName" = some (.ref c.NoName)
  m_Known:mg "Known" = some (.ref c.Known)
  m_TooMany:mg "TooMany" = some (.ref c.TooMany)
  e_NoSpell:PySem.W.excIn K c.NoSpell bmVE "ValueError.__new__" = true
  e_NoBounds:PySem.W.excIn K c.NoBounds bmVE "ValueError.__new__" = true
  e_NoRow:PySem.W.excIn K c.NoRow bmVE "ValueError.__new__" = true
  e_NoDistance:PySem.W.excIn K c.NoDistance bmVE "ValueError.__new__" = true
  e_NoRatio:PySem.W.excIn K c.NoRatio bmVE "ValueError.__new__" = true
  k_NoSpell:XAttr K c.NoSpell∧PySem.W.exmOne K (.ref c.NoSpell) (.ref c.ClanError)=some true∧PySem.W.kitAny K (.ref c.NoSpell) ([c.Known,c.NoClan,c.NoLine,c.NoName,c.NoNumber,c.NoRatio,c.NoRule,c.NoText,c.TooLong,c.TooMany].map Value.ref)=some false∧PySem.W.kitOne K (.ref c.NoSpell) (.ref c.NoSpell)=some true∧PySem.W.kitOne K (.ref c.NoSpell) (.ref c.NoBounds)=some false∧PySem.W.kitOne K (.ref c.NoSpell) (.ref c.NoRow)=some false∧PySem.W.kitOne K (.ref c.NoSpell) (.ref c.NoDistance)=some false∧PySem.W.kitOne K (.ref c.NoSpell) (.type "ValueError")=some true
  k_NoBounds:XAttr K c.NoBounds∧PySem.W.exmOne K (.ref c.NoBounds) (.ref c.ClanError)=some true∧PySem.W.kitAny K (.ref c.NoBounds) ([c.Known,c.NoClan,c.NoLine,c.NoName,c.NoNumber,c.NoRatio,c.NoRule,c.NoText,c.TooLong,c.TooMany].map Value.ref)=some false∧PySem.W.kitOne K (.ref c.NoBounds) (.ref c.NoSpell)=some false∧PySem.W.kitOne K (.ref c.NoBounds) (.ref c.NoBounds)=some true∧PySem.W.kitOne K (.ref c.NoBounds) (.ref c.NoRow)=some false∧PySem.W.kitOne K (.ref c.NoBounds) (.ref c.NoDistance)=some false∧PySem.W.kitOne K (.ref c.NoBounds) (.type "ValueError")=some true
  k_NoRow:XAttr K c.NoRow∧PySem.W.exmOne K (.ref c.NoRow) (.ref c.ClanError)=some true∧PySem.W.kitAny K (.ref c.NoRow) ([c.Known,c.NoClan,c.NoLine,c.NoName,c.NoNumber,c.NoRatio,c.NoRule,c.NoText,c.TooLong,c.TooMany].map Value.ref)=some false∧PySem.W.kitOne K (.ref c.NoRow) (.ref c.NoSpell)=some false∧PySem.W.kitOne K (.ref c.NoRow) (.ref c.NoBounds)=some false∧PySem.W.kitOne K (.ref c.NoRow) (.ref c.NoRow)=some true∧PySem.W.kitOne K (.ref c.NoRow) (.ref c.NoDistance)=some false∧PySem.W.kitOne K (.ref c.NoRow) (.type "ValueError")=some true
  k_NoDistance:XAttr K c.NoDistance∧PySem.W.exmOne K (.ref c.NoDistance) (.ref c.ClanError)=some true∧PySem.W.kitAny K (.ref c.NoDistance) ([c.Known,c.NoClan,c.NoLine,c.NoName,c.NoNumber,c.NoRatio,c.NoRule,c.NoText,c.TooLong,c.TooMany].map Value.ref)=some false∧PySem.W.kitOne K (.ref c.NoDistance) (.ref c.NoSpell)=some false∧PySem.W.kitOne K (.ref c.NoDistance) (.ref c.NoBounds)=some false∧PySem.W.kitOne K (.ref c.NoDistance) (.ref c.NoRow)=some false∧PySem.W.kitOne K (.ref c.NoDistance) (.ref c.NoDistance)=some true∧PySem.W.kitOne K (.ref c.NoDistance) (.type "ValueError")=some true
  n_ValueError:mg "ValueError" = none
  n_abs:mg "abs" = none
  n_bool:mg "bool" = none
  n_enumerate:mg "enumerate" = none
  n_int:mg "int" = none
  n_isinstance:mg "isinstance" = none
  n_len:mg "len" = none
  n_list:mg "list" = none
  n_max:mg "max" = none
  n_min:mg "min" = none
  n_range:mg "range" = none
  n_sum:mg "sum" = none
  n_zip:mg "zip" = none
  m_LEAST_BOUND:∃ a,mg "LEAST_BOUND" = some (.ref a)∧TupI K a [0,1]
  m_MOST_BOUND:∃ a,mg "MOST_BOUND" = some (.ref a)∧TupI K a [10,1]
  m_MOST_SPELLS:∃ t,mg "MOST_SPELLS" = some (.int 8 t)
  m_MOST_CLANS:∃ t,mg "MOST_CLANS" = some (.int 8 t)
  m_MOST_TURNS:∃ t,mg "MOST_TURNS" = some (.int 60 t)
theorem zcq {g l:Int} (hg:0≤g) (hl:0<l):Int.gcd l (g%l)=Int.gcd g l:=by
  obtain⟨m,rfl⟩:=Int.eq_ofNat_of_zero_le hg;obtain⟨n,rfl⟩:=Int.eq_ofNat_of_zero_le (Int.le_of_lt hl);rw [←Int.natCast_emod,Int.gcd_natCast_natCast,Int.gcd_natCast_natCast,Nat.gcd_comm n,←Nat.gcd_rec,Nat.gcd_comm]
theorem zcU {g:Int} (hg:0≤g):(Int.gcd g 0:Int)=g:=by
  rw [Int.gcd_zero_right];omega
theorem zda (a b:Int):Int.gcd (if a<0 then -a else a) (if b<0 then -b else b)=Int.gcd a b:=by
  split<;>split<;>simp
def dR (a b:Int):D:=.tuple [.int (a/(Int.gcd a b:Int)),.int (b/(Int.gcd a b:Int))]
theorem zab {a b:Int} (h:0<b):0<(Int.gcd a b:Int):=by
  have:0<Int.gcd a b:=Int.gcd_pos_of_ne_zero_right _ (by omega)
  omega
theorem zd4 {a b:Int} {k:Nat} (h:0<b) (hb:Bits k b):Bits k (Int.gcd a b:Int):=by
  refine hb.le ?_
  have:=Int.gcd_le_right a (show 0<b from h)
  omega
theorem zau {x a b:Int} (h:0<b) (hb:Bits 9000 b):jV x (Int.gcd a b:Int):=⟨zab h,zd4 h hb⟩
abbrev Spell:=Int×List Int
def dI (ns:List Int):D:=.list (ns.map .int)
def dS (s:Spell):D:=.tuple [.int s.1,dI s.2]
def dSs (l:List Spell):D:=.list (l.map dS)
def okW (ws:List Int):Prop:=(1≤ws.length∧ws.length≤8)∧(∀ w∈ws,0≤w∧w<10 ^ 30)∧ws.sum≠0
def tot (l:List Spell):Int:=(l.map (·.1)).sum
def many (l:List Spell):Nat:=(l.headD (0,[])).2.length
def okS (l:List Spell):Prop:=(1≤l.length∧l.length≤8)∧(∀ s∈l,1≤s.1∧okW s.2∧s.2.length=many l)∧tot l≤60
theorem p30:jP 10 30:=powB (k:=4) (by unfold Bits;decide) (by decide) (by decide)
theorem Z6:∀ {ws:List Int},(∀ w∈ws,0≤w)→0≤ws.sum
  | [],_=>by simp
  | w :: ws, h => by
    rw [List.sum_cons];have:=Z6 (ws:=ws) fun x hx=>h x (List.mem_cons_of_mem _ hx)
    have:=h w List.mem_cons_self
    omega
theorem zcK {B:Int}:∀ {ws:List Int},(∀ w∈ws,w<B)→ws.sum≤ws.length*B
  | [],_=>by simp
  | w :: ws, h => by
    rw [List.sum_cons,List.length_cons];have:=zcK (ws:=ws) fun x hx=>h x (List.mem_cons_of_mem _ hx)
    have:=h w List.mem_cons_self;have e:((ws.length+1:Nat):Int)*B=ws.length*B+B:=by rw [Int.natCast_add,Int.add_mul];simp
    omega
theorem jz {ws:List Int} (h:okW ws):0<ws.sum:=by
  have:=Z6 fun w hw=>(h.2.1 w hw).1
  have:=h.2.2
  omega
theorem zeH {ws:List Int} (h:okW ws):ws.sum≤8*10 ^ 30:=by
  have h1:=zcK (B:=10 ^ 30) fun w hw=>(h.2.1 w hw).2
  have h2:(ws.length:Int)*10 ^ 30≤8*10 ^ 30:=Int.mul_le_mul_of_nonneg_right (by have:=h.1.2;omega) (by decide)
  omega
theorem zcg {x B:Int} {k:Nat} (h0:0≤x) (h:x≤B) (hB:B.natAbs<2 ^ k):Bits k x:=by
  unfold Bits
  omega
theorem Zr {ws:List Int} (h:okW ws):Bits 103 ws.sum:=zcg (Int.le_of_lt (jz h)) (zeH h) (by decide)
theorem zc7 {ws:List Int} (h:okW ws) {w:Int} (hw:w∈ws):Bits 100 w:=zcg (h.2.1 w hw).1 (Int.le_of_lt (h.2.1 w hw).2) (by decide)
def gcdL (ws:List Int):Int:=ws.foldl (fun a b=>(Int.gcd a b:Int)) 0
def parts (ws:List Int):Int:=ws.sum/gcdL ws
def bot1 (b:Int) (s:Spell):Int:=b*parts s.2/(Int.gcd b (parts s.2):Int)
def bot (l:List Spell):Int:=l.foldl bot1 1
theorem zbr:∀ (ws:List Int) (a:Int),0≤a→0≤ws.foldl (fun a b=>(Int.gcd a b:Int)) a∧ws.foldl (fun a b=>(Int.gcd a b:Int)) a∣a∧∀ w∈ws,ws.foldl (fun a b=>(Int.gcd a b:Int)) a∣w
  | [],a,h=>⟨h,Int.dvd_refl _,fun w hw=>by cases hw⟩
  | w :: ws, a, h => by
    obtain⟨h1,h2,h3⟩:=zbr ws (Int.gcd a w:Int) (by omega)
    refine⟨h1,Int.dvd_trans h2 (Int.gcd_dvd_left a w),fun x hx=>?_⟩
    rcases List.mem_cons.mp hx with rfl|hx
    · exact Int.dvd_trans h2 (Int.gcd_dvd_right a x)
    · exact h3 x hx
theorem zdM (ws:List Int):0≤gcdL ws:=(zbr ws 0 (by decide)).1
theorem ziv {ws:List Int} {w:Int} (h:w∈ws):gcdL ws∣w:=(zbr ws 0 (by decide)).2.2 w h
theorem zbV {d:Int}:∀ {ws:List Int},(∀ w∈ws,d∣w)→d∣ws.sum
  | [],_=>by simp
  | w :: ws, h => by
    rw [List.sum_cons];exact Int.dvd_add (h w List.mem_cons_self) (zbV fun x hx=>h x (List.mem_cons_of_mem _ hx))
theorem zbn (ws:List Int):gcdL ws∣ws.sum:=zbV fun w hw=>ziv hw
theorem zaJ {ws:List Int} (h:okW ws):0<gcdL ws:=by
  have h1:=zdM ws;have h2:=jz h;have h3:=zbn ws
  by_cases e:gcdL ws=0
  · rw [e] at h3
    have:=Int.zero_dvd.mp h3
    omega
  · omega
theorem zhV {ws:List Int} (h:okW ws):gcdL ws≤ws.sum:=Int.le_of_dvd (jz h) (zbn ws)
theorem zhR {ws:List Int}:parts ws*gcdL ws=ws.sum:=Int.ediv_mul_cancel (zbn ws)
theorem Jb {ws:List Int} (h:okW ws):0<parts ws:=by
  have h1:=zaJ h;have h2:=jz h;have h3:=zhR (ws:=ws)
  by_cases e:0<parts ws
  · exact e
  · have:parts ws*gcdL ws≤0:=Int.mul_nonpos_of_nonpos_of_nonneg (by omega) (by omega)
    omega
theorem zhP {ws:List Int} (h:okW ws):parts ws≤ws.sum:=Int.ediv_le_self _ (Int.le_of_lt (jz h))
theorem zaM {ws:List Int} (h:okW ws):Bits 103 (parts ws):=(Zr h).le (by have:=Jb h;have:=zhP h;omega)
theorem za5 {b p:Int} (h:0<p):(0:Int)<(Int.gcd b p:Int):=by
  have:=Int.gcd_pos_of_ne_zero_right b (show p≠0 by omega)
  omega
theorem zi8 {b p:Int} (h:0<p):(Int.gcd b p:Int)≤p:=Int.le_of_dvd h (Int.gcd_dvd_right b p)
theorem zc9 {b:Int} {s:Spell} (hb:0<b) (h:okW s.2):0<bot1 b s:=by
  have h1:=Jb h;have h2:=za5 (b:=b) h1;have h3:(Int.gcd b (parts s.2):Int)∣b*parts s.2:=Int.dvd_trans (Int.gcd_dvd_left _ _) (Int.dvd_mul_right _ _);have h4:=Int.ediv_mul_cancel h3;have h5:0<b*parts s.2:=Int.mul_pos hb h1;unfold bot1
  by_cases e:0<b*parts s.2/(Int.gcd b (parts s.2):Int)
  · exact e
  · have:b*parts s.2/(Int.gcd b (parts s.2):Int)*(Int.gcd b (parts s.2):Int)≤0:=Int.mul_nonpos_of_nonpos_of_nonneg (by omega) (by omega)
    omega
theorem zgz {b:Int} {s:Spell} {k:Nat} (hb:0<b) (hk:Bits k b) (h:okW s.2):Bits (k+103) (bot1 b s):=(hk.mul (zaM h)).le (by
  have h5:0<b*parts s.2:=Int.mul_pos hb (Jb h);have h6:=zc9 hb h;have h7:bot1 b s≤b*parts s.2:=Int.ediv_le_self _ (Int.le_of_lt h5)
  omega)
theorem Z9:∀ (l:List Spell) (b:Int) (k:Nat),(∀ s∈l,okW s.2)→0<b→Bits k b→0<l.foldl bot1 b∧Bits (k+103*l.length) (l.foldl bot1 b)
  | [],b,k,_,h,h'=>⟨h,by simpa using h'⟩
  | s :: l, b, k, hs, h, h' => by
    have hw:=hs s List.mem_cons_self;have:=Z9 l (bot1 b s) (k+103) (fun x hx=>hs x (List.mem_cons_of_mem _ hx)) (zc9 h hw) (zgz h h' hw)
    refine⟨this.1,this.2.mono ?_⟩
    rw [List.length_cons];omega
theorem zaR {l:List Spell} (h:okS l):0<bot l:=(Z9 l 1 1 (fun s hs=>(h.2.1 s hs).2.1) (by decide) (by unfold Bits;decide)).1
theorem ZN {l:List Spell} (h:okS l):Bits 900 (bot l):=(Z9 l 1 1 (fun s hs=>(h.2.1 s hs).2.1) (by decide) (by unfold Bits;decide)).2.mono (by have:=h.1.2;omega)
def shares (b:Int) (ws:List Int):List Int:=ws.map fun w=>w*b/ws.sum
def addL (xs ys:List Int):List Int:=(xs.zip ys).map fun p=>p.1+p.2
def zH (sh:List Int) (p:List Int×List (List Int)):List Int×List (List Int):=(addL p.1 sh,p.2++[addL p.1 sh])
def rep {α : Type} (f:α→α):Nat→α→α
  | 0,x=>x
  | n+1,x=>rep f n (f x)
def runQ (b:Int) (l:List Spell) (p:List Int×List (List Int)):List Int×List (List Int):=l.foldl (fun p s=>rep (zH (shares b s.2)) s.1.toNat p) p
def zeros (l:List Spell):List Int:=List.replicate (many l) 0
def quo (l:List Spell):List (List Int):=(runQ (bot l) l (zeros l,[zeros l])).2
theorem ZM (sh:List Int):∀ n p,(rep (zH sh) n p).2.length=p.2.length+n
  | 0,p=>rfl
  | n+1,p=>by rw [rep,ZM sh n];simp [zH];omega
theorem jC {l:List Spell} (h:∀ s∈l,1≤s.1):0≤tot l:=Z6 fun w hw=>by
  obtain⟨s,hs,rfl⟩:=List.mem_map.mp hw;have:=h s hs;omega
theorem zbp {l:List Spell} (h:∀ s∈l,1≤s.1) {s:Spell} (hs:s∈l):s.1≤tot l:=by
  unfold tot
  induction l with
  | nil=>cases hs
  | cons a l ih=>
    rw [List.map_cons,List.sum_cons];have h1:0≤(l.map (·.1)).sum:=jC fun x hx=>h x (List.mem_cons_of_mem _ hx)
    have h2:=h a List.mem_cons_self
    rcases List.mem_cons.mp hs with rfl|hs
    · omega
    · have:=ih (fun x hx=>h x (List.mem_cons_of_mem _ hx)) hs
      omega
theorem zad {l:List Spell} (h:okS l):((quo l).length:Int)=tot l+1:=by
  have key:∀ (l:List Spell) (b:Int) (p:List Int×List (List Int)),(∀ s∈l,1≤s.1)→((runQ b l p).2.length:Int)=p.2.length+tot l:=by
    intro l
    induction l with
    | nil=>intro b p _;simp [runQ,tot]
    | cons s l ih=>
      intro b p hs;have h1:=hs s List.mem_cons_self;have:=ih b (rep (zH (shares b s.2)) s.1.toNat p) fun x hx=>hs x (List.mem_cons_of_mem _ hx)
      show((runQ b l (rep (zH (shares b s.2)) s.1.toNat p)).2.length:Int)=_
      rw [this,ZM];unfold tot;rw [List.map_cons,List.sum_cons]
      omega
  have:=key l (bot l) (zeros l,[zeros l]) fun s hs=>(h.2.1 s hs).1
  unfold quo;rw [this];simp;omega
theorem jy {α β : Type} (e:α→β) (xs:List α) (lo hi:Option Int):cut (xs.map e) lo hi=(cut xs lo hi).map e:=by
  unfold cut;rw [List.length_map,List.map_take,List.map_drop]
theorem za2 {α : Type} (xs:List α) {i:Int} (h:0≤i) (h':i≤xs.length):cut xs none (some i)=xs.take i.toNat:=by
  unfold cut;have e:HT.sIx xs.length xs.length (some i)=i.toNat:=by
    have:=HT.sIx_nat xs.length xs.length i.toNat;rw [show((i.toNat:Nat):Int)=i by omega] at this
    rw [this];omega
  rw [e];simp [HT.sIx_none]
theorem JO {α : Type} (xs:List α) {i:Int} (h:0≤i) (h':i≤xs.length):cut xs (some i) none=xs.drop i.toNat:=by
  unfold cut;have e:HT.sIx xs.length 0 (some i)=i.toNat:=by
    have:=HT.sIx_nat xs.length 0 i.toNat;rw [show((i.toNat:Nat):Int)=i by omega] at this
    rw [this];omega
  rw [e,HT.sIx_none]
  apply List.take_of_length_le
  rw [List.length_drop];omega
theorem zat (ws:List Int):(ws.map PyData.int).all zy=true:=by
  rw [List.all_eq_true];intro x hx;obtain⟨i,_,rfl⟩:=List.mem_map.mp hx;rfl
theorem Zw:∀ (xs:List Int) (x:Int),(xs.foldl (fun a b=>if b > a then b else a) x∈x::xs)∧x≤xs.foldl (fun a b=>if b > a then b else a) x∧∀ w∈xs,w≤xs.foldl (fun a b=>if b > a then b else a) x
  | [],x=>⟨by simp,Int.le_refl _,fun w h=>by cases h⟩
  | y :: ys, x => by
    rw [List.foldl_cons]
    by_cases h:y > x
    · rw [if_pos h]
      obtain⟨h1,h2,h3⟩:=Zw ys y;exact⟨List.mem_cons_of_mem _ h1,by omega,fun w hw=>by
        rcases List.mem_cons.mp hw with rfl|hw
        · exact h2
        · exact h3 w hw⟩
    · rw [if_neg h]
      obtain⟨h1,h2,h3⟩:=Zw ys x;refine⟨?_,h2,fun w hw=>?_⟩
      · rcases List.mem_cons.mp h1 with z|z
        · rw [z];exact List.mem_cons_self
        · exact List.mem_cons_of_mem _ (List.mem_cons_of_mem _ z)
      · rcases List.mem_cons.mp hw with rfl|hw
        · omega
        · exact h3 w hw
theorem zaX {ws:List Int} (h:ws≠[]):maxL ws∈ws:=by
  cases ws with
  | nil=>exact absurd rfl h
  | cons x xs=>exact(Zw xs x).1
theorem zd2 {ws:List Int} {w:Int} (h:w∈ws):w≤maxL ws:=by
  cases ws with
  | nil=>cases h
  | cons x xs=>
    rcases List.mem_cons.mp h with rfl|h
    · exact(Zw xs w).2.1
    · exact(Zw xs x).2.2 w h
theorem zcr {a b:List Int} (h:a.length=b.length):(addL a b).length=a.length:=by unfold addL;rw [List.length_map,List.length_zip];omega
theorem zb2 (b:Int) (ws:List Int):(shares b ws).length=ws.length:=List.length_map ..
def zm (l:List Spell):Int:=l.foldl (fun b s=>b*s.2.sum) 1
def quoB (b:Int) (l:List Spell):List (List Int):=(runQ b l (zeros l,[zeros l])).2
theorem zcu:∀ (l:List Spell) (b:Int),b∣l.foldl (fun b s=>b*s.2.sum) b
  | [],b=>Int.dvd_refl b
  | s::l,b=>Int.dvd_trans (Int.dvd_mul_right b s.2.sum) (zcu l _)
theorem ziC {l:List Spell} {s:Spell} (h:s∈l):s.2.sum∣zm l:=by
  have:∀ (l:List Spell) (b:Int),s∈l→s.2.sum∣l.foldl (fun b s=>b*s.2.sum) b:=by
    intro l
    induction l with
    | nil=>intro b h;cases h
    | cons a l ih=>
      intro b h
      rcases List.mem_cons.mp h with rfl|h
      · exact Int.dvd_trans (Int.dvd_mul_left b s.2.sum) (zcu l _)
      · exact ih _ h
  exact this l 1 h
theorem zaE:∀ (l:List Spell) (b:Int) (k:Nat),(∀ s∈l,okW s.2)→0<b→Bits k b→0<l.foldl (fun b s=>b*s.2.sum) b∧Bits (k+103*l.length) (l.foldl (fun b s=>b*s.2.sum) b)
  | [],b,k,_,h,hb=>⟨h,hb.mono (by simp)⟩
  | s :: l, b, k, hs, h, hb => by
    have h1:=hs s List.mem_cons_self;have:=zaE l (b*s.2.sum) (k+103) (fun t ht=>hs t (List.mem_cons_of_mem _ ht)) (Int.mul_pos h (jz h1)) (hb.mul (Zr h1))
    exact⟨this.1,this.2.mono (by rw [List.length_cons];omega)⟩
theorem zcW {l:List Spell} (h:okS l):0<zm l:=(zaE l 1 1 (fun s hs=>(h.2.1 s hs).2.1) (by decide) (by unfold Bits;decide)).1
theorem zbT {l:List Spell} (h:okS l):Bits 900 (zm l):=(zaE l 1 1 (fun s hs=>(h.2.1 s hs).2.1) (by decide) (by unfold Bits;decide)).2.mono (by have:=h.1.2;omega)
theorem zde (b:Int):∀ (l:List Spell) (p:List Int×List (List Int)),(∀ s∈l,1≤s.1)→((runQ b l p).2.length:Int)=p.2.length+tot l:=by
  intro l
  induction l with
  | nil=>intro p _;simp [runQ,tot]
  | cons s l ih=>
    intro p hs;have h1:=hs s List.mem_cons_self;have:=ih (rep (zH (shares b s.2)) s.1.toNat p) fun x hx=>hs x (List.mem_cons_of_mem _ hx)
    show((runQ b l (rep (zH (shares b s.2)) s.1.toNat p)).2.length:Int)=_
    rw [this,ZM];unfold tot;rw [List.map_cons,List.sum_cons]
    omega
theorem zbJ {l:List Spell} (h:okS l) (b:Int):((quoB b l).length:Int)=tot l+1:=by
  unfold quoB;rw [zde b l _ fun s hs=>(h.2.1 s hs).1]
  simp;omega
def jL (n:Nat) (p:List Int×List (List Int)):Prop:=p.1.length=n∧∀ r∈p.2,r.length=n
theorem zcR {n:Nat} {sh:List Int} (hs:sh.length=n):∀ (k:Nat) (p:List Int×List (List Int)),jL n p→jL n (rep (zH sh) k p)
  | 0,p,h=>h
  | k + 1, p, h => zcR hs k _ (by
    have e:(addL p.1 sh).length=n:=by rw [zcr (by rw [h.1,hs]),h.1]
    refine⟨e,fun r hr=>?_⟩
    rcases List.mem_append.mp hr with z|z
    · exact h.2 r z
    · rw [List.mem_singleton.mp z];exact e)
theorem zc4 {n:Nat} (b:Int):∀ (l:List Spell) (p:List Int×List (List Int)),(∀ s∈l,s.2.length=n)→jL n p→jL n (runQ b l p)
  | [],p,_,h=>h
  | s::l,p,hs,h=>zc4 b l _ (fun t ht=>hs t (List.mem_cons_of_mem _ ht)) (zcR (by rw [zb2];exact hs s List.mem_cons_self) _ _ h)
theorem Za {l:List Spell} (h:okS l) {b:Int} {r:List Int} (hr:r∈quoB b l):r.length=many l:=
  (zc4 b l (zeros l,[zeros l]) (fun s hs=>(h.2.1 s hs).2.2) ⟨by unfold zeros;simp,fun r hr=>by rw [List.mem_singleton.mp hr];unfold zeros;simp⟩).2 r hr
theorem JI {l:List Spell} (h:okS l):1≤many l∧many l≤8:=by
  cases l with
  | nil=>have:=h.1.1;simp at this
  | cons a r=>exact(h.2.1 a List.mem_cons_self).2.1.1
theorem zaa:∀ (xs:List Int) (x:Int),(xs.foldl (fun a b=>if b<a then b else a) x∈x::xs)∧xs.foldl (fun a b=>if b<a then b else a) x≤x∧∀ y∈xs,xs.foldl (fun a b=>if b<a then b else a) x≤y
  | [],x=>⟨List.mem_cons_self,Int.le_refl _,fun y h=>by cases h⟩
  | a :: xs, x => by
    have ih:=zaa xs (if a<x then a else x)
    rw [List.foldl_cons];refine⟨?_,?_,fun y hy=>?_⟩
    · rcases List.mem_cons.mp ih.1 with z|z
      · rw [z];split
        · exact List.mem_cons_of_mem _ List.mem_cons_self
        · exact List.mem_cons_self
      · exact List.mem_cons_of_mem _ (List.mem_cons_of_mem _ z)
    · refine Int.le_trans ih.2.1 ?_
      split<;>omega
    · rcases List.mem_cons.mp hy with rfl|hy
      · refine Int.le_trans ih.2.1 ?_
        split<;>omega
      · exact ih.2.2 y hy
theorem zen {ws:List Int} (h:ws≠[]):minL ws∈ws:=by
  cases ws with
  | nil=>exact absurd rfl h
  | cons a r=>exact(zaa r a).1
theorem zdQ {ws:List Int} {w:Int} (h:w∈ws):minL ws≤w:=by
  cases ws with
  | nil=>cases h
  | cons a r=>
    rcases List.mem_cons.mp h with rfl|h
    · exact(zaa r w).2.1
    · exact(zaa r a).2.2 w h
def Far (S:List Int) (n:Int):Prop:=0≤n∧(∀ x∈S,x≤n∧-x≤n)∧(n=0∨n∈S∨-n∈S)
theorem Far.le {S:List Int} {n m:Int} (h:Far S n) (h':Far S m):n≤m:=by
  rcases h.2.2 with z|z|z
  · rw [z];exact h'.1
  · exact(h'.2.1 n z).1
  · have:=(h'.2.1 (-n) z).2;omega
theorem Far.uniq {S:List Int} {n m:Int} (h:Far S n) (h':Far S m):n=m:=Int.le_antisymm (h.le h') (h'.le h)
theorem Far.nil:Far [] 0:=⟨by decide,fun x h=>absurd h (by simp),.inl rfl⟩
theorem Far.app {S T:List Int} {n m:Int} (h:Far S n) (hm:n≤m) (h1:∀ x∈T,x≤m∧-x≤m) (he:m=n∨m∈T∨-m∈T):Far (S++T) m:=by
  refine⟨by have:=h.1;omega,fun y hy=>?_,?_⟩
  · rcases List.mem_append.mp hy with z|z
    · have:=h.2.1 y z;omega
    · exact h1 y z
  · rcases he with z|z|z
    · subst z
      rcases h.2.2 with w|w|w
      · exact .inl w
      · exact .inr (.inl (List.mem_append_left _ w))
      · exact .inr (.inr (List.mem_append_left _ w))
    · exact .inr (.inl (List.mem_append_right _ z))
    · exact .inr (.inr (List.mem_append_right _ z))
def had1 (b:Int) (h:List Int) (c:Int):List Int:=h.set c.toNat (h.getD c.toNat 0+b)
def hadN (b:Int) (n:Nat) (row:List Int):List Int:=row.foldl (had1 b) (List.replicate n 0)
theorem zfC (b:Int) (h:List Int) (c:Int):(had1 b h c).length=h.length:=by unfold had1;rw [List.length_set]
theorem zcS (b:Int) (n:Nat) (row:List Int):(hadN b n row).length=n:=by
  have:∀ (row:List Int) (h:List Int),(row.foldl (had1 b) h).length=h.length:=by
    intro row
    induction row with
    | nil=>intro h;rfl
    | cons c r ih=>intro h;rw [List.foldl_cons,ih,zfC]
  unfold hadN;rw [this,List.length_replicate]
theorem zcT (b:Int) (n:Nat) (row:List Int) (c:Int):hadN b n (row++[c])=had1 b (hadN b n row) c:=by unfold hadN;rw [List.foldl_append];rfl
def subL (a b:List Int):List Int:=(a.zip b).map fun p=>p.1 - p.2
def zap (b:Int) (n:Nat) (q:List (List Int)) (row:List Int) (t:Nat):List Int:=subL (hadN b n (row.take (t+1))) (q.getD (t+1) [])
def z5 (b:Int) (n:Nat) (q:List (List Int)) (row:List Int) (k:Nat):List (List Int):=(List.range k).map (zap b n q row)
theorem zf1 (b:Int) (n:Nat) (q:List (List Int)) (row:List Int) (k:Nat):z5 b n q row (k+1)=z5 b n q row k++[zap b n q row k]:=by
  unfold z5;rw [List.range_succ,List.map_append];rfl
def zdi (b:Int) (n:Nat) (q:List (List Int)) (row:List Int) (k:Nat):List Int:=(z5 b n q row k).flatten
theorem zah {a b:Int} (h:0<b):0<b/(Int.gcd a b:Int)∧Int.gcd (a/(Int.gcd a b:Int)) (b/(Int.gcd a b:Int))=1∧a/(Int.gcd a b:Int)*(Int.gcd a b:Int)=a∧b/(Int.gcd a b:Int)*(Int.gcd a b:Int)=b:=by
  have hg:0<Int.gcd a b:=Int.gcd_pos_of_ne_zero_right _ (by omega)
  have h1:(Int.gcd a b:Int)∣a:=Int.gcd_dvd_left a b;have h2:(Int.gcd a b:Int)∣b:=Int.gcd_dvd_right a b;exact⟨Int.ediv_pos_of_pos_of_dvd h (by omega) h2,Int.gcd_ediv_gcd_ediv_gcd hg,Int.ediv_mul_cancel h1,Int.ediv_mul_cancel h2⟩
def zT (n:Nat) (T:Nat) (row:List Int):Prop:=row.length=T∧∀ c∈row,0≤c∧c<(n:Int)
theorem zeJ {ws:List Int} (h:∀ w∈ws,0≤w) (h1:(1:Int)∈ws):ws.sum≠0:=by
  induction ws with
  | nil=>cases h1
  | cons a r ih=>
    rw [List.sum_cons];have h2:=Z6 (ws:=r) fun w hw=>h w (List.mem_cons_of_mem _ hw)
    have h3:=h a List.mem_cons_self
    rcases List.mem_cons.mp h1 with rfl|h1
    · omega
    · have:=ih (fun w hw=>h w (List.mem_cons_of_mem _ hw)) h1
      omega
theorem zdu {l:List Spell} {B:Int} (h:∀ s∈l,s.1≤B):tot l≤l.length*B:=by
  unfold tot
  induction l with
  | nil=>simp
  | cons a r ih=>
    have h1:=h a List.mem_cons_self;have h2:=ih fun s hs=>h s (List.mem_cons_of_mem _ hs)
    rw [List.map_cons,List.sum_cons,List.length_cons,Int.natCast_succ,Int.add_mul]
    omega
theorem zd5 (l:List Spell) (s:Spell):zm (l++[s])=zm l*s.2.sum:=by unfold zm;rw [List.foldl_append];rfl
theorem zbz {α : Type} (f:α→α):∀ (n:Nat) (x:α),rep f (n+1) x=f (rep f n x)
  | 0,x=>rfl
  | n+1,x=>by show rep f (n+1) (f x)=f (rep f n (f x));exact zbz f n (f x)
theorem zcC {α : Type} (xs:List α) (x:α):atI (xs++[x]) (-1)=some x:=by
  unfold atI ixN;rw [if_neg (by decide),if_pos (by rw [List.length_append];simp;omega),List.length_append]
  have:(-1+((xs.length+[x].length:Nat):Int)).toNat=xs.length:=by simp;omega
  rw [this]
  simp
theorem zcL {xs:List Int} {i:Nat} (h:i<xs.length):atI (xs.map PyData.int) (0+(i:Int))=some (PyData.int xs[i]):=by
  rw [Int.zero_add];have:(xs.map PyData.int)[i]?=some (PyData.int xs[i]):=by rw [List.getElem?_map,List.getElem?_eq_getElem h];rfl
  exact ZR this
theorem c64:jP 10 64:=powB (k:=4) (by unfold Bits;decide) (by decide) (by decide)
abbrev Rat2:=Int×Int
def dQ (r:Rat2):D:=.tuple [.int r.1,.int r.2]
def dP (p:Rat2×Rat2):D:=.tuple [dQ p.1,dQ p.2]
def dPs (l:List (Rat2×Rat2)):D:=.list (l.map dP)
def okQ (r:Rat2):Prop:=0<r.2∧Bits 1200 r.1∧Bits 1200 r.2
def inQ (r:Rat2):Prop:=0≤r.1∧r.1≤10*r.2
def okB (n:Nat) (l:List (Rat2×Rat2)):Prop:=l.length=n∧∀ p∈l,inQ p.1∧inQ p.2
def ZW (b:Int) (r:Rat2):Int:=r.1*b/r.2
theorem Zv {rows:List (List Int)} {i:Nat} (h:i<rows.length):atI (rows.map dI) (i:Int)=some (PyData.list (rows[i].map PyData.int)):=by
  have:(rows.map dI)[i]?=some (PyData.list (rows[i].map PyData.int)):=by rw [List.getElem?_map,List.getElem?_eq_getElem h];rfl
  exact ZR this
theorem ZL {xs:List Int} {i:Int} (h0:0≤i) (h:i<xs.length):atI (xs.map PyData.int) i=some (PyData.int (xs.getD i.toNat 0)):=by
  obtain⟨x,h1,_,h2⟩:=jJ (xs:=xs) h0 h;rw [JT,h1,List.getD_eq_getElem?_getD,h2];rfl
def dRoom (p:Int×Int):D:=.tuple [.int p.1,.int p.2]
def z6 (b:Int) (l:List (Rat2×Rat2)):List (Int×Int):=l.map fun p=>(ZW b p.1,ZW b p.2)
theorem zhN {ws:List Int} (h:∀ w∈ws,0≤w) {w:Int} (hw:w∈ws):w≤ws.sum:=by
  induction ws with
  | nil=>cases hw
  | cons a r ih=>
    rw [List.sum_cons];have h2:=Z6 (ws:=r) fun w hw=>h w (List.mem_cons_of_mem _ hw)
    have h3:=h a List.mem_cons_self
    rcases List.mem_cons.mp hw with rfl|hw
    · omega
    · have:=ih (fun w hw=>h w (List.mem_cons_of_mem _ hw)) hw
      omega
theorem zhe {b:Int} {ws:List Int} (h:okW ws) (hb:0≤b) {x:Int} (hx:x∈shares b ws):x≤b:=by
  unfold shares at hx;obtain⟨w,hw,rfl⟩:=List.mem_map.mp hx;have h1:=zhN (fun w hw=>(h.2.1 w hw).1) hw
  refine Int.ediv_le_of_le_mul (jz h) ?_
  rw [Int.mul_comm w b];exact Int.mul_le_mul_of_nonneg_left h1 hb
def leP (b:Int) (p:List Int×List (List Int)):Prop:=1≤p.2.length∧(∀ x∈p.1,x≤((p.2.length:Int) - 1)*b)∧∀ r∈p.2,∀ x∈r,x≤((p.2.length:Int) - 1)*b
theorem zex {b:Int} {sh:List Int} (hb:0≤b) (hs:∀ x∈sh,x≤b) {p:List Int×List (List Int)} (h:leP b p):leP b (zH sh p):=by
  obtain⟨h1,h2,h3⟩:=h;have e:(((zH sh p).2.length:Nat):Int) - 1=p.2.length:=by show(((p.2++[_]).length:Nat):Int) - 1=_;rw [List.length_append];simp
  have hm:((p.2.length:Int) - 1)*b+b=(p.2.length:Int)*b:=by rw [Int.sub_mul,Int.one_mul];omega
  have ha:∀ x∈addL p.1 sh,x≤(p.2.length:Int)*b:=fun x hx=>by
    unfold addL at hx;obtain⟨q,hq,rfl⟩:=List.mem_map.mp hx;obtain⟨q1,q2⟩:=List.of_mem_zip (a:=q.1) (b:=q.2) hq;have:=h2 _ q1;have:=hs _ q2
    omega
  refine⟨by show 1≤(p.2++[_]).length;rw [List.length_append];simp,by rw [e];exact ha,fun r hr x hx=>?_⟩
  rw [e]
  rcases List.mem_append.mp hr with z|z
  · have:=h3 r z x hx;omega
  · rw [List.mem_singleton.mp z] at hx;exact ha x hx
theorem zcZ {b:Int} {sh:List Int} (hb:0≤b) (hs:∀ x∈sh,x≤b):∀ (n:Nat) {p:List Int×List (List Int)},leP b p→leP b (rep (zH sh) n p)
  | 0,_,h=>h
  | n+1,_,h=>zcZ hb hs n (zex hb hs h)
theorem zcF {b:Int} (hb:0≤b):∀ (l:List Spell) {p:List Int×List (List Int)},(∀ s∈l,okW s.2)→leP b p→leP b (runQ b l p)
  | [],_,_,h=>h
  | s::l,p,hl,h=>zcF hb l (p:=rep (zH (shares b s.2)) s.1.toNat p) (fun t ht=>hl t (List.mem_cons_of_mem _ ht)) (zcZ hb (fun x hx=>zhe (hl s List.mem_cons_self) hb hx) _ h)
theorem zcD {l:List Spell} (h:okS l) {b:Int} (hb:0<b):∀ r∈quoB b l,∀ x∈r,x≤tot l*b:=fun r hr x hx=>by
  have:=zcF (b:=b) (by omega) l (p:=(zeros l,[zeros l])) (fun s hs=>(h.2.1 s hs).2.1) ⟨by simp,fun x hx=>by
    have:x=0:=List.eq_of_mem_replicate hx;rw [this];simp,fun r hr x hx=>by
    rw [List.mem_singleton.mp hr] at hx;have:x=0:=List.eq_of_mem_replicate hx;rw [this];simp⟩
  have h2:=this.2.2 r hr x hx;have h3:=zbJ h b;unfold quoB at h3;have e:(((runQ b l (zeros l,[zeros l])).2.length:Nat):Int) - 1=tot l:=by omega
  rw [e] at h2;exact h2
theorem zhc {g:TG3} {tb:TS3} {A:Ends3} {f:Bool} {enc:Nat→D} {n:Nat} (P:Nat→Env3→Prop) (s:∀ k ρ,k<n→P k ρ→∀ W:Env3→Prop,(∀ ρ',P (k+1) ρ'→W ρ')→g f (enc k) ρ fun ρ'=>tb { A with nx:=W,ct:=W,bk:=A.nx } ρ') (e:∀ ρ,P n ρ→A.nx ρ) {ρ : Env3} (h:P 0 ρ):forL g tb A f ((List.range n).map enc) ρ:=by
  refine jk enc (List.range n) (fun done ρ=>P done.length ρ) (fun done x rest ρ hd hp W hW=>?_) (fun ρ hp=>e ρ (by rw [List.length_range] at hp;exact hp)) h
  have hx:x=done.length:=by
    have h1:(List.range n)[done.length]?=some x:=by rw [hd];simp
    have h2:done.length<n:=by have:=congrArg List.length hd;simp at this;omega
    rw [List.getElem?_range h2] at h1;exact(Option.some.inj h1).symm
  subst hx;have h2:done.length<n:=by have:=congrArg List.length hd;simp at this;omega
  exact s done.length ρ h2 hp W fun ρ' hp'=>hW ρ' (by rw [List.length_append];exact hp')
def jI (p:Nat→Bool):Nat→Nat→Nat
  | i,0=>i
  | i,m+1=>if p i=true then i else jI p (i+1) m
def zS (n:Nat) (p:Nat→Bool):Nat:=jI p 1 (n - 1)
theorem zf0 (p:Nat→Bool):∀ (m i:Nat),i≤jI p i m∧jI p i m≤i+m∧(∀ t,i≤t→t<jI p i m→p t=false)∧(jI p i m<i+m→p (jI p i m)=true):=by
  intro m
  induction m with
  | zero=>intro i;exact⟨Nat.le_refl _,Nat.le_refl _,fun t h1 h2=>absurd h2 (by show ¬t<i;omega),fun h=>absurd h (by show ¬i<i+0;omega)⟩
  | succ m ih=>
    intro i;unfold jI
    by_cases h:p i=true
    · rw [if_pos h];exact⟨Nat.le_refl _,by omega,fun t h1 h2=>absurd h2 (by omega),fun _=>h⟩
    · rw [if_neg h]
      obtain⟨a1,a2,a3,a4⟩:=ih (i+1);refine⟨by omega,by omega,fun t h1 h2=>?_,fun hh=>a4 (by omega)⟩
      by_cases e:t=i
      · subst e;simpa using h
      · exact a3 t (by omega) h2
theorem zbq {n:Nat} (hn:1≤n) (p:Nat→Bool):1≤zS n p∧zS n p≤n∧(∀ t,1≤t→t<zS n p→p t=false)∧(zS n p<n→p (zS n p)=true):=by
  obtain⟨a1,a2,a3,a4⟩:=zf0 p (n - 1) 1;exact⟨a1,by unfold zS;omega,a3,fun h=>a4 (by unfold zS at h;omega)⟩
theorem zbX {n:Nat} (hn:1≤n) {p:Nat→Bool} {r:Nat} (h1:1≤r) (h2:r≤n) (h3:∀ t,1≤t→t<r→p t=false) (h4:r<n→p r=true):zS n p=r:=by
  obtain⟨a1,a2,a3,a4⟩:=zbq hn p
  rcases Nat.lt_trichotomy (zS n p) r with z|z|z
  · have:=h3 _ a1 z;rw [a4 (by omega)] at this;cases this
  · exact z
  · have:=a3 _ h1 z;rw [h4 (by omega)] at this;cases this
abbrev Win:=Int×Int×Int×Option Int
def dO:Option Int→D
  | none=>.none
  | some i=>.int i
theorem zjp (f:Bool) (o:Option Int):isNone (Cl.sh f (dO o))=o.isNone:=by cases o<;>rfl
def dW (w:Win):D:=.tuple [.int w.1,.int w.2.1,.int w.2.2.1,dO w.2.2.2]
def winP (n:Nat) (e l:Nat→Bool):Int×Option Int:=(zS n e,if zS n l=n then none else some (zS n l:Nat))
def jY (n:Nat) (w:Int×Option Int):Prop:=w.1<n∨w.2≠none
def IsW (n:Nat) (k:Int) (W:Int→Int×Option Int):Int→List Win→Prop
  | j,[]=>¬jY n (W j)
  | j,w::r=>jY n (W j)∧w=(k,j,(W j).1,(W j).2)∧IsW n k W (j+1) r
theorem IsW.uniq {n:Nat} {k:Int} {W W':Int→Int×Option Int}:∀ {ws ws':List Win} {j:Int},(∀ i,j≤i→W i=W' i)→IsW n k W j ws→IsW n k W' j ws'→ws=ws'
  | [],[],_,_,_,_=>rfl
  | [], w :: r, j, e, h, h' => by
    have h1:¬jY n (W j):=h;have h2:=h'.1;rw [←e j (Int.le_refl j)] at h2;exact absurd h2 h1
  | w :: r, [], j, e, h, h' => by
    have h1:¬jY n (W' j):=h';have h2:=h.1;rw [e j (Int.le_refl j)] at h2;exact absurd h2 h1
  | w :: r, w' :: r', j, e, h, h' => by
    have e1:=h.2.1;have e2:=h'.2.1;rw [←e j (Int.le_refl j)] at e2;rw [e1,e2,IsW.uniq (fun i hi=>e i (by omega)) h.2.2 h'.2.2]
theorem IsW.len {n:Nat} {k:Int} {W:Int→Int×Option Int} {M:Int} (hM:∀ i,jY n (W i)→i≤M):∀ {ws:List Win} {j:Int},IsW n k W j ws→j≤M+1→(ws.length:Int)≤M+1 - j
  | [],j,_,hj=>by simp;omega
  | w :: r, j, h, hj => by
    have h1:=hM j h.1;have:=IsW.len hM h.2.2 (by omega)
    rw [List.length_cons];omega
def zC (q:List (List Int)) (k:Nat):List Int:=q.map fun r=>r.getD k 0
def winB (b:Int) (path:List Int) (room:Int×Int) (j:Int):Int×Option Int:=winP path.length (fun t=>decide (j*b - room.2≤path.getD t 0)) (fun t=>decide ((j - 1)*b+room.1+1≤path.getD t 0))
theorem zfp {b:Int} {path:List Int} {room:Int×Int} {M:Int} (hb:0<b) (h1:1≤path.length) (hp:∀ t,path.getD t 0+room.2≤M*b) (hr:0≤room.2) (hr1:0≤room.1) (j:Int) (h:jY path.length (winB b path room j)):j≤M+1:=by
  have key:∀ x:Int,x*b≤M*b+b→x≤M+1:=fun x hx=>by
    have:x*b≤(M+1)*b:=by rw [Int.add_mul,Int.one_mul];exact hx
    exact Int.le_of_mul_le_mul_right this hb
  rcases h with h|h
  · obtain⟨_,_,_,a4⟩:=zbq h1 (fun t=>decide (j*b - room.2≤path.getD t 0))
    have := of_decide_eq_true (a4 (by have : ((zS path.length fun t => decide (j * b - room.2 ≤ path.getD t 0) : Nat) : Int) < path.length := h
                                      omega))
    have h2:=hp (zS path.length fun t=>decide (j*b - room.2≤path.getD t 0))
    exact key j (by omega)
  · obtain⟨_,a2,_,a4⟩:=zbq h1 (fun t=>decide ((j - 1)*b+room.1+1≤path.getD t 0))
    have hne:zS path.length (fun t=>decide ((j - 1)*b+room.1+1≤path.getD t 0))≠path.length:=fun z=>h (if_pos z)
    have:=of_decide_eq_true (a4 (by omega))
    have h2:=hp (zS path.length fun t=>decide ((j - 1)*b+room.1+1≤path.getD t 0))
    have h3:(j - 1)*b=j*b - b:=by rw [Int.sub_mul,Int.one_mul]
    exact key j (by omega)
def Jg (L:List (List Int)) (R:List (Int×Int)):Prop:=∀ ld∈L,∀ (i:Nat) (x:Int) (p:Int×Int),ld[i]?=some x→R[i]?=some p→-p.1≤x∧x≤p.2
theorem zhK {L:List (List Int)} {ld:List Int} {R:List (Int×Int)}:Jg (L++[ld]) R↔Jg L R∧Jg [ld] R:=by
  unfold Jg;refine⟨fun h=>⟨fun l hl=>h l (List.mem_append_left _ hl),fun l hl=>h l (List.mem_append_right _ hl)⟩,fun h l hl=>?_⟩
  rcases List.mem_append.mp hl with z|z
  · exact h.1 l z
  · exact h.2 l z
def zW (b:Int) (r:Rat2):Int:=(r.1*b - 1)/r.2
theorem zic {c:Int} {r:Rat2} (hc:0<c) (hr:okQ r) (h0:0<r.1) (h1:r.1≤10*r.2):0≤zW c r∧zW c r≤10*c:=by
  unfold zW;have hp:0<r.1*c:=Int.mul_pos h0 hc;refine⟨Int.ediv_nonneg (by omega) (by have:=hr.1;omega),?_⟩
  have h2:r.1*c≤10*r.2*c:=Int.mul_le_mul_of_nonneg_right h1 (by omega)
  have h3:10*r.2*c=10*c*r.2:=by ac_rfl
  refine Int.ediv_le_of_le_mul hr.1 ?_
  omega
theorem zcf (ns:List Int):Plain 1 (dI ns):=Plain.list fun d hd=>by
  obtain⟨i,_,rfl⟩:=List.mem_map.mp hd;exact Plain.int i
theorem zdW (s:Spell):Plain 2 (dS s):=Plain.tuple fun d hd=>by
  rcases List.mem_cons.mp hd with rfl|hd
  · exact(Plain.int _).mono (by decide)
  · rw [List.mem_singleton.mp hd];exact zcf _
theorem zdb (l:List Spell):Plain 3 (dSs l):=Plain.list fun d hd=>by
  obtain⟨s,_,rfl⟩:=List.mem_map.mp hd;exact zdW s
theorem zb3 (r:Rat2):Plain 1 (dQ r):=Plain.tuple fun d hd=>by
  rcases List.mem_cons.mp hd with rfl|hd
  · exact Plain.int _
  · rw [List.mem_singleton.mp hd];exact Plain.int _
theorem zjw (p:Rat2×Rat2):Plain 2 (dP p):=Plain.tuple fun d hd=>by
  rcases List.mem_cons.mp hd with rfl|hd
  · exact zb3 _
  · rw [List.mem_singleton.mp hd];exact zb3 _
theorem zfe (l:List (Rat2×Rat2)):Plain 3 (dPs l):=Plain.list fun d hd=>by
  obtain⟨s,_,rfl⟩:=List.mem_map.mp hd;exact zjw s
def lowQ (a b:Int):Rat2:=(a/(Int.gcd a b:Int),b/(Int.gcd a b:Int))
theorem zaH {a b:Int} (hb:0<b) (ha:Bits 1100 a) (hB:Bits 1100 b):okQ (lowQ a b):=by
  obtain⟨l1,_,_,_⟩:=zah (a:=a) hb;exact⟨l1,(ha.le (Int.natAbs_ediv_le_natAbs _ _)).mono (by decide),(hB.le (Int.natAbs_ediv_le_natAbs _ _)).mono (by decide)⟩
theorem zd8 {α : Type} (m:List α) (x:α) (at_:Int):x∈m.take at_.toNat++[x]++m.drop (at_+1).toNat:=by simp
theorem zfv {l:List Spell} {at_:Int} {Q:Bool→D→Prop} (hsz:∀ n:Nat,n≤1000→n≤sizeLine) (hat0:0≤at_) (hl:l.length≤8) (q:∀ f l',¬okS l'→l'.length≤100→Q f (dSs l')):∀ (m:List Spell) (x:Spell),m.length≤9→at_<m.length→¬okS (m.take at_.toNat++[x]++m.drop (at_+1).toNat)→(cut (m.map dS) none (some at_)).length+1≤sizeLine∧(cut (m.map dS) none (some at_)++[dS x]).length+(cut (m.map dS) (some (at_+1)) none).length≤sizeLine∧∀ f,Q f (PyData.list (cut (m.map dS) none (some at_)++[dS x]++cut (m.map dS) (some (at_+1)) none)):=fun m x hm9 hm hno=>by
  rw [jy,jy,za2 m hat0 (by omega),JO m (by omega) (by omega)]
  refine⟨hsz _ (by simp;omega),hsz _ (by simp;omega),fun f=>?_⟩
  have:=q f _ hno (by simp;omega)
  simpa [dSs,List.map_append] using this
theorem zgx (ws:List Int):(ws.map fun _=>(0:Int)).sum=0:=by
  induction ws with
  | nil=>rfl
  | cons a r ih=>rw [List.map_cons,List.sum_cons,ih];rfl
theorem zgN {l:List Spell} {s:Spell} (hs:s∈l) (h:¬(1≤s.1∧okW s.2)):¬okS l:=fun z=>h ⟨(z.2.1 s hs).1,(z.2.1 s hs).2.1⟩
theorem zjt {l:List Spell} {s t:Spell} (hs:s∈l) (ht:t∈l) (h:s.2.length≠t.2.length):¬okS l:=fun z=>h ((z.2.1 s hs).2.2.trans (z.2.1 t ht).2.2.symm)
theorem zf6 {K:PySem.W.Frag} {CC:Addr} {i:Nat} {tx:TX3} {th:TS3} {A:Ends3} {ρ : Env3} (h:∀ E':Addr→Prop,(∀ C,(PySem.W.exmOne K (.ref C) (.ref CC)=some true∧th { nx:=fun ρ'=>A.nx (ρ'.set i none),rt:=A.rt,bk:=fun ρ'=>A.bk (ρ'.set i none),ct:=fun ρ'=>A.ct (ρ'.set i none) } (ρ.set i (some (.ex C))))→E' C)→tx A E' ρ):try3 K CC i tx th A ρ:=h _ fun _ z=>z
def dl (b:Bool) (t:Str):List D:=if b=true then [.str t] else []
theorem zbs (t u:Str) (b d:Bool):∃ rest,dl b t++dl d u++[PyData.str "ok"]=.str (if b=true then t else if d=true then u else "ok")::rest:=by cases b<;>cases d<;>exact⟨_,rfl⟩
theorem zi7 (t u v:Str) (b d e:Bool):∃ rest,dl b t++dl d u++dl e v++[PyData.str "ok"]=.str (if b=true then t else if d=true then u else if e=true then v else "ok")::rest:=by cases b<;>cases d<;>cases e<;>exact⟨_,rfl⟩
theorem zcP {a b:Int} (hb:0<b):(0<(lowQ a b).1∧(lowQ a b).1≤10*(lowQ a b).2)↔0<a∧a≤10*b:=by
  obtain⟨l1,l2,l3,l4⟩:=zah (a:=a) hb;have hg:=zab (a:=a) hb;show(0<a/(Int.gcd a b:Int)∧a/(Int.gcd a b:Int)≤10*(b/(Int.gcd a b:Int)))↔_;generalize (Int.gcd a b:Int)=g at *;generalize a/g=x at *;generalize b/g=y at *;subst l3 l4;rw [←Int.mul_assoc]
  constructor
  · rintro⟨z1,z2⟩
    exact⟨Int.mul_pos z1 hg,Int.mul_le_mul_of_nonneg_right z2 (by omega)⟩
  · rintro⟨z1,z2⟩
    exact⟨Int.pos_of_mul_pos_left z1 hg,Int.le_of_mul_le_mul_right z2 hg⟩
def tx4 (k:Nat):Str:=["spell", "bounds", "row", "distance"].getD k ""
def dueD (cc:Int) (k:Nat):D:=.list (List.replicate (cc/2 ^ k%2).toNat [PyData.str (tx4 k)]).flatten
theorem zaq (cc:Int) (k:Nat):dueD cc k=.list (dl (decide (cc/2 ^ k%2=1)) (tx4 k)):=by
  unfold dueD
  rcases(show cc/2 ^ k%2=0∨cc/2 ^ k%2=1 by omega) with z|z
  · rw [z];rfl
  · rw [z];rfl
theorem zeX (cc:Int):(List.range 4).map (dueD cc)=[.list (dl (decide (cc/2 ^ 0%2=1)) "spell"),.list (dl (decide (cc/2 ^ 1%2=1)) "bounds"),.list (dl (decide (cc/2 ^ 2%2=1)) "row"),.list (dl (decide (cc/2 ^ 3%2=1)) "distance")]:=by
  show [dueD cc 0,dueD cc 1,dueD cc 2,dueD cc 3]=_
  rw [zaq,zaq,zaq,zaq];rfl
open Classical in
def ansL (l:List Spell) (bs:List (Rat2×Rat2)) (row:List Int) (r:Rat2) (way:Int):Str:=
  if ¬okS l then "spell" else if way=0 then(if ¬zT (many l) (tot l).toNat row then "row" else "ok") else
  if way=1 then(if ¬okB (many l) bs then "bounds" else if ¬zT (many l) (tot l).toNat row then "row" else "ok") else
  if way=2 then(if ¬okB (many l) bs then "bounds" else "ok") else(if ¬(0<r.1∧r.1≤10*r.2) then "distance" else "ok")
theorem zhA {l l':List Spell} {bs:List (Rat2×Rat2)} {row:List Int} {r:Rat2} {b0 b1 b2 b3:Bool} (hok:okS l) (h0:b0=true→¬okS l') (h0':b0=false→l'=l) (h1:okB (many l) bs↔b1=false) (h2:zT (many l) (tot l).toNat row↔b2=false) (h3:(0<r.1∧r.1≤10*r.2)↔b3=false) :
    ansL l' bs row r 0=(if b0=true then("spell" : Str) else if b2=true then("row" : Str) else("ok" : Str))∧ansL l' bs row r 1=(if b0=true then("spell" : Str) else if b1=true then("bounds" : Str) else if b2=true then("row" : Str) else("ok" : Str))∧ansL l' bs row r 2=(if b0=true then("spell" : Str) else if b1=true then("bounds" : Str) else("ok" : Str))∧ansL l' bs row r 3=(if b0=true then("spell" : Str) else if b3=true then("distance" : Str) else("ok" : Str)):=by
  cases b0 with
  | true=>simp [ansL,h0 rfl]
  | false=>
    cases h0' rfl
    have e1:¬okB (many l) bs↔b1=true:=by rw [h1];cases b1<;>simp
    have e2:¬zT (many l) (tot l).toNat row↔b2=true:=by rw [h2];cases b2<;>simp
    have e3:¬(0<r.1∧r.1≤10*r.2)↔b3=true:=by rw [h3];cases b3<;>simp
    unfold ansL;simp only [hok,e1,e2,e3]
    simp
section
variable {P:Program} {w:World} {c:Law.Cl} {K:PySem.W.Frag} {mg:Str→Option Value} {base:Heap}
def J2:Sp3:=fun ds Q E=>∃ ns k,ds=[dI ns,.int k]∧0≤k∧∀ v:Int,Q true (.int v)
def Zm:Sp3:=fun ds Q E=>∃ cc k,ds=[.int cc,.int k]∧0≤k∧k<100000∧∀ v:Int,Q true (.int v)
def Zn:Sp3:=fun ds Q E=>∃ cc k,ds=[.int cc,.int k]∧0≤k∧k<100000∧∀ v:Int,Q true (.int v)
def J9:Sp3:=fun ds Q E=>∃ ns m,ds=[dI ns,.int m]∧4≤m∧m≤60∧∀ l,okS l→(∀ s∈l,∀ w∈s.2,w<10 ^ 6)→Q true (dSs l)
def Zo:Sp3:=fun ds Q E=>∃ l,ds=[dSs l]∧okS l∧Q true (.tuple [.int (zm l),.list ((quoB (zm l) l).map dI)])
def Zu:Sp3:=fun ds Q E=>∃ (b:Int) (rows:List (List Int)) (cc:Int) (n:Nat),ds=[.int b,.list (rows.map dI),.int cc]∧1≤n∧n≤8∧1≤rows.length∧rows.length≤61∧(∀ r∈rows,r.length=n)∧∀ row:List Int,row.length+1=rows.length→(∀ c∈row,0≤c∧c<n)→Q true (dI row)
def J0:Sp3:=fun ds Q E=>∃ a b,ds=[.int a,.int b]∧0<b∧Bits 9000 b∧Q true (dR a b)
def J6:Sp3:=fun ds Q E=>∃ (n:Nat) (cc:Int),ds=[.int n,.int cc]∧n≤8∧∀ l:List (Rat2×Rat2),okB n l→(∀ p∈l,okQ p.1∧okQ p.2)→Q true (dPs l)
def Zh:Sp3:=fun ds Q E=>∃ (l:List (Rat2×Rat2)) (cc:Int) (n:Nat),ds=[dPs l,.int cc]∧okB n l∧1≤n∧n≤8∧(∀ p∈l,okQ p.1∧okQ p.2)∧∀ f l',¬okB n l'→(∀ p∈l',okQ p.1∧okQ p.2)→l'.length≤100→Q f (dPs l')
def Zi:Sp3:=fun ds Q E=>∃ (row:List Int) (n t:Nat) (cc:Int),ds=[dI row,.int n,.int cc]∧zT n t row∧1≤t∧t≤60∧∀ f row',¬zT n t row'→row'.length≤100→Q f (dI row')
def J4:Sp3:=fun ds Q E=>∃ l cc,ds=[dSs l,.int cc]∧okS l∧∀ f l',¬okS l'→l'.length≤100→Q f (dSs l')
def JQ (c:Law.Cl):Sp3:=fun ds Q E=>∃ ws,ds=[dI ws]∧(okW ws→Q true .none)∧(¬okW ws→E c.NoSpell)
def Zj:Sp3:=fun ds Q E=>∃ l,ds=[dSs l]∧l.length≤1000∧Q true (.int (tot l))
def JM (c:Law.Cl):Sp3:=fun ds Q E=>∃ l,ds=[dSs l]∧(okS l→Q true .none)∧(¬okS l→E c.NoSpell)
def Jd:Sp3:=fun ds Q _=>∃ a b,ds=[.int a,.int b]∧Q true (.int (Int.gcd a b))
def Jh:Sp3:=fun ds Q E=>∃ ws,ds=[dI ws]∧Q true (.int (gcdL ws))
def JX:Sp3:=fun ds Q E=>∃ l,ds=[dSs l]∧okS l∧Q true (.int (bot l))
def Zp:Sp3:=fun ds Q E=>∃ b ws,ds=[.int b,dI ws]∧okW ws∧Bits 2000 b∧Q true (dI (shares b ws))
def JJ (c:Law.Cl):Sp3:=fun ds Q E=>∃ l,ds=[dSs l]∧(okS l→Q true (.tuple [.int (bot l),.list ((quo l).map dI)]))∧(¬okS l→E c.NoSpell)
def JP (c:Law.Cl):Sp3:=fun ds Q E=>∃ (row:List Int) (T n:Nat),ds=[dI row,.int T,.int n]∧(zT n T row→Q true .none)∧(¬zT n T row→E c.NoRow)
def Zq (c:Law.Cl):Sp3:=fun ds Q E=>∃ (b:Int) (q:List (List Int)) (row:List Int) (n:Nat),ds=[.tuple [.int b,.list (q.map dI)],dI row]∧1≤n∧n≤8∧1≤q.length∧q.length≤61∧(∀ r∈q,r.length=n)∧(zT n (q.length - 1) row→Q true (.list ((z5 b n q row row.length).map dI)))∧(¬zT n (q.length - 1) row→E c.NoRow)
def Jn:Sp3:=fun ds Q E=>∃ a,ds=[.int a]∧Q true (.bool true)
def Zb:Sp3:=fun ds Q E=>∃ a b,ds=[.int a,.int b]∧0<b∧Bits 9000 b∧Q true (dR a b)
def JR (c:Law.Cl):Sp3:=fun ds Q E=>∃ l row,ds=[dSs l,dI row]∧(okS l→zT (many l) (tot l).toNat row→∀ x,Far (zdi (bot l) (many l) (quo l) row row.length) x→Q true (dR x (bot l)))∧(¬okS l→E c.NoSpell)∧(okS l→¬zT (many l) (tot l).toNat row→E c.NoRow)
def Zt:Sp3:=fun ds Q E=>∃ a b:Rat2,ds=[dQ a,dQ b]∧okQ a∧okQ b∧Q true (.bool (decide (a.1*b.2<b.1*a.2)))
def JZ (c:Law.Cl):Sp3:=fun ds Q E=>∃ (l:List (Rat2×Rat2)) (n:Nat),ds=[dPs l,.int n]∧(∀ p∈l,okQ p.1∧okQ p.2)∧(okB n l→Q true .none)∧(¬okB n l→E c.NoBounds)
def J3:Sp3:=fun ds Q E=>∃ (b:Int) (r:Rat2),ds=[.int b,dQ r]∧Bits 2000 b∧okQ r∧Q true (.int (ZW b r))
def JU (c:Law.Cl):Sp3:=fun ds Q E=>∃ (b:Int) (q:List (List Int)) (l:List (Rat2×Rat2)) (n:Nat),ds=[.tuple [.int b,.list (q.map dI)],dPs l]∧Bits 2000 b∧1≤q.length∧(∀ r∈q,r.length=n)∧n≤8∧l.length≤1000∧(∀ p∈l,okQ p.1∧okQ p.2)∧(okB n l→Q true (.list ((z6 b l).map dRoom)))∧(¬okB n l→E c.NoBounds)
def JS (c:Law.Cl):Sp3:=fun ds Q E=>∃ (l:List Spell) (bs:List (Rat2×Rat2)) (row:List Int),ds=[dSs l,dPs bs,dI row]∧bs.length≤1000∧(∀ p∈bs,okQ p.1∧okQ p.2)∧(okS l→okB (many l) bs→zT (many l) (tot l).toNat row→∀ r:Bool,(r=true↔Jg (z5 (bot l) (many l) (quo l) row row.length) (z6 (bot l) bs))→Q true (.bool r))∧(¬okS l→E c.NoSpell)∧(okS l→¬okB (many l) bs→E c.NoBounds)∧(okS l→okB (many l) bs→¬zT (many l) (tot l).toNat row→E c.NoRow)
def JK:Sp3:=fun ds Q E=>∃ (path:List Int) (w:Int),ds=[dI path,.int w]∧path.length≤61∧1≤path.length∧Q true (.int (zS path.length fun t=>decide (w≤path.getD t 0)))
def JN:Sp3:=fun ds Q E=>∃ (b:Int) (path:List Int) (j:Int) (room:Int×Int),ds=[.int b,dI path,.int j,dRoom room]∧path.length≤61∧1≤path.length∧Bits 2000 b∧Bits 64 j∧Q true (.tuple [.int (winB b path room j).1,dO (winB b path room j).2])
def Ze:Sp3:=fun ds Q E=>∃ (b:Int) (q:List (List Int)) (k:Nat) (room:Int×Int) (n:Nat),ds=[.tuple [.int b,.list (q.map dI)],.int k,dRoom room]∧0<b∧Bits 2000 b∧k<n∧q.length≤61∧1≤q.length∧(∀ r∈q,r.length=n)∧(∀ r∈q,r.getD k 0+room.2≤80*b)∧0≤room.1∧0≤room.2∧room.2≤80*b∧∀ ws,IsW q.length k (winB b (zC q k) room) 1 ws→ws.length≤200→Q true (.list (ws.map dW))
def JL:Sp3:=fun ds Q E=>∃ (b:Int) (q:List (List Int)) (rooms:List (Int×Int)) (n:Nat),ds=[.tuple [.int b,.list (q.map dI)],.list (rooms.map dRoom)]∧0<b∧Bits 2000 b∧rooms.length=n∧n≤8∧q.length≤61∧1≤q.length∧(∀ r∈q,r.length=n)∧(∀ r∈q,∀ x∈r,x≤60*b)∧(∀ p∈rooms,0≤p.1∧0≤p.2∧p.2≤20*b)∧∀ W:List (List Win),W.length=n→(∀ k,k<n→IsW q.length k (winB b (zC q k) (rooms.getD k (0,0))) 1 (W.getD k []))→W.flatten.length≤2000→Q true (.list (W.flatten.map dW))
def Zl (c:Law.Cl):Sp3:=fun ds Q E=>∃ (l:List Spell) (bs:List (Rat2×Rat2)),ds=[dSs l,dPs bs]∧bs.length≤1000∧(∀ p∈bs,okQ p.1∧okQ p.2)∧(okS l→okB (many l) bs→∀ W:List (List Win),W.length=many l→(∀ k,k<many l→IsW (quo l).length k (winB (bot l) (zC (quo l) k) ((z6 (bot l) bs).getD k (0,0))) 1 (W.getD k []))→W.flatten.length≤2000→Q true (.list (W.flatten.map dW)))∧(¬okS l→E c.NoSpell)∧(okS l→¬okB (many l) bs→E c.NoBounds)
def J5:Sp3:=fun ds Q E=>∃ (b:Int) (r:Rat2),ds=[.int b,dQ r]∧Bits 2000 b∧okQ r∧Q true (.int (zW b r))
def JY (c:Law.Cl):Sp3:=fun ds Q E=>∃ (l:List Spell) (r:Rat2),ds=[dSs l,dQ r]∧okQ r∧(okS l→0<r.1→r.1≤10*r.2→∀ W:List (List Win),W.length=many l→(∀ k,k<many l→IsW (quo l).length k (winB (bot l) (zC (quo l) k) (zW (bot l) r,zW (bot l) r)) 1 (W.getD k []))→W.flatten.length≤2000→Q true (.list (W.flatten.map dW)))∧(¬okS l→E c.NoSpell)∧(okS l→¬(0<r.1∧r.1≤10*r.2)→E c.NoDistance)
def J7:Sp3:=fun ds Q E=>∃ (way:Int) (l:List Spell) (bs:List (Rat2×Rat2)) (row:List Int) (r:Rat2),ds=[.int way,dSs l,dPs bs,dI row,dQ r]∧bs.length≤1000∧(∀ p∈bs,okQ p.1∧okQ p.2)∧okQ r∧Q true (.str (ansL l bs row r way))
def JH:Sp3:=fun ds Q E=>∃ ns,ds=[dI ns]∧ns.length≤63∧Q true (.bool true)
section
variable (c:Law.Cl) (P:Program) (w:World) (K:PySem.W.Frag) (mg:Str→Option Value) (base:Heap)
abbrev dd_law_cell_at:=Df3 P w K mg base 1 "_law_cell_at" ["_law_script", "_law_k"] J2
abbrev dd_law_mixed:=Df3 P w K mg base 1 "_law_mixed" ["_law_cell", "_law_k"] Zm
abbrev dd_law_wide:=Df3 P w K mg base 2 "_law_wide" ["_law_cell", "_law_k"] Zn
abbrev dd_law_spells:=Df3 P w K mg base 3 "_law_spells" ["_law_script", "_law_most"] J9
abbrev dd_law_quotas:=Df3 P w K mg base 1 "_law_quotas" ["_law_spells_here"] Zo
abbrev dd_law_row:=Df3 P w K mg base 3 "_law_row" ["_law_bottom", "_law_rows", "_law_cell"] Zu
abbrev dd_law_ratio:=Df3 P w K mg base 1 "_law_ratio" ["_law_top", "_law_bottom"] J0
abbrev dd_law_bounds:=Df3 P w K mg base 3 "_law_bounds" ["_law_clans", "_law_cell"] J6
abbrev dd_law_no_bounds:=Df3 P w K mg base 2 "_law_no_bounds" ["_law_bounds_here", "_law_cell"] Zh
abbrev dd_law_no_row:=Df3 P w K mg base 1 "_law_no_row" ["_law_row_here", "_law_clans", "_law_cell"] Zi
abbrev dd_law_no_spells:=Df3 P w K mg base 1 "_law_no_spells" ["_law_spells_here", "_law_cell"] J4
abbrev dd_check_weights:=Df3 P w K mg base 1 "check_weights" ["weights"] (JQ c)
abbrev dd_all_turns:=Df3 P w K mg base 1 "all_turns" ["spells"] Zj
abbrev dd_check_spells:=Df3 P w K mg base 2 "check_spells" ["spells"] (JM c)
abbrev dd_common_divisor:=Df3 P w K mg base 1 "common_divisor" ["one", "other"] Jd
abbrev dd_divisor_of_all:=Df3 P w K mg base 2 "divisor_of_all" ["weights"] Jh
abbrev dd_least_bottom:=Df3 P w K mg base 3 "least_bottom" ["spells"] JX
abbrev dd_shares_over:=Df3 P w K mg base 1 "shares_over" ["bottom", "weights"] Zp
abbrev dd_quotas:=Df3 P w K mg base 4 "quotas" ["spells"] (JJ c)
abbrev dd_check_row:=Df3 P w K mg base 1 "check_row" ["row", "turns", "clans"] (JP c)
abbrev dd_leads:=Df3 P w K mg base 2 "leads" ["told", "row"] (Zq c)
abbrev dd_is_whole:=Df3 P w K mg base 1 "is_whole" ["value"] Jn
abbrev dd_ratio:=Df3 P w K mg base 2 "ratio" ["top", "bottom"] Zb
abbrev dd_distance:=Df3 P w K mg base 5 "distance" ["spells", "row"] (JR c)
abbrev dd_less:=Df3 P w K mg base 1 "less" ["one", "other"] Zt
abbrev dd_check_bounds:=Df3 P w K mg base 2 "check_bounds" ["bounds", "clans"] (JZ c)
abbrev dd_room_at_most:=Df3 P w K mg base 1 "room_at_most" ["bottom", "bound"] J3
abbrev dd_rooms_of:=Df3 P w K mg base 3 "rooms_of" ["told", "bounds"] (JU c)
abbrev dd_keeps:=Df3 P w K mg base 5 "keeps" ["spells", "bounds", "row"] (JS c)
abbrev dd_first_turn:=Df3 P w K mg base 1 "first_turn" ["path", "wanted"] JK
abbrev dd_window_of:=Df3 P w K mg base 2 "window_of" ["bottom", "path", "j", "room"] JN
abbrev dd_windows_of_clan:=Df3 P w K mg base 3 "windows_of_clan" ["told", "clan", "room"] Ze
abbrev dd_windows_within:=Df3 P w K mg base 4 "windows_within" ["told", "rooms"] JL
abbrev dd_windows:=Df3 P w K mg base 5 "windows" ["spells", "bounds"] (Zl c)
abbrev dd_room_less:=Df3 P w K mg base 1 "room_less" ["bottom", "bound"] J5
abbrev dd_windows_less:=Df3 P w K mg base 5 "windows_less" ["spells", "least"] (JY c)
abbrev dd_law_answer:=Df3 P w K mg base 6 "_law_answer" ["_law_way", "_law_spells_here", "_law_bounds_here", "_law_row_here", "_law_far"] J7
end
local macro_rules | `(tactic| walk_at $w:str)=>do
    let ws:=w.getString.splitOn " "
    if ws.head? == some "o" then return (←`(tactic| first|exact Or.inl rfl|exact Or.inr rfl|exact Or.inr (Or.inl rfl)|exact Or.inr (Or.inr rfl)))
    unless ws.head? == some "rd" do Lean.Macro.throwUnsupported
    let ls ←(("seq3,next3,set3,own3,ret3,ifS3,tt3,o3,u3,v3,atV,asS,asB,asD,optP,asT,asLd,asL,atO,Zf,nilP,asId,asI,k3,nw3,add3,int3,int0,neg3,eq3,ne3,eqOk,eqv3,notN3,isNone,ix3,ixD,Z3,nil3,ZT,cb3,len3,lenD,abs3,sum3,max3,min3,or3,not3,ZJ,ZF,ch3,tup3,lst3,ZX,catN,slL3,no3,Z4,ZI,L2.isD,ZV,asg3,gn3,Z0,ZC,gnil3,app3,put3,frzS,frz,frz1,for3,itL,itT,itZ,rg1,rg2,jO,true3,cst3,ZG,try3,ZY,xif3,isxr,isxy,isxt,jp,shs,Cl.d,Cl.dat,Cl.f,zan,zy,Option.map_some,Option.map_none,Option.isSome_some,Option.isSome_none,Option.join_some,Option.join_none,List.all_cons,List.all_nil,Bool.and_true,Bool.true_and,Bool.and_self,Bool.or_false,Bool.false_or,Bool.or_true,Bool.true_or,List.map_cons,List.map_nil,List.length_cons,List.length_nil,Nat.reduceAdd,Nat.reduceSub,Nat.sub_self,List.replicate,List.cons_append,List.nil_append,List.append_nil,List.getElem?_cons_zero,List.getElem?_cons_succ,List.set_cons_zero,List.set_cons_succ,Option.some.injEq,Cl.sh.injEq,Cl.ow.injEq,Cl.ex.injEq,PyData.int.injEq,PyData.bool.injEq,PyData.str.injEq,PyData.list.injEq,PyData.tuple.injEq,List.cons.injEq,reduceCtorEq,and_assoc,and_true,true_and,and_self,exists_eq_left,exists_eq_left',exists_eq',exists_eq_right,exists_eq_right',exists_and_left,exists_const,exists_false,false_and,and_false,or_false,false_or,or_true,true_or,decide_true,decide_false,decide_eq_true_eq,Bool.not_true,Bool.not_false,Bool.false_eq_true,Bool.true_eq_false,if_true,if_false,ite_true,ite_false,Bool.not_eq_true',decide_eq_false_iff_not,eq_self_iff_true,not_true_eq_false,not_false_eq_true,sz0,sz1,sz2,sz3,sz4,sz5,par3,Z7,aug3,ZB,max33,idx3,ext3,itE,repN,ZE,ZO,J2,Zm,Zn,J9,Zo,Zu,J0,J6,Zh,Zi,J4,JQ,Zj,JM,Jd,Jh,JX,Zp,JJ,JP,Zq,Jn,Zb,JR,Zt,JZ,J3,JU,JS,JK,JN,Ze,JL,Zl,J5,JY,J7,JH,dSs,dS,dI,zy,dQ,dP,dPs,dRoom,dW".splitOn ",")++ws.tail).toArray.mapM fun s=>`(Lean.Parser.Tactic.simpLemma| $(Lean.mkIdent s.toName):term)
    `(tactic| try simp (config:={ maxSteps:=2000000 }) only [$ls:simpLemma,*])
theorem zhO:FnScope ["_law_script", "_law_k"] ["_law_script", "_law_k"] (ze Jv):=⟨rfl,rfl,rfl,by decide +kernel,rfl,by decide +kernel,by decide +kernel⟩
theorem zdN (T:Txt c K mg) {f:Addr} {fd:FuncData} (F:Fun K "_law_cell_at" "_law_cell_at" Jv f fd):FnOk P w K mg base (CXR P w) 1 f fd ["_law_script", "_law_k"] (spL K J2):=by
  have S:=zhO;refine fn3 F S (fun ds Q E h=>?_) (fun cdv A outer s H E E3 hE hr=>?_)
  · obtain⟨_,_,rfl,_⟩:=h;rfl
  refine⟨_,(zc (s_if (zl jG (n3 1) (zw zL rfl T.n_len zK (za (n3 0) zb)) (nomark _)) (zd (zj (op3 zo (at3 (n3 0) (n3 1) (fun _ _=>rfl)) (op3 z8 i3 i3)))) zn)
    (zd (zj i3))),fun ds Q h=>?_⟩
  obtain⟨ns,k,rfl,hk,q⟩:=h
  walk_at "rd"
  rw [List.length_map]
  by_cases h:k<ns.length
  · rw [if_pos h]
    obtain⟨x,h1,_⟩:=jJ (xs:=ns) hk h;refine⟨.int x,by rw [JT,h1];rfl,c64,?_⟩
    exact⟨by decide,q _⟩
  · rw [if_neg h]
    exact q _
theorem zgj (T:Txt c K mg) : dd_law_cell_at P w K mg base:=by
  obtain⟨f,fd,F,hm⟩:=T.d_law_cell_at;have hb:=F.binds (ps:=["_law_script", "_law_k"]) fun _ _ _ _ _ _ us hl=>by obtain⟨_,_,rfl⟩:=zR hl;rfl
  refine⟨fun ds Q Q' E E' hQ hE h=>?_,⟨f,fd,zdN T F,hb,F.kp,hm⟩⟩
  obtain⟨a,b,e,z,h⟩:=h;exact⟨a,b,e,z,fun v=>hQ _ _ (h v)⟩
theorem zee:FnScope ["_law_cell", "_law_k", "_law_one"] ["_law_cell", "_law_k"] (ze Jr):=⟨rfl,rfl,rfl,by decide +kernel,rfl,by decide +kernel,by decide +kernel⟩
theorem zeW (T:Txt c K mg) {f:Addr} {fd:FuncData} (F:Fun K "_law_mixed" "_law_mixed" Jr f fd):FnOk P w K mg base (CXR P w) 1 f fd ["_law_cell", "_law_k"] (spL K Zm):=by
  have S:=zee;refine fn3 F S (fun ds Q E h=>?_) (fun cdv A outer s H E E3 hE hr=>?_)
  · obtain⟨_,_,rfl,_⟩:=h;rfl
  refine⟨_,(zc (zf (i:=2) S.nd rfl (by walk_at "o") (op3 zo (op3 zU (op3 zz (op3 zo (n3 0) (op3 z8 i3 i3)) (op3 zU i3 (op3 zz (n3 1) i3))) i3) (op3 z8 i3 i3)))
    (zd (zj (op3 zo (op3 zr (op3 zU (n3 2) (n3 2)) (op3 z8 i3 i3)) (op3 z8 i3 i3))))),fun ds Q h=>?_⟩
  obtain⟨cc,k,rfl,h0,h1,q⟩:=h
  walk_at "rd"
  have cp:∀ n:Int,0≤n→n≤100→jP 10 n:=fun n h h'=>powB (k:=4) (by unfold Bits;decide) h (by omega)
  have hk:Bits 64 (k+1):=by unfold Bits;omega
  have b1:Bits 128 (cc%10 ^ Int.toNat 18):=(Bits.emod (Bits.lit 64) (by decide) _).mono (by decide)
  have b2:=(Bits.lit (x:=1442695040888963407) 64).mul hk;have b3:=b1.add b2;generalize cc%10 ^ Int.toNat 18+1442695040888963407*(k+1)=y at b3 ⊢;have b4:Bits 130 (y*6364136223846793005%10 ^ Int.toNat 37):=Bits.emod (by unfold Bits;decide) (by decide) _
  generalize y*6364136223846793005%10 ^ Int.toNat 37=z at b4 ⊢;exact⟨cp 18 (by decide) (by decide),by decide,(Bits.lit (x:=1442695040888963407) 64).mulOk hk (by decide),b3.mulOk (Bits.lit 64) (by decide),cp 37 (by decide) (by decide),by decide,b4.mulOk b4 (by decide),cp 17 (by decide) (by decide),divP,cp 56 (by decide) (by decide),by decide,q _⟩
theorem zeh (T:Txt c K mg) : dd_law_mixed P w K mg base:=by
  obtain⟨f,fd,F,hm⟩:=T.d_law_mixed;have hb:=F.binds (ps:=["_law_cell", "_law_k"]) fun _ _ _ _ _ _ us hl=>by obtain⟨_,_,rfl⟩:=zR hl;rfl
  refine⟨fun ds Q Q' E E' hQ hE h=>?_,⟨f,fd,zeW T F,hb,F.kp,hm⟩⟩
  obtain⟨a,b,e,z,y,h⟩:=h;exact⟨a,b,e,z,y,fun v=>hQ _ _ (h v)⟩
theorem zeR:FnScope ["_law_cell", "_law_k"] ["_law_cell", "_law_k"] (ze Jq):=⟨rfl,rfl,rfl,by decide +kernel,rfl,by decide +kernel,by decide +kernel⟩
theorem zjA (T:Txt c K mg) (zjZ:dd_law_mixed P w K mg base) {f:Addr} {fd:FuncData} (F:Fun K "_law_wide" "_law_wide" Jq f fd):FnOk P w K mg base (CXR P w) 2 f fd ["_law_cell", "_law_k"] (spL K Zn):=by
  have S:=zeR;refine fn3 F S (fun ds Q E h=>?_) (fun cdv A outer s H E E3 hE hr=>?_)
  · obtain⟨_,_,rfl,_⟩:=h;rfl
  refine⟨_,(zc (s_if (zl jG (n3 0) (op3 z8 i3 i3) (nomark _)) (zd (zj (df3 hE zjZ (hr.mono (by decide)) rfl zi (za (n3 0) (za (n3 1) zb))))) zn)
    (zd (zj (n3 0)))),fun ds Q h=>?_⟩
  obtain⟨cc,k,rfl,h0,h1,q⟩:=h
  walk_at "rd"
  refine⟨powB (k:=4) (by unfold Bits;decide) (by decide) (by decide),ite2 (fun _=>⟨h0,h1,q⟩) fun _=>q _⟩
theorem zhQ (T:Txt c K mg) (zjZ:dd_law_mixed P w K mg base):dd_law_wide P w K mg base:=by
  obtain⟨f,fd,F,hm⟩:=T.d_law_wide;have hb:=F.binds (ps:=["_law_cell", "_law_k"]) fun _ _ _ _ _ _ us hl=>by obtain⟨_,_,rfl⟩:=zR hl;rfl
  refine⟨fun ds Q Q' E E' hQ hE h=>?_,⟨f,fd,zjA T zjZ F,hb,F.kp,hm⟩⟩
  obtain⟨a,b,e,z,y,h⟩:=h;exact⟨a,b,e,z,y,fun v=>hQ _ _ (h v)⟩
theorem ziQ:FnScope ["_law_script", "_law_most", "_law_first", "_law_clans", "_law_count", "_law_spells_here", "_law_k", "_law_cell", "_law_length", "_law_size", "_law_weights", "_law_i"] ["_law_script", "_law_most"] (ze Jw):=⟨rfl,rfl,rfl,by decide +kernel,rfl,by decide +kernel,by decide +kernel⟩
theorem zfb (T:Txt c K mg) (zjY:dd_law_cell_at P w K mg base) (zj7:dd_law_wide P w K mg base) {f:Addr} {fd:FuncData} (F:Fun K "_law_spells" "_law_spells" Jw f fd):FnOk P w K mg base (CXR P w) 3 f fd ["_law_script", "_law_most"] (spL K J9):=by
  have S:=ziQ;refine fn3 F S (fun ds Q E h=>?_) (fun cdv A outer s H E E3 hE hr=>?_)
  · obtain⟨_,_,rfl,_⟩:=h;rfl
  refine⟨_,(zc (zf (i:=2) S.nd rfl (by walk_at "o") (df3 hE zjY (hr.mono (by decide)) rfl zi (za (n3 0) (za i3 zb))))
    (zc (zf (i:=3) S.nd rfl (by walk_at "o") (op3 zz i3 (op3 zo (n3 2) i3)))
    (zc (zf (i:=4) S.nd rfl (by walk_at "o") (op3 zz i3 (op3 zo (op3 zr (n3 2) i3) i3)))
    (zc (je (i:=5) S.nd rfl (by walk_at "o") (zp zb))
    (zc (zI PassesOwn.leaving rfl (jg rfl T.n_range (za (n3 4) zb)) (zg (i:=6) S.nd rfl (by walk_at "o")) (zc (zf (i:=7) S.nd rfl (by walk_at "o") (df3 hE zj7 (hr.mono (by decide)) rfl zi (za (df3 hE zjY (hr.mono (by decide)) rfl zi (za (n3 0) (za (op3 zz i3 (n3 6)) zb))) (za (op3 zz (op3 zo (n3 2) i3) (op3 zU i3 (n3 6))) zb))))
      (zc (zf (i:=8) S.nd rfl (by walk_at "o") (op3 zz i3 (op3 zo (n3 7) (op3 zr (n3 1) (n3 4)))))
      (zc (zf (i:=7) S.nd rfl (by walk_at "o") (op3 zr (n3 7) (op3 zr (n3 1) (n3 4))))
      (zc (zf (i:=9) S.nd rfl (by walk_at "o") (at3 (new3 (zp (za i3 (za i3 (za i3 (za (op3 z8 i3 i3) zb)))))) (op3 zo (n3 7) i3) (fun _ _=>rfl)))
      (zc (zf (i:=7) S.nd rfl (by walk_at "o") (op3 zr (n3 7) i3))
      (zc (je (i:=10) S.nd rfl (by walk_at "o") (zp zb))
      (zc (zI PassesOwn.leaving rfl (jg rfl T.n_range (za (n3 3) zb)) (zg (i:=11) S.nd rfl (by walk_at "o")) (zc (jj (i:=10) rfl (by walk_at "o") (op3 zo (n3 7) (n3 9)))
        (zd (zf (i:=7) S.nd rfl (by walk_at "o") (op3 zr (n3 7) (n3 9))))))
      (zc (s_if (zl (zJ hr.units) (zw (Je rfl) rfl T.n_sum Jz (za (n3 10) zb)) i3 (nomark _)) (zd (zbG (i:=10) rfl (by walk_at "o") (op3 zo (n3 7) (n3 3)) i3)) zn)
      (zd (ju [10] (jj (i:=5) rfl (by walk_at "o") (zF (za (n3 8) (za (n3 10) zb)))))))))))))))
    (zd (ju [5] (zj (n3 5))))))))),fun ds Q h=>?_⟩
  obtain⟨ns,m,rfl,h4,h60,q⟩:=h
  walk_at "rd"
  refine⟨ns,rfl,by decide,fun v=>⟨by decide,divP,by decide,by omega,by omega,?_⟩⟩
  obtain⟨n,hn⟩:∃ n:Nat,1+v%8=(n:Int):=⟨(1+v%8).toNat,by omega⟩
  obtain⟨cn,hcn⟩:∃ n:Nat,1+v/8%4=(n:Int):=⟨(1+v/8%4).toNat,by omega⟩
  have hn8:1≤n∧n≤8:=by omega
  have hc4:1≤cn∧cn≤4:=by omega
  rw [hn,hcn,Int.toNat_natCast];have hmul:(cn:Int)*(m/cn)≤m:=Int.mul_ediv_self_le (by omega)
  have hper:1≤m/(cn:Int):=Int.le_ediv_of_mul_le (by omega) (by omega)
  have hper2:m/(cn:Int)≤60:=Int.le_trans (Int.ediv_le_self _ (by omega)) h60
  have dcn:jV m (cn:Int):=⟨by omega,Bits.lit (x:=(cn:Int)) 9000 (by omega)⟩
  generalize hp:m/(cn:Int)=per at hmul hper hper2;have c6:jP 10 6:=powB (k:=4) (by unfold Bits;decide) (by decide) (by decide)
  refine ji (fun k ρ=>∃ (l:List Spell) (t1 t2 t3 t4 t5 t6:Option L3.Cl),ρ = [some (.sh false (.list (ns.map .int))),some (.sh true (.int m)),some (.sh true (.int v)),some (.sh true (.int n)),some (.sh true (.int cn)),some (.ow true (l.map dS)),t1,t2,t3,t4,t5,t6]∧l.length=k∧∀ s∈l,1≤s.1∧s.1≤per∧okW s.2∧s.2.length=n∧∀ w∈s.2,w<10 ^ 6) ?_ ?_ ⟨[],none,none,none,none,none,none,rfl,rfl,fun s h=>by cases h⟩
  · rintro k ρ hk ⟨l,t1,t2,t3,t4,t5,t6,rfl,hl,hs⟩ W hW
    walk_at "rd"
    rw [hp];refine⟨ns,rfl,by omega,fun v1=>⟨by decide,(Bits.lit (x:=64) 64).mulOk (Bits.lit (x:=0+(k:Int)) 64 (by omega)) (by decide),by omega,by omega,fun v2=>⟨dcn,by omega,dcn,⟨by omega,Bits.lit (x:=per) 9000 (by omega)⟩,c6,by decide,?_⟩⟩⟩
    obtain⟨d,hd,hm,_⟩:=jJ (xs:=[PyData.int 3,PyData.int 11,PyData.int 2,PyData.int (10 ^ Int.toNat 6)]) (i:=v2/per%4) (by omega) (by show v2/per%4<4;omega)
    obtain⟨sz',rfl,hs2,hs30⟩:∃ z,d=PyData.int z∧2≤z∧z≤10 ^ 6:=by
      simp only [List.mem_cons,List.not_mem_nil,or_false] at hm
      rcases hm with rfl|rfl|rfl|rfl<;>exact⟨_,rfl,by decide,by decide⟩
    refine⟨_,hd,?_⟩
    walk_at "rd"
    refine⟨divP,by omega,by omega,?_⟩
    have hsb:Bits 9000 sz':=Bits.lit (x:=sz') 9000 (by omega)
    have hlen0:=Int.emod_nonneg v2 (show per≠0 by omega)
    have hlen1:=Int.emod_lt_of_pos v2 (show 0<per by omega)
    rw [Int.toNat_natCast];refine ji (fun j ρ=>∃ (ws:List Int) (c':Int) (t:Option L3.Cl),ρ = [some (.sh false (.list (ns.map .int))),some (.sh true (.int m)),some (.sh true (.int v)),some (.sh true (.int n)),some (.sh true (.int cn)),some (.ow true (l.map dS)),some (.sh true (.int (0+k))),some (.sh true (.int c')),some (.sh true (.int (1+v2%per))),some (.sh true (.int sz')),some (.ow true (ws.map .int)),t]∧ws.length=j∧∀ w∈ws,0≤w∧w<10 ^ 6) ?_ ?_ ⟨[],_,t6,rfl,rfl,fun _ h=>by cases h⟩
    · rintro j ρ hj ⟨ws,c',t,rfl,hl',hw⟩ W' hW'
      walk_at "rd"
      rw [List.length_map];refine⟨by omega,Nat.lt_of_lt_of_le (show _<1000000 by omega) (by decide),⟨by omega,hsb⟩,hW' _ ⟨ws++[c'%sz'],_,_,by rw [List.map_append];rfl,by simp [hl'],fun w hw'=>?_⟩⟩
      rcases List.mem_append.mp hw' with z|z
      · exact hw w z
      · rw [List.mem_singleton.mp z]
        have:=Int.emod_nonneg c' (show sz'≠0 by omega)
        have:=Int.emod_lt_of_pos c' (show 0<sz' by omega)
        exact⟨by omega,by omega⟩
    · rintro ρ ⟨ws,c',t,rfl,hl',hw⟩
      have e6:(10:Int) ^ 6≤10 ^ 30:=by decide
      have fin:∀ ws':List Int,ws'.length=n→(∀ w∈ws',0≤w∧w<10 ^ 6)→ws'.sum≠0→∀ t t7,W [some (.sh false (.list (ns.map .int))),some (.sh true (.int m)),some (.sh true (.int v)),some (.sh true (.int n)),some (.sh true (.int cn)),some (.ow true (l.map dS++[.tuple [.int (1+v2%per),.list (ws'.map .int)]])),some (.sh true (.int (0+k))),some (.sh true (.int c')),some (.sh true (.int (1+v2%per))),some (.sh true (.int sz')),t7,t]:=fun ws' h1 h2 h3 t t7=>hW _ ⟨l++[(1+v2%per,ws')],_,_,_,_,_,_,by rw [List.map_append];rfl,by simp [hl],fun s hs'=>by
        rcases List.mem_append.mp hs' with z|z
        · exact hs s z
        · rw [List.mem_singleton.mp z]
          exact⟨by show 1≤1+v2%per;omega,by show 1+v2%per≤per;omega,⟨by show 1≤ws'.length∧ws'.length≤8;omega,fun w hw=>⟨(h2 w hw).1,by have:=(h2 w hw).2;omega⟩,h3⟩,h1,fun w hw=>(h2 w hw).2⟩⟩
      walk_at "rd"
      refine⟨ws,jh _,?_⟩
      by_cases hz:ws.sum=0
      · rw [if_pos hz]
        have m0:=Int.emod_nonneg c' (show(n:Int)≠0 by omega)
        have m1:=Int.emod_lt_of_pos c' (show 0<(n:Int) by omega)
        have hi:ixN (ws.map PyData.int).length (c'%n)=some (c'%n).toNat:=by
          rw [List.length_map];exact zaD m0 (by omega)
        have e:(ws.map PyData.int).set (c'%n).toNat (PyData.int 1)=(ws.set (c'%n).toNat 1).map PyData.int:=by rw [List.map_set]
        have hw':∀ w∈ws.set (c'%n).toNat 1,0≤w∧w<10 ^ 6:=fun w h=>by
          rcases List.mem_or_eq_of_mem_set h with z|z
          · exact hw w z
          · subst z;exact⟨by decide,by decide⟩
        refine⟨by omega,_,hi,?_⟩
        rw [e];exact⟨Nat.lt_of_lt_of_le (show _<1000000 by rw [List.length_map];omega) (by decide),fin _ (by rw [List.length_set];exact hl') hw' (zeJ (fun w h=>(hw' w h).1) (List.mem_set (by omega) 1)) _ _⟩
      · rw [if_neg hz]
        exact⟨Nat.lt_of_lt_of_le (show _<1000000 by rw [List.length_map];omega) (by decide),fin ws hl' hw hz _ _⟩
  · rintro ρ ⟨l,t1,t2,t3,t4,t5,t6,rfl,hl,hs⟩
    walk_at "rd"
    have hmany:∀ s∈l,s.2.length=many l:=fun s hs'=>by
      cases l with
      | nil=>cases hs'
      | cons a r=>exact(hs s hs').2.2.2.1.trans (hs a List.mem_cons_self).2.2.2.1.symm
    refine q l ⟨by omega,fun s hs'=>⟨(hs s hs').1,(hs s hs').2.2.1,hmany s hs'⟩,?_⟩ fun s hs'=>(hs s hs').2.2.2.2
    have:=zdu (l:=l) (B:=per) fun s hs'=>(hs s hs').2.1
    have h2:(l.length:Int)*per≤cn*per:=by rw [hl];exact Int.le_refl _
    omega
theorem zg4 (T:Txt c K mg) (zjY:dd_law_cell_at P w K mg base) (zj7:dd_law_wide P w K mg base):dd_law_spells P w K mg base:=by
  obtain⟨f,fd,F,hm⟩:=T.d_law_spells;have hb:=F.binds (ps:=["_law_script", "_law_most"]) fun _ _ _ _ _ _ us hl=>by obtain⟨_,_,rfl⟩:=zR hl;rfl
  refine⟨fun ds Q Q' E E' hQ hE h=>?_,⟨f,fd,zfb T zjY zj7 F,hb,F.kp,hm⟩⟩
  obtain⟨a,b,e,z,y,h⟩:=h;exact⟨a,b,e,z,y,fun l hl hw=>hQ _ _ (h l hl hw)⟩
theorem zgG:FnScope ["_law_spells_here", "_law_bottom", "_law_length", "_law_weights", "_law_rows", "_law_turn", "_law_row_here", "_law_k", "_law_share"] ["_law_spells_here"] (ze jK):=⟨rfl,rfl,rfl,by decide +kernel,rfl,by decide +kernel,by decide +kernel⟩
theorem zi6 (T:Txt c K mg) {f:Addr} {fd:FuncData} (F:Fun K "_law_quotas" "_law_quotas" jK f fd):FnOk P w K mg base (CXR P w) 1 f fd ["_law_spells_here"] (spL K Zo):=by
  have S:=zgG;refine fn3 F S (fun ds Q E h=>?_) (fun cdv A outer s H E E3 hE hr=>?_)
  · obtain⟨_,rfl,_⟩:=h;rfl
  refine⟨_,(zc (zf (i:=1) S.nd rfl (by walk_at "o") i3)
    (zc (zI PassesOwn.leaving rfl (zM (n3 0)) (z3 (n:=2) rfl (zA (zg (i:=2) S.nd rfl (by walk_at "o")) (zA (zg (i:=3) S.nd rfl (by walk_at "o")) z0))) (zd (zf (i:=1) S.nd rfl (by walk_at "o") (op3 zU (n3 1) (zw (Je rfl) rfl T.n_sum Jz (za (n3 3) zb))))))
    (zc (je (i:=4) S.nd rfl (by walk_at "o") (zp (za (new3 (jd ["_law_weight"] [] [] rfl (z4 (osc:=ze jK) (by decide +kernel)) rfl (zM (at3 (at3 (n3 0) i3 (fun _ _=>rfl)) i3 (fun _ _=>rfl))) (fun H0 s H fp cl=>⟨(zg (i:=0) (show((["_law_weight"]:List PySem.Str)++([]:List PySem.Str)).Nodup by decide) rfl (by walk_at "o")),zY,i3⟩))) zb)))
    (zc (zI PassesOwn.leaving rfl (zM (n3 0)) (z3 (n:=2) rfl (zA (zg (i:=2) S.nd rfl (by walk_at "o")) (zA (zg (i:=3) S.nd rfl (by walk_at "o")) z0))) (zd (zI PassesOwn.leaving rfl (jg rfl T.n_range (za (n3 2) zb)) (zg (i:=5) S.nd rfl (by walk_at "o")) (zc (je (i:=6) S.nd rfl (by walk_at "o") (zp zb))
        (zc (zI PassesOwn.leaving rfl (jg rfl T.n_range (za (zw zL rfl T.n_len zK (za (n3 3) zb)) zb)) (zg (i:=7) S.nd rfl (by walk_at "o")) (zc (zf (i:=8) S.nd rfl (by walk_at "o") (op3 zU (at3 (n3 3) (n3 7) (fun _ _=>rfl)) (op3 zr (n3 1) (zw (Je rfl) rfl T.n_sum Jz (za (n3 3) zb)))))
          (zd (jj (i:=6) rfl (by walk_at "o") (op3 zz (at3 (at3 (n3 4) (un3 jm i3) (fun _ _=>rfl)) (n3 7) (fun _ _=>rfl)) (n3 8))))))
        (zd (ju [6] (jj (i:=4) rfl (by walk_at "o") (n3 6)))))))))
    (zd (ju [4] (zj (zF (za (n3 1) (za (n3 4) zb)))))))))),fun ds Q h=>?_⟩
  obtain⟨l,rfl,hok,q⟩:=h;have hm:=JI hok;have hB:=zcW hok;have hBb:=zbT hok;have hl0:l≠[]:=fun z=>by have:=hok.1.1;rw [z] at this;simp at this
  have hd0:atI (l.map dS) 0=some (dS (l.headD (0,[]))):=by
    cases l with
    | nil=>exact absurd rfl hl0
    | cons a r=>exact atI0
  walk_at "rd"
  refine jk dS l (fun done ρ=>∃ t u,ρ = [some (.sh false (.list (l.map dS))),some (.sh true (.int (zm done))),t,u,none,none,none,none,none]) ?_ ?_ ⟨none,none,rfl⟩
  · rintro done s rest ρ hd ⟨t,u,rfl⟩ W hW
    have hs:s∈l:=by rw [hd];simp
    have hsok:=(hok.2.1 s hs).2.1;have hpd:=zaE done 1 1 (fun t ht=>(hok.2.1 t (by rw [hd];exact List.mem_append_left _ ht)).2.1) (by decide) (by unfold Bits;decide)
    have hdl:done.length≤8:=by have:=hok.1.2;rw [hd,List.length_append] at this;omega
    walk_at "rd"
    refine⟨s.2,jh _,(hpd.2.mono (k:=900) (by omega)).mulOk (Zr hsok) (by decide),?_⟩
    rw [←zd5];exact hW _ ⟨_,_,rfl⟩
  rintro ρ ⟨t,u,rfl⟩
  walk_at "rd hd0 atI1 List.length_map"
  refine⟨sz (by have:=hm.2;unfold many at this;omega),?_⟩
  refine zZ PyData.int (fun _=>.int 0) (fun ρ=>∃ t,ρ = [t]) (l.headD (0,[])).2 ?_ _ _ _ _ ⟨none,rfl⟩ ?_
  · rintro w hw ρ fa acc K ⟨t,rfl⟩ k
    walk_at "rd"
    exact k _ ⟨_,rfl⟩
  have hz:(l.headD (0,[])).2.map (fun _=>PyData.int 0)=(zeros l).map .int:=by
    unfold zeros many;rw [List.map_replicate,List.map_const']
  rw [List.nil_append,hz];have hz0:jL (many l) (zeros l,[zeros l]):=⟨by unfold zeros;simp,fun r hr=>by rw [List.mem_singleton.mp hr];unfold zeros;simp⟩
  refine jk dS l (fun done ρ=>∃ t1 t2 t3 t4 t5 t6 r,ρ = [some (.sh false (.list (l.map dS))),some (.sh true (.int (zm l))),t1,t2,some (.ow true ((runQ (zm l) done (zeros l,[zeros l])).2.map dI)),t3,t4,t5,t6]∧jL (many l) (runQ (zm l) done (zeros l,[zeros l]))∧(runQ (zm l) done (zeros l,[zeros l])).2=r++[(runQ (zm l) done (zeros l,[zeros l])).1]∧((runQ (zm l) done (zeros l,[zeros l])).2.length:Int)=1+tot done) ?_ ?_ ⟨_,_,none,none,none,none,[],rfl,hz0,rfl,rfl⟩
  · rintro done s rest ρ hd ⟨t1,t2,t3,t4,t5,t6,r,rfl,hlp,hlast,hlen⟩ W hW
    have hs:s∈l:=by rw [hd];simp
    obtain⟨hs1,hsok,hsn⟩:=hok.2.1 s hs;have hsl:s.2.length=many l:=hsn;have h1t:∀ s∈l,1≤s.1:=fun s hs=>(hok.2.1 s hs).1
    have hdt:tot done+s.1≤60:=by
      have h60:=hok.2.2;have e:tot l=tot done+(s.1+tot rest):=by unfold tot;rw [hd,List.map_append,List.sum_append,List.map_cons,List.sum_cons]
      have:0≤tot rest:=jC fun s hs=>h1t s (by rw [hd];exact List.mem_append_right _ (List.mem_cons_of_mem _ hs))
      omega
    have hdv:s.2.sum∣zm l:=ziC hs;have hsp:=jz hsok;generalize hp:runQ (zm l) done (zeros l,[zeros l])=p at hlp hlast hlen;have er:runQ (zm l) (done++[s]) (zeros l,[zeros l])=rep (zH (shares (zm l) s.2)) s.1.toNat p:=by
      unfold runQ at hp ⊢;rw [List.foldl_append,hp];rfl
    have et:tot (done++[s])=tot done+s.1:=by unfold tot;rw [List.map_append,List.sum_append];simp
    rw [er,et] at hW;have hsx:∀ i (hi:i<s.2.length),s.2[i]*(zm l/s.2.sum)=(shares (zm l) s.2).getD i 0:=fun i hi=>by
      unfold shares;rw [List.getD_eq_getElem?_getD,List.getElem?_map,List.getElem?_eq_getElem hi];show _=s.2[i]*zm l/s.2.sum;rw [Int.mul_ediv_assoc _ hdv]
    have hshl:(shares (zm l) s.2).length=many l:=by rw [zb2];exact hsl
    generalize shares (zm l) s.2=sh at hW hsx hshl er
    walk_at "rd"
    refine⟨by omega,by omega,?_⟩
    refine ji (fun j ρ=>∃ t3 t4 t5 t6 r,ρ = [some (.sh false (.list (l.map dS))),some (.sh true (.int (zm l))),some (.sh true (.int s.1)),some (.sh false (.list (s.2.map .int))),some (.ow true ((rep (zH sh) j p).2.map dI)),t3,t4,t5,t6]∧jL (many l) (rep (zH sh) j p)∧(rep (zH sh) j p).2=r++[(rep (zH sh) j p).1]∧((rep (zH sh) j p).2.length:Int)=1+tot done+j) ?_ ?_ ⟨_,_,_,_,r,rfl,hlp,hlast,by show(p.2.length:Int)=_;omega⟩
    · rintro j ρ hj ⟨y3,y4,y5,y6,r,rfl,hlp',hlast',hlen'⟩ W' hW'
      rw [zbz] at hW';generalize rep (zH sh) j p=pj at hlp' hlast' hlen' hW';have hadl:(addL pj.1 sh).length=many l:=by rw [zcr (by rw [hlp'.1,hshl]),hlp'.1]
      have hla:atI (pj.2.map dI) (-1)=some (PyData.list (pj.1.map PyData.int)):=by
        rw [hlast',List.map_append,List.map_cons,List.map_nil,zcC];rfl
      walk_at "rd"
      rw [List.length_map,hsl];refine⟨by omega,by omega,?_⟩
      rw [Int.toNat_natCast];refine ji (fun i ρ=>∃ t5 t6,ρ = [some (.sh false (.list (l.map dS))),some (.sh true (.int (zm l))),some (.sh true (.int s.1)),some (.sh false (.list (s.2.map .int))),some (.ow true (pj.2.map dI)),some (.sh true (.int (0+j))),some (.ow true (((addL pj.1 sh).take i).map .int)),t5,t6]) ?_ ?_ ⟨_,_,rfl⟩
      · rintro i ρ hi ⟨v5,v6,rfl⟩ W2 hW2
        have hi1:i<s.2.length:=by rw [hsl];exact hi
        have hi2:i<pj.1.length:=by rw [hlp'.1];exact hi
        have hi3:i<sh.length:=by rw [hshl];exact hi
        have hw:atI (s.2.map PyData.int) (0+(i:Int))=some (PyData.int s.2[i]):=zcL hi1;have hq:atI (pj.1.map PyData.int) (0+(i:Int))=some (PyData.int pj.1[i]):=zcL hi2;have htk:(addL pj.1 sh).take (i+1)=(addL pj.1 sh).take i++[pj.1[i]+sh.getD i 0]:=by
          rw [List.take_succ_eq_append_getElem (by rw [hadl];exact hi)]
          congr 2
          unfold addL
          simp [hi3]
        rw [htk,List.map_append] at hW2;have hbs:Bits 900 (zm l/s.2.sum):=hBb.le (Int.natAbs_ediv_le_natAbs _ _)
        walk_at "rd hw hla hq"
        refine⟨s.2,jh _,⟨hsp,(Zr hsok).mono (by decide)⟩,(zc7 hsok (List.getElem_mem hi1)).mulOk hbs (by decide),Nat.lt_of_lt_of_le (show _<1000000 by rw [List.length_map,List.length_take];omega) (by decide),?_⟩
        rw [hsx i hi1];exact hW2 _ ⟨_,_,rfl⟩
      · rintro ρ ⟨v5,v6,rfl⟩
        walk_at "rd"
        refine⟨Nat.lt_of_lt_of_le (show _<1000000 by rw [List.length_map];omega) (by decide),?_⟩
        rw [List.take_of_length_le (by rw [hadl];exact Nat.le_refl _)]
        have hl2:jL (many l) (zH sh pj):=⟨hadl,fun r hr=>by
          rcases List.mem_append.mp hr with z|z
          · exact hlp'.2 r z
          · rw [List.mem_singleton.mp z];exact hadl⟩
        exact hW' _ ⟨_,_,_,_,pj.2,by show _=[_,_,_,_,some (Cl.ow true ((pj.2++[addL pj.1 sh]).map dI)),_,_,_,_];rw [List.map_append];rfl,hl2,rfl,by show((pj.2++[_]).length:Int)=_;rw [List.length_append];simp;omega⟩
    · rintro ρ ⟨y3,y4,y5,y6,r,rfl,hlp',hlast',hlen'⟩
      exact hW _ ⟨_,_,_,_,_,_,r,rfl,hlp',hlast',by omega⟩
  · rintro ρ ⟨t1,t2,t3,t4,t5,t6,r,rfl,hlp,hlast,hlen⟩
    walk_at "rd"
    exact q
theorem zeF (T:Txt c K mg) : dd_law_quotas P w K mg base:=by
  obtain⟨f,fd,F,hm⟩:=T.d_law_quotas;have hb:=F.binds (ps:=["_law_spells_here"]) fun _ _ _ _ _ _ us hl=>by obtain⟨_,rfl⟩:=jT hl;rfl
  refine⟨fun ds Q Q' E E' hQ hE h=>?_,⟨f,fd,zi6 T F,hb,F.kp,hm⟩⟩
  obtain⟨l,e,o,h⟩:=h;exact⟨l,e,o,hQ _ _ h⟩
theorem zdA:FnScope ["_law_bottom", "_law_rows", "_law_cell", "_law_way", "_law_clans", "_law_had", "_law_row_here", "_law_t", "_law_behind", "_law_clan"] ["_law_bottom", "_law_rows", "_law_cell"] (ze jv):=⟨rfl,rfl,rfl,by decide +kernel,rfl,by decide +kernel,by decide +kernel⟩
theorem ze8 (T:Txt c K mg) (zj7:dd_law_wide P w K mg base) {f:Addr} {fd:FuncData} (F:Fun K "_law_row" "_law_row" jv f fd):FnOk P w K mg base (CXR P w) 3 f fd ["_law_bottom", "_law_rows", "_law_cell"] (spL K Zu):=by
  have S:=zdA;refine fn3 F S (fun ds Q E h=>?_) (fun cdv A outer s H E E3 hE hr=>?_)
  · obtain⟨_,_,_,_,rfl,_⟩:=h;rfl
  refine⟨_,(zc (zf (i:=2) S.nd rfl (by walk_at "o") (df3 hE zj7 (hr.mono (by decide)) rfl zi (za (n3 2) (za i3 zb))))
    (zc (zf (i:=3) S.nd rfl (by walk_at "o") (op3 zo (n3 2) i3))
    (zc (zf (i:=2) S.nd rfl (by walk_at "o") (op3 zr (n3 2) i3))
    (zc (zf (i:=4) S.nd rfl (by walk_at "o") (zw zL rfl T.n_len zK (za (at3 (n3 1) i3 (fun _ _=>rfl)) zb)))
    (zc (je (i:=5) S.nd rfl (by walk_at "o") (jd ["_law_k"] [] [] rfl (z4 (osc:=ze jv) (by decide +kernel)) rfl (jg rfl T.n_range (za (n3 4) zb)) (fun H0 s H fp cl=>⟨(zg (i:=0) (show((["_law_k"]:List PySem.Str)++([]:List PySem.Str)).Nodup by decide) rfl (by walk_at "o")),zY,i3⟩)))
    (zc (je (i:=6) S.nd rfl (by walk_at "o") (zp zb))
    (zc (zI PassesOwn.leaving rfl (zbL rfl T.n_range (za i3 (za (zw zL rfl T.n_len zK (za (n3 1) zb)) zb))) (zg (i:=7) S.nd rfl (by walk_at "o")) (zc (zaA (i:=8) S.nd rfl (by walk_at "o") ["_law_k"] ["_law_rows", "_law_t", "_law_had"] [1,7,5] rfl (z4 (osc:=ze jv) (by decide +kernel)) rfl (jg rfl T.n_range (za (n3 4) zb)) (fun H0 s H fp cl=>⟨(zg (i:=0) (show((["_law_k"]:List PySem.Str)++(["_law_rows", "_law_t", "_law_had"]:List PySem.Str)).Nodup by decide) rfl (by walk_at "o")),zY,(op3 jx (at3 (at3 (n3 1) (n3 2) (fun _ _=>rfl)) (n3 0) (fun _ _=>rfl)) (at3 (n3 3) (n3 0) (fun _ _=>rfl)))⟩))
      (zc (zf (i:=9) S.nd rfl (by walk_at "o") (zfl (n3 8) (zw (zcm rfl) rfl T.n_max zbt (za (n3 8) zb))))
      (zc (s_if (zl (zJ hr.units) (n3 3) i3 (nomark _)) (zc (zf (i:=9) S.nd rfl (by walk_at "o") (op3 zo (n3 2) (n3 4)))
        (zd (zf (i:=2) S.nd rfl (by walk_at "o") (op3 zr (n3 2) (n3 4))))) zn)
      (zc (s_if (zl (zJ hr.units) (n3 3) i3 (nomark _)) (zc (s_if (zl (zJ hr.units) (op3 zo (n3 2) i3) i3 (nomark _)) (zd (zf (i:=9) S.nd rfl (by walk_at "o") (op3 zo (op3 zz (n3 9) i3) (n3 4)))) zn)
        (zd (zf (i:=2) S.nd rfl (by walk_at "o") (op3 zr (n3 2) i3)))) zn)
      (zc (zbG (i:=5) rfl (by walk_at "o") (n3 9) (op3 zz (at3 (n3 5) (n3 9) (fun _ _=>rfl)) (n3 0)))
      (zd (jj (i:=6) rfl (by walk_at "o") (n3 9)))))))))
    (zd (ju [6] (zj (n3 6))))))))))),fun ds Q h=>?_⟩
  obtain⟨b,rows,cc,n,rfl,h1,h8,hr1,hr61,hrn,q⟩:=h;have hmax:∀ i (hi:i<rows.length),rows[i].length=n:=fun i hi=>hrn _ (List.getElem_mem hi)
  have hd0:atI (rows.map dI) 0=some (PyData.list (rows[0].map PyData.int)):=Zv (i:=0) (by omega)
  have h0n:=hmax 0 (by omega)
  walk_at "rd hd0 List.length_map h0n"
  refine⟨by decide,by decide,fun v=>⟨by decide,divP,by omega,by omega,sz (by unfold nums;simp;omega),?_⟩⟩
  rw [Int.toNat_natCast];unfold nums;refine zZ (fun i:Nat=>PyData.int (0+(i:Nat))) (fun _=>PyData.int 0) (fun ρ=>∃ t,ρ = [t]) (List.range n) ?_ _ _ _ _ ⟨none,rfl⟩ ?_
  · rintro i hi ρ fa acc K ⟨t,rfl⟩ k
    walk_at "rd"
    exact k _ ⟨_,rfl⟩
  have hz:[]++(List.range n).map (fun _=>PyData.int 0)=(List.replicate n (0:Int)).map PyData.int:=by
    rw [List.nil_append,List.map_const',List.length_range,List.map_replicate]
  rw [hz];refine⟨by decide,by decide,by omega,by omega,?_⟩
  have e1:((rows.length:Int) - 1).toNat=rows.length - 1:=by omega
  rw [e1];refine ji (lo:=1) (fun k ρ=>∃ (had row:List Int) (c':Int) (t u w:Option L3.Cl),ρ = [some (.sh true (.int b)),some (.sh false (.list (rows.map dI))),some (.sh true (.int c')),some (.sh true (.int (v%3))),some (.sh true (.int n)),some (.ow true (had.map PyData.int)),some (.ow true (row.map PyData.int)),t,u,w]∧had.length=n∧row.length=k∧∀ c∈row,0≤c∧c<(n:Int)) ?_ ?_ ⟨_,[],_,none,none,none,rfl,by simp,rfl,fun c h=>by cases h⟩
  · rintro k ρ hk ⟨had,row,c',t,u,w,rfl,hhad,hrow,hall⟩ W hW
    have hk1:k+1<rows.length:=by omega
    have hrk:atI (rows.map dI) (1+(k:Int))=some (PyData.list (rows[k+1].map PyData.int)):=by
      rw [show(1+(k:Int))=((k+1:Nat):Int) by omega];exact Zv hk1
    have hrl:=hmax (k+1) hk1;have dn:∀ z:Int,jV z (n:Int):=fun z=>⟨by omega,Bits.lit (x:=(n:Int)) 9000 (by omega)⟩
    simp only [gn3,List.set_cons_zero,List.set_cons_succ,zy,Bool.or_true];refine jf (fun ρ'=>∃ bh:List Int,ρ'=[some (.sh true (.int b)),some (.sh false (.list (rows.map dI))),some (.sh true (.int c')),some (.sh true (.int (v%3))),some (.sh true (.int n)),some (.ow true (had.map PyData.int)),some (.ow true (row.map PyData.int)),some (.sh true (.int (1+k))),some (.sh true (.list (bh.map .int))),w]∧bh.length=n) (fun N hN=>?_) ?_
    · walk_at "rd"
      refine⟨by omega,by omega,sz (by unfold nums;simp;omega),?_⟩
      rw [Int.toNat_natCast];unfold nums;refine zZ (fun i:Nat=>PyData.int (0+(i:Nat))) (fun i=>PyData.int (rows[k+1].getD i 0 - had.getD i 0)) (fun ρ=>∃ t,ρ = [t,some (.sh false (.list (rows.map dI))),some (.sh true (.int (1+k))),some (.ow true (had.map .int))]) (List.range n) ?_ _ _ _ _ ⟨none,rfl⟩ ?_
      · rintro i hi ρ fa acc K ⟨t,rfl⟩ kk
        have hi':=List.mem_range.mp hi;have ha:=ZL (xs:=rows[k+1]) (i:=0+(i:Int)) (by omega) (by omega)
        have hb:=ZL (xs:=had) (i:=0+(i:Int)) (by omega) (by omega)
        rw [show(0+(i:Int)).toNat=i by omega] at ha hb
        walk_at "rd hrk ha hb"
        exact kk _ ⟨_,rfl⟩
      · refine hN _ ⟨(List.range n).map fun i=>rows[k+1].getD i 0 - had.getD i 0,?_,by simp⟩
        rw [List.nil_append,List.map_map];rfl
    rintro ρ ⟨bh,rfl,hbh⟩
    have hbne:bh≠[]:=fun z=>by rw [z] at hbh;simp at hbh;omega
    refine jf (fun ρ'=>∃ cl:Int,ρ'=[some (.sh true (.int b)),some (.sh false (.list (rows.map dI))),some (.sh true (.int c')),some (.sh true (.int (v%3))),some (.sh true (.int n)),some (.ow true (had.map PyData.int)),some (.ow true (row.map PyData.int)),some (.sh true (.int (1+k))),some (.sh true (.list (bh.map .int))),some (.sh true (.int cl))]∧0≤cl∧cl<n) (fun N hN=>?_) ?_
    · walk_at "rd"
      refine⟨bh,jh _,bh,jh _,hbne,zaX hbne,hN _ ⟨_,rfl,by omega,?_⟩⟩
      have:=List.idxOf_lt_length_iff.mpr (zaX hbne)
      omega
    rintro ρ ⟨cl,rfl,hcl⟩
    refine jf (fun ρ'=>∃ c2 cl:Int,ρ'=[some (.sh true (.int b)),some (.sh false (.list (rows.map dI))),some (.sh true (.int c2)),some (.sh true (.int (v%3))),some (.sh true (.int n)),some (.ow true (had.map PyData.int)),some (.ow true (row.map PyData.int)),some (.sh true (.int (1+k))),some (.sh true (.list (bh.map .int))),some (.sh true (.int cl))]∧0≤cl∧cl<n) (fun N hN=>?_) ?_
    · walk_at "rd"
      refine ite2 (fun _=>⟨by omega,dn _,hN _ ⟨_,_,rfl,Int.emod_nonneg _ (by omega),Int.emod_lt_of_pos _ (by omega)⟩⟩) fun _=>hN _ ⟨_,_,rfl,hcl⟩
    clear hcl
    rintro ρ ⟨c2,cl,rfl,hcl⟩
    refine jf (fun ρ'=>∃ c2 cl:Int,ρ'=[some (.sh true (.int b)),some (.sh false (.list (rows.map dI))),some (.sh true (.int c2)),some (.sh true (.int (v%3))),some (.sh true (.int n)),some (.ow true (had.map PyData.int)),some (.ow true (row.map PyData.int)),some (.sh true (.int (1+k))),some (.sh true (.list (bh.map .int))),some (.sh true (.int cl))]∧0≤cl∧cl<n) (fun N hN=>?_) ?_
    · walk_at "rd"
      refine ite2 (fun _=>⟨by decide,ite2 (fun _=>⟨by omega,divP,hN _ ⟨_,_,rfl,Int.emod_nonneg _ (by omega),Int.emod_lt_of_pos _ (by omega)⟩⟩) fun _=>⟨divP,hN _ ⟨_,_,rfl,hcl⟩⟩⟩) fun _=>hN _ ⟨_,_,rfl,hcl⟩
    clear hcl
    rintro ρ ⟨c2,cl,rfl,hcl⟩
    have hg:=ZL (xs:=had) (i:=cl) hcl.1 (by omega)
    have hix:ixN (had.map PyData.int).length cl=some cl.toNat:=by rw [List.length_map];exact zaD hcl.1 (by omega)
    walk_at "rd hg hix"
    refine⟨Nat.lt_of_lt_of_le (show _<1000000 by rw [List.length_map];omega) (by decide),hW _ ⟨had.set cl.toNat (had.getD cl.toNat 0+b),row++[cl],_,_,_,_,by rw [List.map_set,List.map_append];rfl,by rw [List.length_set];exact hhad,by simp [hrow],fun x hx=>?_⟩⟩
    rcases List.mem_append.mp hx with z|z
    · exact hall x z
    · rw [List.mem_singleton.mp z];exact hcl
  · rintro ρ ⟨had,row,c',t,u,w,rfl,hhad,hrow,hall⟩
    walk_at "rd"
    exact q row (by omega) hall
theorem zgf (T:Txt c K mg) (zj7:dd_law_wide P w K mg base):dd_law_row P w K mg base:=by
  obtain⟨f,fd,F,hm⟩:=T.d_law_row;have hb:=F.binds (ps:=["_law_bottom", "_law_rows", "_law_cell"]) fun _ _ _ _ _ _ us hl=>by obtain⟨_,_,_,rfl⟩:=ZZ hl;rfl
  refine⟨fun ds Q Q' E E' hQ hE h=>?_,⟨f,fd,ze8 T zj7 F,hb,F.kp,hm⟩⟩
  obtain⟨a,b,cc,n,e,x1,x2,x3,x4,x5,h⟩:=h;exact⟨a,b,cc,n,e,x1,x2,x3,x4,x5,fun r y z=>hQ _ _ (h r y z)⟩
theorem ziy:FnScope ["_law_top", "_law_bottom", "_law_one", "_law_other"] ["_law_top", "_law_bottom"] (ze JC):=⟨rfl,rfl,rfl,by decide +kernel,rfl,by decide +kernel,by decide +kernel⟩
theorem zfM (T:Txt c K mg) {f:Addr} {fd:FuncData} (F:Fun K "_law_ratio" "_law_ratio" JC f fd):FnOk P w K mg base (CXR P w) 1 f fd ["_law_top", "_law_bottom"] (spL K J0):=by
  have S:=ziy;refine fn3 F S (fun ds Q E h=>?_) (fun cdv A outer s H E E3 hE hr=>?_)
  · obtain⟨_,_,rfl,_⟩:=h;rfl
  refine⟨_,(zc (zf (i:=2) S.nd rfl (by walk_at "o") (zw za6 rfl T.n_abs zaO (za (n3 0) zb)))
    (zc (zf (i:=3) S.nd rfl (by walk_at "o") (n3 1))
    (zc (zaT PassesOwn.leaving (zl za0 (n3 3) i3 (nomark _)) (zd (zih (i:=2) (j:=3) rfl S.nd rfl rfl (by decide) rfl rfl (za (n3 3) (za (op3 zo (n3 2) (n3 3)) zb)))))
    (zd (zj (zF (za (op3 zr (n3 0) (n3 2)) (za (op3 zr (n3 1) (n3 2)) zb)))))))),fun ds Q h=>?_⟩
  obtain⟨a,b,rfl,hb,hB,q⟩:=h
  walk_at "rd"
  refine⟨_,zaf (fun n ρ=>∃ g l,ρ = [some (.sh true (.int a)),some (.sh true (.int b)),some (.sh true (.int g)),some (.sh true (.int l))]∧0≤g∧0≤l∧Int.gcd g l=Int.gcd a b∧n=l.toNat) ?_ _ _ ⟨_,_,rfl,by split<;>omega,by omega,?_,rfl⟩⟩
  · rintro n ρ ⟨g,l,rfl,hg,hl,hG,rfl⟩ W hW
    walk_at "rd"
    by_cases h0:0<l
    · rw [if_pos h0]
      have h1:=Int.emod_nonneg g (show l≠0 by omega)
      have h2:=Int.emod_lt_of_pos g h0;exact⟨h0,hW (g%l).toNat _ (by omega) ⟨l,g%l,rfl,hl,h1,(zcq hg h0).trans hG,rfl⟩⟩
    · rw [if_neg h0]
      have hz:l=0:=by omega
      subst hz;have e:g=(Int.gcd a b:Int):=by rw [←hG,zcU hg]
      subst e;exact⟨zau hb hB,zau hb hB,q⟩
  · have:=zda a b
    rw [if_neg (show ¬b<0 by omega)] at this
    exact this
theorem zeZ (T:Txt c K mg) : dd_law_ratio P w K mg base:=by
  obtain⟨f,fd,F,hm⟩:=T.d_law_ratio;have hb:=F.binds (ps:=["_law_top", "_law_bottom"]) fun _ _ _ _ _ _ us hl=>by obtain⟨_,_,rfl⟩:=zR hl;rfl
  refine⟨fun ds Q Q' E E' hQ hE h=>?_,⟨f,fd,zfM T F,hb,F.kp,hm⟩⟩
  obtain⟨a,b,e,z,y,h⟩:=h;exact⟨a,b,e,z,y,hQ _ _ h⟩
theorem zej:FnScope ["_law_clans", "_law_cell", "_law_bounds_here", "_law_k", "_law_pair", "_law_side", "_law_bottom", "_law_wide_here", "_law_count"] ["_law_clans", "_law_cell"] (ze j6):=⟨rfl,rfl,rfl,by decide +kernel,rfl,by decide +kernel,by decide +kernel⟩
theorem zgn (T:Txt c K mg) (zj7:dd_law_wide P w K mg base) (zj4:dd_law_ratio P w K mg base) {f:Addr} {fd:FuncData} (F:Fun K "_law_bounds" "_law_bounds" j6 f fd):FnOk P w K mg base (CXR P w) 3 f fd ["_law_clans", "_law_cell"] (spL K J6):=by
  have S:=zej;refine fn3 F S (fun ds Q E h=>?_) (fun cdv A outer s H E E3 hE hr=>?_)
  · obtain⟨_,_,rfl,_⟩:=h;rfl
  refine⟨_,(zc (je (i:=2) S.nd rfl (by walk_at "o") (zp zb))
    (zc (zf (i:=1) S.nd rfl (by walk_at "o") (df3 hE zj7 (hr.mono (by decide)) rfl zi (za (n3 1) (za i3 zb))))
    (zc (zI PassesOwn.leaving rfl (jg rfl T.n_range (za (n3 0) zb)) (zg (i:=3) S.nd rfl (by walk_at "o")) (zc (je (i:=4) S.nd rfl (by walk_at "o") (zp zb))
      (zc (zI PassesOwn.leaving rfl (jg rfl T.n_range (za i3 zb)) (zg (i:=5) S.nd rfl (by walk_at "o")) (zc (zf (i:=6) S.nd rfl (by walk_at "o") (op3 zz i3 (op3 zo (n3 1) i3)))
        (zc (zf (i:=7) S.nd rfl (by walk_at "o") (op3 zo (op3 zr (n3 1) i3) i3))
        (zc (zf (i:=1) S.nd rfl (by walk_at "o") (op3 zr (n3 1) i3))
        (zc (zf (i:=8) S.nd rfl (by walk_at "o") (op3 zz (at3 (new3 (zp (za (n3 6) (za (op3 zU i3 (n3 6)) (za (n3 6) (za (op3 zU i3 (n3 6)) (za (op3 zU i3 (n3 6)) zb))))))) (n3 7) (fun _ _=>rfl)) i3))
        (zc (jj (i:=4) rfl (by walk_at "o") (df3 hE zj4 (hr.mono (by decide)) rfl zi (za (op3 zo (n3 1) (n3 8)) (za (n3 6) zb))))
        (zd (zf (i:=1) S.nd rfl (by walk_at "o") (op3 zr (n3 1) (n3 8))))))))))
      (zd (jj (i:=2) rfl (by walk_at "o") (zF (za (at3 (n3 4) i3 (fun _ _=>rfl)) (za (at3 (n3 4) i3 (fun _ _=>rfl)) zb))))))))
    (zd (ju [2] (zj (n3 2))))))),fun ds Q h=>?_⟩
  obtain⟨n,cc,rfl,hn8,q⟩:=h
  walk_at "rd"
  refine⟨by decide,by decide,fun v=>⟨by omega,by omega,?_⟩⟩
  rw [Int.toNat_natCast];refine ji (fun k ρ=>∃ (l:List (Rat2×Rat2)) (c':Int) (t1 t2 t3 t4 t5 t6:Option L3.Cl),ρ = [some (.sh true (.int n)),some (.sh true (.int c')),some (.ow true (l.map dP)),t1,t2,t3,t4,t5,t6]∧l.length=k∧∀ p∈l,(okQ p.1∧okQ p.2)∧inQ p.1∧inQ p.2) ?_ ?_ ⟨[],_,none,none,none,none,none,none,rfl,rfl,fun p h=>by cases h⟩
  · rintro k ρ hk ⟨l,c',t1,t2,t3,t4,t5,t6,rfl,hl,hall⟩ W hW
    walk_at "rd"
    refine⟨by decide,by decide,?_⟩
    rw [show(2:Int).toNat=2 from rfl]
    refine ji (fun i ρ=>∃ (pr:List Rat2) (c':Int) (t3 t4 t5 t6:Option L3.Cl),ρ = [some (.sh true (.int n)),some (.sh true (.int c')),some (.ow true (l.map dP)),some (.sh true (.int (0+k))),some (.ow true (pr.map dQ)),t3,t4,t5,t6]∧pr.length=i∧∀ r∈pr,okQ r∧inQ r) ?_ ?_ ⟨[],c',t3,t4,t5,t6,rfl,rfl,fun p h=>by cases h⟩
    · rintro i ρ hi ⟨pr,c2,s3,s4,s5,s6,rfl,hpr,hpa⟩ W' hW'
      have m12:1≤1+c2%12∧1+c2%12≤12:=by omega
      have hd5:0≤c2/12%5∧c2/12%5<5:=by omega
      simp only [gn3,List.set_cons_zero,List.set_cons_succ,zy,Bool.or_true];refine zk fun N hN=>?_
      walk_at "rd"
      refine⟨by decide,hN _ ?_⟩
      clear hN N;refine zk fun N hN=>?_
      walk_at "rd"
      refine⟨divP,by decide,hN _ ?_⟩
      clear hN N;refine zk fun N hN=>?_
      walk_at "rd"
      refine⟨divP,hN _ ?_⟩
      clear hN N;generalize c2/60=c3;generalize c2/12%5=wd at hd5 ⊢;generalize 1+c2%12=bt at m12 ⊢;have bm:∀ z:Int,0≤z→z≤100→IntMulOk z bt:=fun z h0 h1=>(Bits.lit (x:=z) 64 (by omega)).mulOk (Bits.lit (x:=bt) 64 (by omega)) (by decide)
      refine jf (fun ρ'=>∃ ct:Int,ρ'=[some (.sh true (.int n)),some (.sh true (.int c3)),some (.ow true (l.map dP)),some (.sh true (.int (0+k))),some (.ow true (pr.map dQ)),some (.sh true (.int (0+i))),some (.sh true (.int bt)),some (.sh true (.int wd)),some (.sh true (.int ct))]∧1≤ct∧ct≤10*bt+1) (fun N hN=>?_) ?_
      · walk_at "rd"
        obtain⟨d,hd,hm,_⟩:=jJ (xs:=[PyData.int bt,PyData.int (2*bt),PyData.int bt,PyData.int (2*bt),PyData.int (10*bt)]) (i:=wd) hd5.1 hd5.2;obtain⟨z,rfl,hz⟩:∃ z,d=PyData.int z∧0≤z∧z≤10*bt:=by
          simp only [List.mem_cons,List.not_mem_nil,or_false] at hm
          rcases hm with rfl|rfl|rfl|rfl|rfl
          · exact⟨_,rfl,by omega,by omega⟩
          · exact⟨_,rfl,by omega,by omega⟩
          · exact⟨_,rfl,by omega,by omega⟩
          · exact⟨_,rfl,by omega,by omega⟩
          · exact⟨_,rfl,by omega,by omega⟩
        refine⟨bm 2 (by decide) (by decide),bm 2 (by decide) (by decide),bm 10 (by decide) (by decide),_,hd,?_⟩
        walk_at "rd"
        exact hN _ ⟨_,rfl,by omega,by omega⟩
      rintro ρ ⟨ct,rfl,hct⟩
      have x0:=Int.emod_nonneg c3 (show ct≠0 by omega)
      have x1:=Int.emod_lt_of_pos c3 (show 0<ct by omega)
      walk_at "rd"
      rw [List.length_map];generalize c3%ct=x at x0 x1 ⊢;obtain⟨l1,l2,l3,l4⟩:=zah (a:=x) (b:=bt) (by omega)
      have hg1:0<(Int.gcd x bt:Int):=zab (by omega)
      refine⟨by omega,by omega,Bits.lit (x:=bt) 9000 (by omega),Nat.lt_of_lt_of_le (show _<1000 by omega) (by decide),⟨by omega,Bits.lit (x:=ct) 9000 (by omega)⟩,hW' _ ⟨pr++[(x/(Int.gcd x bt:Int),bt/(Int.gcd x bt:Int))],_,_,_,_,_,by rw [List.map_append];rfl,by simp [hpr],fun r hr=>?_⟩⟩
      rcases List.mem_append.mp hr with z|z
      · exact hpa r z
      · rw [List.mem_singleton.mp z]
        refine⟨⟨l1,(Bits.lit (x:=x) 1200 (by omega)).le (Int.natAbs_ediv_le_natAbs _ _),(Bits.lit (x:=bt) 1200 (by omega)).le (Int.natAbs_ediv_le_natAbs _ _)⟩,Int.ediv_nonneg x0 (by omega),?_⟩
        show x/(Int.gcd x bt:Int)≤10*(bt/(Int.gcd x bt:Int))
        generalize (Int.gcd x bt:Int)=g at *;generalize x/g=x' at *;generalize bt/g=b' at *;have:x'*g≤10*b'*g:=by rw [Int.mul_assoc,l3,l4];omega
        exact Int.le_of_mul_le_mul_right this hg1
    · rintro ρ ⟨pr,c2,s3,s4,s5,s6,rfl,hpr,hpa⟩
      match pr,hpr with
      | [r0,r1],_=>
        walk_at "rd List.map_cons List.map_nil atI0 atI1"
        refine⟨Nat.lt_of_lt_of_le (show _<1000 by rw [List.length_map];omega) (by decide),hW _ ⟨l++[(r0,r1)],_,_,_,_,_,_,_,by rw [List.map_append];rfl,by simp [hl],fun p hp=>?_⟩⟩
        rcases List.mem_append.mp hp with z|z
        · exact hall p z
        · rw [List.mem_singleton.mp z]
          have h0:=hpa r0 (by simp)
          have h1:=hpa r1 (by simp)
          exact⟨⟨h0.1,h1.1⟩,h0.2,h1.2⟩
  · rintro ρ ⟨l,c',t1,t2,t3,t4,t5,t6,rfl,hl,hall⟩
    walk_at "rd"
    exact q l ⟨hl,fun p hp=>(hall p hp).2⟩ fun p hp=>(hall p hp).1
theorem ze0 (T:Txt c K mg) (zj7:dd_law_wide P w K mg base) (zj4:dd_law_ratio P w K mg base):dd_law_bounds P w K mg base:=by
  obtain⟨f,fd,F,hm⟩:=T.d_law_bounds;have hb:=F.binds (ps:=["_law_clans", "_law_cell"]) fun _ _ _ _ _ _ us hl=>by obtain⟨_,_,rfl⟩:=zR hl;rfl
  refine⟨fun ds Q Q' E E' hQ hE h=>?_,⟨f,fd,zgn T zj7 zj4 F,hb,F.kp,hm⟩⟩
  obtain⟨a,b,e,z,h⟩:=h;exact⟨a,b,e,z,fun l x y=>hQ _ _ (h l x y)⟩
theorem zhJ:FnScope ["_law_bounds_here", "_law_cell", "_law_at", "_law_below", "_law_above", "_law_little", "_law_over"] ["_law_bounds_here", "_law_cell"] (ze JD):=⟨rfl,rfl,rfl,by decide +kernel,rfl,by decide +kernel,by decide +kernel⟩
theorem zhS (T:Txt c K mg) (zj4:dd_law_ratio P w K mg base) {f:Addr} {fd:FuncData} (F:Fun K "_law_no_bounds" "_law_no_bounds" JD f fd):FnOk P w K mg base (CXR P w) 2 f fd ["_law_bounds_here", "_law_cell"] (spL K Zh):=by
  have S:=zhJ;refine fn3 F S (fun ds Q E h=>?_) (fun cdv A outer s H E E3 hE hr=>?_)
  · obtain⟨_,_,_,rfl,_⟩:=h;rfl
  refine⟨_,(zc (zf (i:=2) S.nd rfl (by walk_at "o") (op3 zo (op3 zr (n3 1) i3) (zw zL rfl T.n_len zK (za (n3 0) zb))))
    (zc (zbm (at3 (n3 0) (n3 2) (fun _ _=>rfl)) (z3 (n:=2) rfl (zA (zg (i:=3) S.nd rfl (by walk_at "o")) (zA (zg (i:=4) S.nd rfl (by walk_at "o")) z0))))
    (zc (zf (i:=5) S.nd rfl (by walk_at "o") (df3 hE zj4 (hr.mono (by decide)) rfl zi (za i3 (za (op3 zz i3 (op3 zo (op3 zr (n3 1) i3) (op3 z8 i3 i3))) zb))))
    (zc (s_if (zl (zJ hr.units) (op3 zo (n3 1) i3) i3 (nomark _)) (zd (zj (new3 (cat3 (new3 (zO (n3 0) zP (zQ (n3 2)))) (new3 (zO (n3 0) (zQ (op3 zz (n3 2) i3)) zP)))))) zn)
    (zc (s_if (zl (zJ hr.units) (op3 zo (n3 1) i3) i3 (nomark _)) (zd (zj (new3 (cat3 (n3 0) (new3 (zp (za (at3 (n3 0) (n3 2) (fun _ _=>rfl)) zb))))))) zn)
    (zc (s_if (zl (zJ hr.units) (op3 zo (n3 1) i3) i3 (nomark _)) (zd (zj (new3 (cat3 (new3 (cat3 (new3 (zO (n3 0) zP (zQ (n3 2)))) (new3 (zp (za (at3 (new3 (zp (za (zF (za (n3 3) (za (zF (za (un3 jm (at3 (n3 5) i3 (fun _ _=>rfl))) (za (at3 (n3 5) i3 (fun _ _=>rfl)) zb))) zb))) (za (zF (za (zF (za (un3 jm i3) (za i3 zb))) (za (n3 4) zb))) zb)))) (op3 zo (op3 zr (n3 1) i3) i3) (fun _ _=>rfl)) zb))))) (new3 (zO (n3 0) (zQ (op3 zz (n3 2) i3)) zP)))))) zn)
    (zc (zf (i:=6) S.nd rfl (by walk_at "o") (df3 hE zj4 (hr.mono (by decide)) rfl zi (za (op3 zz (op3 zU i3 (at3 (n3 5) i3 (fun _ _=>rfl))) (at3 (n3 5) i3 (fun _ _=>rfl))) (za (at3 (n3 5) i3 (fun _ _=>rfl)) zb))))
    (zd (zj (new3 (cat3 (new3 (cat3 (new3 (zO (n3 0) zP (zQ (n3 2)))) (new3 (zp (za (at3 (new3 (zp (za (zF (za (n3 6) (za (n3 4) zb))) (za (zF (za (n3 3) (za (zF (za (op3 zz i3 (op3 zo (op3 zr (n3 1) i3) i3)) (za i3 zb))) zb))) zb)))) (op3 zo (op3 zr (n3 1) i3) i3) (fun _ _=>rfl)) zb))))) (new3 (zO (n3 0) (zQ (op3 zz (n3 2) i3)) zP))))))))))))),fun ds Q h=>?_⟩
  obtain⟨l,cc,n,rfl,hok,h1,h8,ho,q⟩:=h;have hl:=hok.1;have hat0:=Int.emod_nonneg (cc/4) (show(l.length:Int)≠0 by omega)
  have hat1:=Int.emod_lt_of_pos (cc/4) (show 0<(l.length:Int) by omega)
  obtain⟨s,hs1,hs2,hs3⟩:=jJ hat0 hat1;have hs1':atI (List.map dP l) (cc/4%(l.length:Int))=some (PyData.tuple [dQ s.1,dQ s.2]):=by rw [JT,hs1];rfl
  have hsz:∀ n:Nat,n≤1000→n≤sizeLine:=fun n h=>Nat.le_trans h (by decide)
  have hLM:(List.map dP l).length=l.length:=List.length_map ..;have hc1:cut (List.map dP l) none (some (cc/4%(l.length:Int)))=(l.take (cc/4%(l.length:Int)).toNat).map dP:=by rw [jy,za2 l hat0 (by omega)]
  have hc2:cut (List.map dP l) (some (cc/4%(l.length:Int)+1)) none=(l.drop (cc/4%(l.length:Int)+1).toNat).map dP:=by rw [jy,JO l (by omega) (by omega)]
  obtain⟨s1,s2⟩:=ho s hs2;refine zk fun N hN=>?_
  walk_at "rd hLM"
  refine⟨divP,by omega,hN _ ?_⟩
  clear hN N;refine zk fun N hN=>?_
  walk_at "rd hs1'"
  refine hN _ ?_
  clear hN N;generalize cc/4%(l.length:Int)=at_ at *;obtain⟨b,hb,hb1,hb2⟩:∃ b:Int,1+cc/32%10 ^ Int.toNat 12=b∧1≤b∧b≤10 ^ 12:=⟨_,rfl,by have:=Int.emod_nonneg (cc/32) (show(10 ^ Int.toNat 12:Int)≠0 by decide);omega,by have:=Int.emod_lt_of_pos (cc/32) (show(0:Int)<10 ^ Int.toNat 12 by decide);have e:(10 ^ Int.toNat 12:Int)=10 ^ 12:=rfl;omega⟩
  have e1:dR 1 b=.tuple [.int 1,.int b]:=by unfold dR;rw [Int.gcd_one_left];simp
  refine zk fun N hN=>?_
  walk_at "rd"
  rw [hb];refine⟨divP,powB (k:=4) (by unfold Bits;decide) (by decide) (by decide),by decide,by omega,Bits.lit (x:=b) 9000 (by omega),hN _ ?_⟩
  rw [e1];clear hN N hb;have put:∀ p:Rat2×Rat2,okQ p.1→okQ p.2→¬(inQ p.1∧inQ p.2)→(List.map dP (l.take at_.toNat)).length+1≤sizeLine∧(List.map dP (l.take at_.toNat)++[dP p]).length+(List.map dP (l.drop (at_+1).toNat)).length≤sizeLine∧∀ f,Q f (PyData.list (List.map dP (l.take at_.toNat)++[dP p]++List.map dP (l.drop (at_+1).toNat))):=fun p p1 p2 hp=>by
    refine⟨hsz _ (by simp;omega),hsz _ (by simp;omega),fun f=>?_⟩
    have:=q f (l.take at_.toNat++[p]++l.drop (at_+1).toNat) (fun z=>hp (z.2 p (by simp))) (fun x hx=>by
      rcases List.mem_append.mp hx with hx|hx
      · rcases List.mem_append.mp hx with hx|hx
        · exact ho x (List.mem_of_mem_take hx)
        · rw [List.mem_singleton.mp hx];exact⟨p1,p2⟩
      · exact ho x (List.mem_of_mem_drop hx)) (by simp;omega)
    rw [dPs,List.map_append,List.map_append] at this;exact this
  have pt:∀ p:Rat2×Rat2,dP p=PyData.tuple [PyData.tuple [PyData.int p.1.1,PyData.int p.1.2],PyData.tuple [PyData.int p.2.1,PyData.int p.2.2]]:=fun _=>rfl
  have bb:∀ x y:Int,0<y→-(10 ^ 15)≤x→x≤10 ^ 15→y≤10 ^ 15→okQ (x,y):=fun x y h h1 h2 h3=>⟨h,Bits.lit (x:=x) 1200 (by omega),Bits.lit (x:=y) 1200 (by omega)⟩
  refine zk fun N hN=>?_
  walk_at "rd hc1 hc2 hLM"
  refine⟨by decide,ite2 (fun e=>?_) fun e=>hN _ ?_⟩
  · refine⟨hsz _ (by simp;omega),?_⟩
    rw [←List.map_append];exact q _ _ (fun z=>by have:=z.1;simp at this;omega) (fun x hx=>by
      rcases List.mem_append.mp hx with hx|hx
      · exact ho x (List.mem_of_mem_take hx)
      · exact ho x (List.mem_of_mem_drop hx)) (by simp;omega)
  clear hN N;refine zk fun N hN=>?_
  walk_at "rd hs1' hLM"
  refine⟨by decide,ite2 (fun e=>?_) fun e=>hN _ ?_⟩
  · refine⟨hsz _ (by omega),?_⟩
    have:=q ((List.map dP l).all zy&&false) (l++[s]) (fun z=>by have:=z.1;simp at this;omega) (fun x hx=>by
      rcases List.mem_append.mp hx with hx|hx
      · exact ho x hx
      · rw [List.mem_singleton.mp hx];exact ho s hs2) (by simp;omega)
    rw [dPs,List.map_append] at this;exact this
  clear hN N;refine zk fun N hN=>?_
  walk_at "rd hc1 hc2 atI0 atI1"
  refine⟨by decide,ite2 (fun e=>?_) fun e=>hN _ ?_⟩
  · refine⟨divP,by decide,?_⟩
    rcases(show cc/32%2=0∨cc/32%2=1 by omega) with z|z
    · obtain⟨m1,m2,m3⟩:=put (s.1,(-1,b)) s1 (bb _ _ (by omega) (by decide) (by decide) (by omega)) (fun z=>by have h:0≤(-1:Int):=z.2.1;omega)
      rw [z];exact⟨_,rfl,m1,m2,m3 _⟩
    · obtain⟨m1,m2,m3⟩:=put ((-3,1),s.2) (bb _ _ (by decide) (by decide) (by decide) (by decide)) s2 (fun z=>by have h:0≤(-3:Int):=z.1.1;omega)
      rw [z];exact⟨_,rfl,m1,m2,m3 _⟩
  clear hN N;refine zk fun N hN=>?_
  walk_at "rd atI0 atI1"
  refine⟨(Bits.lit (x:=10) 64).mulOk (Bits.lit (x:=b) 64 (by omega)) (by decide),by omega,Bits.lit (x:=b) 9000 (by omega),hN _ ?_⟩
  clear hN N;have lo:=zaH (a:=10*b+1) (b:=b) (by omega) (Bits.lit (x:=10*b+1) 1100 (by omega)) (Bits.lit (x:=b) 1100 (by omega))
  have ln:¬inQ (lowQ (10*b+1) b):=fun z=>by
    obtain⟨l1,l2,l3,l4⟩:=zah (a:=10*b+1) (b:=b) (by omega)
    have hg:=zab (a:=10*b+1) (b:=b) (by omega)
    have z2:(10*b+1)/(Int.gcd (10*b+1) b:Int)≤10*(b/(Int.gcd (10*b+1) b:Int)):=z.2;have:=Int.mul_le_mul_of_nonneg_right z2 (show 0≤(Int.gcd (10*b+1) b:Int) by omega)
    rw [l3,Int.mul_assoc,l4] at this
    omega
  have el:dR (10*b+1) b=dQ (lowQ (10*b+1) b):=rfl;rw [el];generalize lowQ (10*b+1) b=u at lo ln ⊢
  walk_at "rd hc1 hc2"
  refine⟨divP,by decide,divP,by decide,?_⟩
  rcases(show cc/32%2=0∨cc/32%2=1 by omega) with z|z
  · obtain⟨m1,m2,m3⟩:=put (u,s.2) lo s2 (fun z=>ln z.1)
    rw [z];exact⟨_,rfl,m1,m2,m3 _⟩
  · obtain⟨m1,m2,m3⟩:=put (s.1,(11+cc/32%999,1)) s1 (bb _ _ (by decide) (by omega) (by omega) (by decide)) (fun z=>by have h:11+cc/32%999≤10*1:=z.2.2;omega)
    rw [z];exact⟨_,rfl,m1,m2,m3 _⟩
theorem zhn (T:Txt c K mg) (zj4:dd_law_ratio P w K mg base):dd_law_no_bounds P w K mg base:=by
  obtain⟨f,fd,F,hm⟩:=T.d_law_no_bounds;have hb:=F.binds (ps:=["_law_bounds_here", "_law_cell"]) fun _ _ _ _ _ _ us hl=>by obtain⟨_,_,rfl⟩:=zR hl;rfl
  refine⟨fun ds Q Q' E E' hQ hE h=>?_,⟨f,fd,zhS T zj4 F,hb,F.kp,hm⟩⟩
  obtain⟨a,b,n,e,x1,x2,x3,x4,h⟩:=h;exact⟨a,b,n,e,x1,x2,x3,x4,fun f l y z w=>hQ _ _ (h f l y z w)⟩
theorem zeV:FnScope ["_law_row_here", "_law_clans", "_law_cell", "_law_at", "_law_strange"] ["_law_row_here", "_law_clans", "_law_cell"] (ze j5):=⟨rfl,rfl,rfl,by decide +kernel,rfl,by decide +kernel,by decide +kernel⟩
theorem zfK (T:Txt c K mg) {f:Addr} {fd:FuncData} (F:Fun K "_law_no_row" "_law_no_row" j5 f fd):FnOk P w K mg base (CXR P w) 1 f fd ["_law_row_here", "_law_clans", "_law_cell"] (spL K Zi):=by
  have S:=zeV;refine fn3 F S (fun ds Q E h=>?_) (fun cdv A outer s H E E3 hE hr=>?_)
  · obtain⟨_,_,_,_,rfl,_⟩:=h;rfl
  refine⟨_,(zc (zf (i:=3) S.nd rfl (by walk_at "o") (op3 zo (op3 zr (n3 2) i3) (zw zL rfl T.n_len zK (za (n3 0) zb))))
    (zc (s_if (zl (zJ hr.units) (op3 zo (n3 2) i3) i3 (nomark _)) (zd (zj (new3 (cat3 (new3 (zO (n3 0) zP (zQ (n3 3)))) (new3 (zO (n3 0) (zQ (op3 zz (n3 3) i3)) zP)))))) zn)
    (zc (s_if (zl (zJ hr.units) (op3 zo (n3 2) i3) i3 (nomark _)) (zd (zj (new3 (cat3 (new3 (cat3 (new3 (zO (n3 0) zP (zQ (n3 3)))) (new3 (zp (za (at3 (n3 0) (n3 3) (fun _ _=>rfl)) zb))))) (new3 (zO (n3 0) (zQ (n3 3)) zP)))))) zn)
    (zc (zf (i:=4) S.nd rfl (by walk_at "o") (at3 (new3 (zp (za (op3 jx (un3 jm i3) (op3 zo (op3 zr (n3 2) i3) i3)) (za (op3 zz (n3 1) (op3 zo (op3 zr (n3 2) i3) (op3 z8 i3 i3))) zb)))) (op3 zo (n3 2) i3) (fun _ _=>rfl)))
    (zd (zj (new3 (cat3 (new3 (cat3 (new3 (zO (n3 0) zP (zQ (n3 3)))) (new3 (zp (za (n3 4) zb))))) (new3 (zO (n3 0) (zQ (op3 zz (n3 3) i3)) zP)))))))))),fun ds Q h=>?_⟩
  obtain⟨row,n,t,cc,rfl,hok,h1,h60,q⟩:=h;have hl:=hok.1;have hat0:=Int.emod_nonneg (cc/4) (show(row.length:Int)≠0 by omega)
  have hat1:=Int.emod_lt_of_pos (cc/4) (show 0<(row.length:Int) by omega)
  obtain⟨s,hs1,hs2,hs3⟩:=jJ hat0 hat1;have hs1':atI (List.map PyData.int row) (cc/4%(row.length:Int))=some (PyData.int s):=by rw [JT,hs1];rfl
  have hsz:∀ n:Nat,n≤1000→n≤sizeLine:=fun n h=>Nat.le_trans h (by decide)
  have hLM:(List.map PyData.int row).length=row.length:=List.length_map ..;have hc1:cut (List.map PyData.int row) none (some (cc/4%(row.length:Int)))=(row.take (cc/4%(row.length:Int)).toNat).map PyData.int:=by rw [jy,za2 row hat0 (by omega)]
  have hc2:cut (List.map PyData.int row) (some (cc/4%(row.length:Int)+1)) none=(row.drop (cc/4%(row.length:Int)+1).toNat).map PyData.int:=by rw [jy,JO row (by omega) (by omega)]
  have hc3:cut (List.map PyData.int row) (some (cc/4%(row.length:Int))) none=(row.drop (cc/4%(row.length:Int)).toNat).map PyData.int:=by rw [jy,JO row (by omega) (by omega)]
  refine zk fun N hN=>?_
  walk_at "rd hLM"
  refine⟨divP,by omega,hN _ ?_⟩
  clear hN N;generalize cc/4%(row.length:Int)=at_ at *;have hm:∀ (a b:List Int) (x:Int),List.map PyData.int a++[PyData.int x]++List.map PyData.int b=(a++[x]++b).map PyData.int:=fun a b x=>by rw [List.map_append,List.map_append];rfl
  refine zk fun N hN=>?_
  walk_at "rd hc1 hc2 zat hLM"
  refine⟨by decide,ite2 (fun e=>?_) fun e=>hN _ ?_⟩
  · refine⟨hsz _ (by simp;omega),?_⟩
    rw [←List.map_append];exact q _ _ (fun z=>by have:=z.1;simp at this;omega) (by simp;omega)
  clear hN N;refine zk fun N hN=>?_
  walk_at "rd hc1 hc3 hs1' zat hLM"
  refine⟨by decide,ite2 (fun e=>?_) fun e=>hN _ ?_⟩
  · refine⟨hsz _ (by simp;omega),hsz _ (by simp;omega),?_⟩
    rw [hm];exact q _ _ (fun z=>by have:=z.1;simp at this;omega) (by simp;omega)
  clear hN N;refine jf (fun ρ'=>∃ x:Int,ρ'=[some (.sh false (.list (row.map .int))),some (.sh true (.int n)),some (.sh true (.int cc)),some (.sh true (.int at_)),some (.sh true (.int x))]∧¬(0≤x∧x<(n:Int))) (fun N hN=>?_) ?_
  · walk_at "rd"
    refine⟨divP,by decide,divP,powB (k:=4) (by unfold Bits;decide) (by decide) (by decide),by decide,by decide,?_⟩
    have e20:=Int.emod_nonneg (cc/256) (show(10 ^ Int.toNat 20:Int)≠0 by decide)
    rcases(show cc%2=0∨cc%2=1 by omega) with z|z
    · rw [z];exact⟨_,rfl,hN _ ⟨_,rfl,by omega⟩⟩
    · rw [z];exact⟨_,rfl,hN _ ⟨_,rfl,by omega⟩⟩
  rintro ρ ⟨x,rfl,hx⟩
  walk_at "rd hc1 hc2 zat"
  refine⟨hsz _ (by simp;omega),hsz _ (by simp;omega),?_⟩
  rw [hm];exact q _ _ (fun z=>hx (z.2 x (by simp))) (by simp;omega)
theorem zdZ (T:Txt c K mg) : dd_law_no_row P w K mg base:=by
  obtain⟨f,fd,F,hm⟩:=T.d_law_no_row;have hb:=F.binds (ps:=["_law_row_here", "_law_clans", "_law_cell"]) fun _ _ _ _ _ _ us hl=>by obtain⟨_,_,_,rfl⟩:=ZZ hl;rfl
  refine⟨fun ds Q Q' E E' hQ hE h=>?_,⟨f,fd,zfK T F,hb,F.kp,hm⟩⟩
  obtain⟨a,b,d,n,e,x1,x2,x3,h⟩:=h;exact⟨a,b,d,n,e,x1,x2,x3,fun f l y z=>hQ _ _ (h f l y z)⟩
theorem zgt:FnScope ["_law_spells_here", "_law_cell", "_law_at", "_law_length", "_law_weights", "_law_kind"] ["_law_spells_here", "_law_cell"] (ze jo):=⟨rfl,rfl,rfl,by decide +kernel,rfl,by decide +kernel,by decide +kernel⟩
theorem ziE (T:Txt c K mg) {f:Addr} {fd:FuncData} (F:Fun K "_law_no_spells" "_law_no_spells" jo f fd):FnOk P w K mg base (CXR P w) 1 f fd ["_law_spells_here", "_law_cell"] (spL K J4):=by
  have S:=zgt;refine fn3 F S (fun ds Q E h=>?_) (fun cdv A outer s H E E3 hE hr=>?_)
  · obtain⟨_,_,rfl,_⟩:=h;rfl
  refine⟨_,(zc (zf (i:=2) S.nd rfl (by walk_at "o") (op3 zo (op3 zr (n3 1) i3) (zw zL rfl T.n_len zK (za (n3 0) zb))))
    (zc (zbm (at3 (n3 0) (n3 2) (fun _ _=>rfl)) (z3 (n:=2) rfl (zA (zg (i:=3) S.nd rfl (by walk_at "o")) (zA (zg (i:=4) S.nd rfl (by walk_at "o")) z0))))
    (zc (zf (i:=5) S.nd rfl (by walk_at "o") (op3 zo (n3 1) i3))
    (zc (s_if (zl (zJ hr.units) (n3 5) i3 (nomark _)) (zd (zj (new3 (cat3 (new3 (cat3 (new3 (zO (n3 0) zP (zQ (n3 2)))) (new3 (zp (za (zF (za (n3 3) (za (new3 (cat3 (new3 (zO (n3 4) (zQ i3) zP)) (new3 (zp (za (op3 zz (op3 z8 i3 i3) (op3 zo (op3 zr (n3 1) i3) (op3 z8 i3 i3))) zb))))) zb))) zb))))) (new3 (zO (n3 0) (zQ (op3 zz (n3 2) i3)) zP)))))) zn)
    (zc (s_if (zl (zJ hr.units) (n3 5) i3 (nomark _)) (zd (zj (new3 (jd ["_law_length", "_law_weights"] [] [] rfl (z4 (osc:=ze jo) (by decide +kernel)) rfl (zM (n3 0)) (fun H0 s H fp cl=>⟨(z3 (n:=2) rfl (zA (zg (i:=0) (show((["_law_length", "_law_weights"]:List PySem.Str)++([]:List PySem.Str)).Nodup by decide) rfl (by walk_at "o")) (zA (zg (i:=1) (show((["_law_length", "_law_weights"]:List PySem.Str)++([]:List PySem.Str)).Nodup by decide) rfl (by walk_at "o")) z0))),zY,(zF (za (n3 0) (za (new3 (zp zb)) zb)))⟩))))) zn)
    (zc (s_if (zl (zJ hr.units) (n3 5) i3 (nomark _)) (zd (zj (new3 (cat3 (new3 (cat3 (new3 (zO (n3 0) zP (zQ (n3 2)))) (new3 (zp (za (zF (za (un3 jm (op3 zo (op3 zr (n3 1) i3) i3)) (za (n3 4) zb))) zb))))) (new3 (zO (n3 0) (zQ (op3 zz (n3 2) i3)) zP)))))) zn)
    (zc (s_if (zl (zJ hr.units) (n3 5) i3 (nomark _)) (zd (zj (new3 (cat3 (new3 (cat3 (new3 (zO (n3 0) zP (zQ (n3 2)))) (new3 (zp (za (zF (za (n3 3) (za (new3 (cat3 (new3 (zO (n3 4) zP (zQ (un3 jm i3)))) (new3 (zp (za (op3 jx (un3 jm i3) (op3 zo (op3 zr (n3 1) i3) i3)) zb))))) zb))) zb))))) (new3 (zO (n3 0) (zQ (op3 zz (n3 2) i3)) zP)))))) zn)
    (zc (s_if (zl (zJ hr.units) (n3 5) i3 (nomark _)) (zd (zj (new3 (cat3 (new3 (cat3 (new3 (zO (n3 0) zP (zQ (n3 2)))) (new3 (zp (za (zF (za (n3 3) (za (new3 (jd ["_law_one"] [] [] rfl (z4 (osc:=ze jo) (by decide +kernel)) rfl (zM (n3 4)) (fun H0 s H fp cl=>⟨(zg (i:=0) (show((["_law_one"]:List PySem.Str)++([]:List PySem.Str)).Nodup by decide) rfl (by walk_at "o")),zY,i3⟩))) zb))) zb))))) (new3 (zO (n3 0) (zQ (op3 zz (n3 2) i3)) zP)))))) zn)
    (zc (s_if (zl (zJ hr.units) (n3 5) i3 (nomark _)) (zd (zj (new3 (cat3 (n3 0) (new3 (zp (za (zF (za i3 (za (new3 (cat3 (n3 4) (new3 (zp (za i3 zb))))) zb))) zb))))))) zn)
    (zc (s_if (zl (zJ hr.units) (n3 5) i3 (nomark _)) (zd (zj (new3 (jd ["_law_length", "_law_weights"] [] [] rfl (z4 (osc:=ze jo) (by decide +kernel)) rfl (zM (n3 0)) (fun H0 s H fp cl=>⟨(z3 (n:=2) rfl (zA (zg (i:=0) (show((["_law_length", "_law_weights"]:List PySem.Str)++([]:List PySem.Str)).Nodup by decide) rfl (by walk_at "o")) (zA (zg (i:=1) (show((["_law_length", "_law_weights"]:List PySem.Str)++([]:List PySem.Str)).Nodup by decide) rfl (by walk_at "o")) z0))),zY,(zF (za (n3 0) (za (new3 (cat3 (n3 1) (new3 (rep3 (zp (za i3 zb)) (op3 jx i3 (zw zL rfl T.n_len zK (za (n3 1) zb))))))) zb)))⟩))))) zn)
    (zc (s_if (zl (zJ hr.units) (n3 5) i3 (nomark _)) (zd (zj (new3 (cat3 (n3 0) (new3 (zp (za (zF (za (op3 zz i3 (op3 zo (op3 zr (n3 1) i3) (op3 z8 i3 i3))) (za (n3 4) zb))) zb))))))) zn)
    (zc (s_if (zl (zJ hr.units) (n3 5) i3 (nomark _)) (zd (zj (new3 (jd ["_law_k"] ["_law_spells_here", "_law_cell"] [0,1] rfl (z4 (osc:=ze jo) (by decide +kernel)) rfl (jg rfl T.n_range (za (op3 zz i3 (op3 zo (op3 zr (n3 1) i3) i3)) zb)) (fun H0 s H fp cl=>⟨(zg (i:=0) (show((["_law_k"]:List PySem.Str)++(["_law_spells_here", "_law_cell"]:List PySem.Str)).Nodup by decide) rfl (by walk_at "o")),zY,(at3 (n3 1) (op3 zo (op3 zr (n3 2) i3) (zw zL rfl T.n_len zK (za (n3 1) zb))) (fun _ _=>rfl))⟩))))) zn)
    (zd (zj (new3 (zp zb)))))))))))))))),fun ds Q h=>?_⟩
  obtain⟨l,cc,rfl,hok,q⟩:=h;have hl:1≤l.length∧l.length≤8:=by have:=hok.1;omega
  have hat0:=Int.emod_nonneg (cc/10) (show(l.length:Int)≠0 by omega)
  have hat1:=Int.emod_lt_of_pos (cc/10) (show 0<(l.length:Int) by omega)
  obtain⟨s,hs1,hs2,hs3⟩:=jJ hat0 hat1;have hs1':atI (List.map dS l) (cc/10%(l.length:Int))=some (PyData.tuple [PyData.int s.1,PyData.list (s.2.map PyData.int)]):=by rw [JT,hs1];rfl
  have hsz:∀ n:Nat,n≤1000→n≤sizeLine:=fun n h=>Nat.le_trans h (by decide)
  have hLM:(List.map dS l).length=l.length:=List.length_map ..;have hsok:=hok.2.1 s hs2;have hw:=hsok.2.1.1;have mk:=zfv (l:=l) hsz hat0 hl.2 q;refine zk fun N hN=>?_
  walk_at "rd hLM"
  refine⟨divP,by omega,hN _ ?_⟩
  clear hN N;refine zk fun N hN=>?_
  walk_at "rd hs1' zat"
  refine hN _ ?_
  clear hN N hs1';generalize cc/10%(l.length:Int)=at_ at *;refine zk fun N hN=>?_
  walk_at "rd"
  refine⟨by decide,hN _ ?_⟩
  clear hN N;generalize cc%10=kd;have b30:(10 ^ Int.toNat 30:Int)=10 ^ 30:=rfl;have put:∀ (t:Int) (ws:List Int),¬(1≤t∧okW ws)→(cut (List.map dS l) none (some at_)).length+1≤sizeLine∧(cut (List.map dS l) none (some at_)++[PyData.tuple [PyData.int t,PyData.list (ws.map PyData.int)]]).length+(cut (List.map dS l) (some (at_+1)) none).length≤sizeLine∧∀ f,Q f (PyData.list (cut (List.map dS l) none (some at_)++[PyData.tuple [PyData.int t,PyData.list (ws.map PyData.int)]]++cut (List.map dS l) (some (at_+1)) none)):=fun t ws h=>mk l (t,ws) (by omega) (by omega) (zgN (zd8 _ _ _) h)
  have hc3:cut (List.map PyData.int s.2) (some 1) none=(s.2.drop 1).map PyData.int:=by rw [jy,JO s.2 (by omega) (by omega)];rfl
  have hc4:cut (List.map PyData.int s.2) none (some (-1))=(s.2.take (s.2.length - 1)).map PyData.int:=by
    rw [jy];unfold cut;congr 1;rw [HT.sIx_none];simp [HT.sIx];omega
  have hws:∀ (ws:List Int) (x:Int),List.map PyData.int ws++[PyData.int x]=(ws++[x]).map PyData.int:=fun ws x=>by rw [List.map_append];rfl
  have hwl:(List.map PyData.int s.2).length=s.2.length:=List.length_map ..;refine zk fun N hN=>?_
  walk_at "rd hc3 hws"
  refine ite2 (fun e=>?_) fun e=>hN _ ?_
  · obtain⟨m1,m2,m3⟩:=put s.1 (s.2.drop 1++[10 ^ Int.toNat 30+cc/64%10 ^ Int.toNat 30]) (fun z=>by
      have h1:=(z.2.2.1 _ (List.mem_append_right _ (List.mem_singleton.mpr rfl))).2;have h2:=Int.emod_nonneg (cc/64) (show(10 ^ Int.toNat 30:Int)≠0 by decide)
      omega)
    exact⟨p30,divP,p30,by decide,hsz _ (by simp;omega),m1,m2,m3 _⟩
  clear hN N;refine zk fun N hN=>?_
  walk_at "rd hLM"
  refine ite2 (fun e=>?_) fun e=>hN _ ?_
  · refine⟨hsz _ (by omega),?_⟩
    refine zZ dS (fun s=>dS (s.1,[])) (fun ρ=>∃ t u,ρ = [t,u]) l ?_ _ _ _ _ ⟨none,none,rfl⟩ ?_
    · rintro s hs ρ fa acc K ⟨t,u,rfl⟩ k
      walk_at "rd"
      exact k _ ⟨_,_,rfl⟩
    · have:=q true (l.map fun s=>(s.1,[])) (fun z=>by have:=(z.2.1 (s.1,[]) (List.mem_map.mpr ⟨s,hs2,rfl⟩)).2.1.1.1;simp at this) (by simp;omega)
      rw [dSs,List.map_map] at this;exact this
  clear hN N;refine zk fun N hN=>?_
  walk_at "rd"
  refine ite2 (fun e=>?_) fun e=>hN _ ?_
  · obtain⟨m1,m2,m3⟩:=put (-(cc/64%3)) s.2 (fun z=>by have h1:=z.1;omega)
    exact⟨divP,by decide,m1,m2,m3 _⟩
  clear hN N;refine zk fun N hN=>?_
  walk_at "rd hc4 hws"
  refine ite2 (fun e=>?_) fun e=>hN _ ?_
  · obtain⟨m1,m2,m3⟩:=put s.1 (s.2.take (s.2.length - 1)++[-1 - cc/64%9]) (fun z=>by
      have h1:=(z.2.2.1 _ (List.mem_append_right _ (List.mem_singleton.mpr rfl))).1
      omega)
    exact⟨divP,by decide,hsz _ (by simp;omega),m1,m2,m3 _⟩
  clear hN N;refine zk fun N hN=>?_
  walk_at "rd hwl"
  refine ite2 (fun e=>?_) fun e=>hN _ ?_
  · refine⟨hsz _ (by omega),?_⟩
    refine zZ PyData.int (fun _=>PyData.int 0) (fun ρ=>∃ t,ρ = [t]) s.2 ?_ _ _ _ _ ⟨none,rfl⟩ ?_
    · rintro s hs ρ fa acc K ⟨t,rfl⟩ k
      walk_at "rd"
      exact k _ ⟨_,rfl⟩
    · obtain⟨m1,m2,m3⟩:=put s.1 (s.2.map fun _=>0) (fun z=>z.2.2.2 (zgx s.2))
      rw [List.map_map] at m2 m3;exact⟨m1,m2,m3 _⟩
  clear hN N;refine zk fun N hN=>?_
  walk_at "rd hws hLM hwl"
  refine ite2 (fun e=>?_) fun e=>hN _ ?_
  · refine⟨hsz _ (by omega),hsz _ (by omega),?_⟩
    have:=q ((List.map dS l).all zy) (l++[(1,s.2++[1])]) (zjt (List.mem_append_left _ hs2) (List.mem_append_right _ (List.mem_singleton.mpr rfl)) (by simp)) (by simp;omega)
    rw [dSs,List.map_append] at this;exact this
  clear hN N;refine zk fun N hN=>?_
  walk_at "rd hLM"
  refine ite2 (fun e=>?_) fun e=>hN _ ?_
  · refine⟨hsz _ (by omega),?_⟩
    refine zZ dS (fun s=>dS (s.1,s.2++List.replicate (9 - s.2.length) 1)) (fun ρ=>∃ t u,ρ = [t,u]) l ?_ _ _ _ _ ⟨none,none,rfl⟩ ?_
    · rintro s hs ρ fa acc K ⟨t,u,rfl⟩ k
      have h8:=(hok.2.1 s hs).2.1.1;have e9:(9 - (s.2.length:Int)).toNat=9 - s.2.length:=by omega
      have er:(List.replicate (9 - s.2.length) [PyData.int 1]).flatten=(List.replicate (9 - s.2.length) (1:Int)).map PyData.int:=by
        generalize 9 - s.2.length=n
        induction n with
        | zero=>rfl
        | succ n ih=>rw [List.replicate_succ,List.flatten_cons,ih];rfl
      have hl':(List.map PyData.int s.2).length=s.2.length:=List.length_map ..
      walk_at "rd"
      rw [hl',e9,er,←List.map_append];exact⟨by omega,by omega,hsz _ (by omega),hsz _ (by rw [List.length_map,List.length_replicate];omega),k _ ⟨_,_,rfl⟩⟩
    · have:=q true (l.map fun s=>(s.1,s.2++List.replicate (9 - s.2.length) 1)) (fun z=>by
        have:=(z.2.1 _ (List.mem_map.mpr ⟨s,hs2,rfl⟩)).2.1.1.2;rw [List.length_append,List.length_replicate] at this
        omega) (by simp;omega)
      rw [dSs,List.map_map] at this;exact this
  clear hN N;refine zk fun N hN=>?_
  walk_at "rd hLM"
  refine ite2 (fun e=>?_) fun e=>hN _ ?_
  · have h2:=Int.emod_nonneg (cc/64) (show(10 ^ Int.toNat 20:Int)≠0 by decide)
    refine⟨divP,powB (k:=4) (by unfold Bits;decide) (by decide) (by decide),by decide,hsz _ (by omega),?_⟩
    have:=q ((List.map dS l).all zy&&false) (l++[(60+cc/64%10 ^ Int.toNat 20,s.2)]) (fun z=>by
      have h3:=z.2.2;have h4:tot (l++[(60+cc/64%10 ^ Int.toNat 20,s.2)])=tot l+(60+cc/64%10 ^ Int.toNat 20):=by unfold tot;rw [List.map_append,List.sum_append];simp
      have h5:=zbp (fun t ht=>(hok.2.1 t ht).1) hs2
      have h6:=hsok.1
      omega) (by simp;omega)
    rw [dSs,List.map_append] at this;exact this
  clear hN N;refine zk fun N hN=>?_
  walk_at "rd hLM"
  refine ite2 (fun e=>?_) fun e=>hN _ ?_
  · have hk0:=Int.emod_nonneg (cc/64) (show(l.length:Int)≠0 by omega)
    have hk1:=Int.emod_lt_of_pos (cc/64) (show 0<(l.length:Int) by omega)
    obtain⟨x,hx1,hx2,hx3⟩:=jJ hk0 hk1;have hx:atI (List.map dS l) (cc/64%(l.length:Int))=some (dS x):=by rw [JT,hx1];rfl
    refine⟨divP,by decide,by omega,by omega,hsz _ (by unfold nums;simp;omega),?_⟩
    refine zcy (fun i:Nat=>PyData.int (0+(i:Nat))) (fun _=>dS x) (fun ρ=>∃ t,ρ = [t,some (.sh false (PyData.list (List.map dS l))),some (.sh true (.int cc))]) (List.range (9+cc/64%3).toNat) ?_ _ _ _ _ ⟨none,rfl⟩ ?_
    · rintro i hi ρ fa acc K ⟨t,rfl⟩ k
      walk_at "rd hLM hx"
      exact⟨divP,by omega,k _ _ ⟨_,rfl⟩⟩
    · intro fb
      have:=q fb ((List.range (9+cc/64%3).toNat).map fun _=>x) (fun z=>by have:=z.1.2;simp at this;omega) (by simp;omega)
      rw [dSs,List.map_map] at this;exact this
  clear hN N
  walk_at "rd"
  exact q _ [] (fun z=>by have:=z.1.1;simp at this) (by simp)
theorem ziq (T:Txt c K mg) : dd_law_no_spells P w K mg base:=by
  obtain⟨f,fd,F,hm⟩:=T.d_law_no_spells;have hb:=F.binds (ps:=["_law_spells_here", "_law_cell"]) fun _ _ _ _ _ _ us hl=>by obtain⟨_,_,rfl⟩:=zR hl;rfl
  refine⟨fun ds Q Q' E E' hQ hE h=>?_,⟨f,fd,ziE T F,hb,F.kp,hm⟩⟩
  obtain⟨a,b,e,x,h⟩:=h;exact⟨a,b,e,x,fun f l y z=>hQ _ _ (h f l y z)⟩
theorem zgF:FnScope ["weights", "weight"] ["weights"] (ze j9):=⟨rfl,rfl,rfl,by decide +kernel,rfl,by decide +kernel,by decide +kernel⟩
theorem zgZ (T:Txt c K mg) {f:Addr} {fd:FuncData} (F:Fun K "check_weights" "check_weights" j9 f fd):FnOk P w K mg base (CXR P w) 1 f fd ["weights"] (spL K (JQ c)):=by
  have S:=zgF;refine fn3 F S (fun ds Q E h=>?_) (fun cdv A outer s H E E3 hE hr=>?_)
  · obtain⟨_,rfl,_⟩:=h;rfl
  refine⟨_,(zc (s_if (Jp (zbg Z5 Z5 i3 (zw zL rfl T.n_len zK (za (n3 0) zb)) (g3i rfl T.m_MOST_CLANS))) (zd (jb hE z7 rfl rfl T.m_NoSpell T.e_NoSpell (za s3 zb))) zn)
    (zc (zI PassesOwn.leaving rfl (zM (n3 0)) (zg (i:=1) S.nd rfl (by walk_at "o")) (zc (s_if (zl jG (n3 1) i3 (nomark _)) (zd (jb hE z7 rfl rfl T.m_NoSpell T.e_NoSpell (za s3 zb))) zn)
      (zd (s_if (zl zbI (n3 1) (op3 z8 i3 i3) (nomark _)) (zd (jb hE z7 rfl rfl T.m_NoSpell T.e_NoSpell (za s3 zb))) zn))))
    (zd (s_if (zl (zJ hr.units) (zw (Je rfl) rfl T.n_sum Jz (za (n3 0) zb)) i3 (nomark _)) (zd (jb hE z7 rfl rfl T.m_NoSpell T.e_NoSpell (za s3 zb))) zn)))),fun ds Q h=>?_⟩
  obtain⟨ws,rfl,q,hE'⟩:=h
  walk_at "rd"
  simp only [List.length_map]
  by_cases h1:1≤(ws.length:Int)
  case neg=>rw [if_neg h1];exact hE' fun z=>h1 (by have:=z.1.1;omega)
  rw [if_pos h1]
  by_cases h2:(ws.length:Int)≤8
  case neg=>rw [if_pos h2];exact hE' fun z=>h2 (by have:=z.1.2;omega)
  rw [if_neg (fun z=>z h2)]
  refine JW (fun ds ρ=>∃ rest t,ds=rest.map PyData.int∧ρ = [some (.sh false (.list (ws.map .int))),t]∧(∀ w∈rest,w∈ws)∧∀ w∈ws,w∈rest∨(0≤w∧w<10 ^ 30)) ?_ ?_ _ _ ⟨ws,none,rfl,rfl,fun _ h=>h,fun _ h=>.inl h⟩
  · rintro d ds ρ ⟨rest,t,e,rfl,hin,hall⟩ W hW
    cases rest with
    | nil=>cases e
    | cons w rest=>
      cases e;have hw:=hin w List.mem_cons_self
      walk_at "rd"
      by_cases h3:w<0
      · rw [if_pos h3];exact hE' fun z=>by have:=(z.2.1 w hw).1;omega
      rw [if_neg h3];refine⟨p30,?_⟩
      by_cases h4:(10:Int) ^ Int.toNat 30≤w
      · rw [if_pos h4];exact hE' fun z=>by have:=(z.2.1 w hw).2;exact absurd h4 (by have e:(10:Int) ^ Int.toNat 30=10 ^ 30:=rfl;omega)
      rw [if_neg h4];refine hW _ ⟨rest,_,rfl,rfl,fun x hx=>hin x (List.mem_cons_of_mem _ hx),fun x hx=>?_⟩
      rcases hall x hx with z|z
      · rcases List.mem_cons.mp z with rfl|z
        · exact .inr ⟨by omega,by have e:(10:Int) ^ Int.toNat 30=10 ^ 30:=rfl;omega⟩
        · exact .inl z
      · exact .inr z
  · rintro ρ ⟨rest,t,e,rfl,hin,hall⟩
    cases rest with
    | cons _ _=>cases e
    | nil=>
      walk_at "rd"
      refine⟨ws,jh ws,?_⟩
      by_cases h3:ws.sum=0
      · rw [if_pos h3];exact hE' fun z=>z.2.2 h3
      · rw [if_neg h3]
        exact q ⟨⟨by omega,by omega⟩,fun w hw=>(hall w hw).resolve_left (by simp),h3⟩
theorem zgB (T:Txt c K mg) : dd_check_weights c P w K mg base:=by
  obtain⟨f,fd,F,hm⟩:=T.d_check_weights;have hb:=F.binds (ps:=["weights"]) fun _ _ _ _ _ _ us hl=>by obtain⟨_,rfl⟩:=jT hl;rfl
  refine⟨fun ds Q Q' E E' hQ hE h=>?_,⟨f,fd,zgZ T F,hb,F.kp,hm⟩⟩
  obtain⟨l,e,h1,h2⟩:=h;exact⟨l,e,fun z=>hQ _ _ (h1 z),fun z=>hE _ (h2 z)⟩
theorem zgd:FnScope ["spells"] ["spells"] (ze jR):=⟨rfl,rfl,rfl,by decide +kernel,rfl,by decide +kernel,by decide +kernel⟩
theorem zil (T:Txt c K mg) {f:Addr} {fd:FuncData} (F:Fun K "all_turns" "all_turns" jR f fd):FnOk P w K mg base (CXR P w) 1 f fd ["spells"] (spL K Zj):=by
  have S:=zgd;refine fn3 F S (fun ds Q E h=>?_) (fun cdv A outer s H E E3 hE hr=>?_)
  · obtain⟨_,rfl,_⟩:=h;rfl
  refine⟨_,(zd (zj (zw (Je rfl) rfl T.n_sum Jz (za (new3 (jd ["spell"] [] [] rfl (z4 (osc:=ze jR) (by decide +kernel)) rfl (zM (n3 0)) (fun H0 s H fp cl=>⟨(zg (i:=0) (show((["spell"]:List PySem.Str)++([]:List PySem.Str)).Nodup by decide) rfl (by walk_at "o")),zY,(at3 (n3 0) i3 (fun _ _=>rfl))⟩))) zb)))),fun ds Q h=>?_⟩
  obtain⟨l,rfl,hz,q⟩:=h
  walk_at "rd"
  rw [List.length_map];refine⟨sz (by omega),?_⟩
  refine zZ (f:=false) dS (fun s=>.int s.1) (fun ρ=>∃ t,ρ = [t]) l ?_ _ _ _ _ ⟨none,rfl⟩ ?_
  · rintro s hs ρ fa acc K ⟨t,rfl⟩ k
    simp only [seq3,next3,set3,own3,ret3,ifS3,tt3,o3,u3,v3,atV,asS,asB,asD,optP,asT,asLd,asL,atO,Zf,nilP,asId,asI,k3,nw3,add3,int3,int0,neg3,eq3,ne3,eqOk,eqv3,notN3,isNone,ix3,ixD,Z3,nil3,ZT,cb3,len3,lenD,abs3,sum3,max3,min3,or3,not3,ZJ,ZF,ch3,tup3,lst3,ZX,catN,slL3,no3,Z4,ZI,L2.isD,ZV,asg3,gn3,Z0,ZC,gnil3,app3,put3,frzS,frz,frz1,for3,itL,itT,itZ,rg1,rg2,jO,true3,cst3,ZG,try3,ZY,xif3,isxr,isxy,isxt,jp,shs,Cl.d,Cl.dat,Cl.f,zan,zy,Option.map_some,Option.map_none,Option.isSome_some,Option.isSome_none,Option.join_some,Option.join_none,List.all_cons,List.all_nil,Bool.and_true,Bool.true_and,Bool.and_self,Bool.or_false,Bool.false_or,Bool.or_true,Bool.true_or,List.map_cons,List.map_nil,List.length_cons,List.length_nil,Nat.reduceAdd,Nat.reduceSub,Nat.sub_self,List.replicate,List.cons_append,List.nil_append,List.append_nil,List.getElem?_cons_zero,List.getElem?_cons_succ,List.set_cons_zero,List.set_cons_succ,Option.some.injEq,Cl.sh.injEq,Cl.ow.injEq,Cl.ex.injEq,PyData.int.injEq,PyData.bool.injEq,PyData.str.injEq,PyData.list.injEq,PyData.tuple.injEq,List.cons.injEq,reduceCtorEq,and_assoc,and_true,true_and,and_self,exists_eq_left,exists_eq_left',exists_eq',exists_eq_right,exists_eq_right',exists_and_left,exists_const,exists_false,false_and,and_false,or_false,false_or,or_true,true_or,decide_true,decide_false,decide_eq_true_eq,Bool.not_true,Bool.not_false,Bool.false_eq_true,Bool.true_eq_false,if_true,if_false,ite_true,ite_false,Bool.not_eq_true',decide_eq_false_iff_not,eq_self_iff_true,not_true_eq_false,not_false_eq_true,sz0,sz1,sz2,sz3,sz4,sz5,par3,Z7,aug3,ZB,max33,idx3,ext3,itE,repN,ZE,ZO,J2,Zm,Zn,J9,Zo,Zu,J0,J6,Zh,Zi,J4,JQ,Zj,JM,Jd,Jh,JX,Zp,JJ,JP,Zq,Jn,Zb,JR,Zt,JZ,J3,JU,JS,JK,JN,Ze,JL,Zl,J5,JY,J7,JH,dSs,dS,dI,zy,dQ,dP,dPs,dRoom,dW,atI0]
    exact k _ ⟨_,rfl⟩
  · walk_at "rd"
    refine⟨l.map (fun s:Spell=>s.1),?_,q⟩
    rw [←jh (l.map (fun s:Spell=>s.1)),List.map_map]
    rfl
theorem zdg (T:Txt c K mg) : dd_all_turns P w K mg base:=by
  obtain⟨f,fd,F,hm⟩:=T.d_all_turns;have hb:=F.binds (ps:=["spells"]) fun _ _ _ _ _ _ us hl=>by obtain⟨_,rfl⟩:=jT hl;rfl
  refine⟨fun ds Q Q' E E' hQ hE h=>?_,⟨f,fd,zil T F,hb,F.kp,hm⟩⟩
  obtain⟨l,e,z,h⟩:=h;exact⟨l,e,z,hQ _ _ h⟩
theorem zeL:FnScope ["spells", "turns", "weights"] ["spells"] (ze j1):=⟨rfl,rfl,rfl,by decide +kernel,rfl,by decide +kernel,by decide +kernel⟩
theorem zfk (T:Txt c K mg) (zjP:dd_check_weights c P w K mg base) (zjL:dd_all_turns P w K mg base) {f:Addr} {fd:FuncData} (F:Fun K "check_spells" "check_spells" j1 f fd):FnOk P w K mg base (CXR P w) 2 f fd ["spells"] (spL K (JM c)):=by
  have S:=zeL;refine fn3 F S (fun ds Q E h=>?_) (fun cdv A outer s H E E3 hE hr=>?_)
  · obtain⟨_,rfl,_⟩:=h;rfl
  refine⟨_,(zc (s_if (Jp (zbg Z5 Z5 i3 (zw zL rfl T.n_len zK (za (n3 0) zb)) (g3i rfl T.m_MOST_SPELLS))) (zd (jb hE z7 rfl rfl T.m_NoSpell T.e_NoSpell (za s3 zb))) zn)
    (zc (zI PassesOwn.leaving rfl (zM (n3 0)) (z3 (n:=2) rfl (zA (zg (i:=1) S.nd rfl (by walk_at "o")) (zA (zg (i:=2) S.nd rfl (by walk_at "o")) z0))) (zc (s_if (zl jG (n3 1) i3 (nomark _)) (zd (jb hE z7 rfl rfl T.m_NoSpell T.e_NoSpell (za s3 zb))) zn)
      (zc (zax (df3 hE zjP (hr.mono (by decide)) rfl zi (za (n3 2) zb)))
      (zd (s_if (zl (jl hr.units) (zw zL rfl T.n_len zK (za (n3 2) zb)) (zw zL rfl T.n_len zK (za (at3 (at3 (n3 0) i3 (fun _ _=>rfl)) i3 (fun _ _=>rfl)) zb)) (nomark _)) (zd (jb hE z7 rfl rfl T.m_NoSpell T.e_NoSpell (za s3 zb))) zn)))))
    (zd (s_if (zl za0 (df3 hE zjL (hr.mono (by decide)) rfl zi (za (n3 0) zb)) (g3i rfl T.m_MOST_TURNS) (nomark _)) (zd (jb hE z7 rfl rfl T.m_NoSpell T.e_NoSpell (za s3 zb))) zn)))),fun ds Q h=>?_⟩
  obtain⟨l,rfl,q,hE'⟩:=h
  walk_at "rd"
  simp only [List.length_map]
  by_cases h1:1≤(l.length:Int)
  case neg=>rw [if_neg h1];exact hE' fun z=>h1 (by have:=z.1.1;omega)
  rw [if_pos h1]
  by_cases h2:(l.length:Int)≤8
  case neg=>rw [if_pos h2];exact hE' fun z=>h2 (by have:=z.1.2;omega)
  rw [if_neg (fun z=>z h2)]
  have hd0:atI (l.map dS) 0=some (dS (l.headD (0,[]))):=by
    cases l with
    | nil=>simp at h1
    | cons a r=>exact atI0
  refine JW (fun ds ρ=>∃ rest t u,ds=rest.map dS∧ρ = [some (.sh false (.list (l.map dS))),t,u]∧(∀ w∈rest,w∈l)∧∀ w∈l,w∈rest∨(1≤w.1∧okW w.2∧w.2.length=many l)) ?_ ?_ _ _ ⟨l,none,none,rfl,rfl,fun _ h=>h,fun _ h=>.inl h⟩
  · rintro d ds ρ ⟨rest,t,u,e,rfl,hin,hall⟩ W hW
    cases rest with
    | nil=>cases e
    | cons w rest=>
      cases e;have hw:=hin w List.mem_cons_self
      walk_at "rd"
      by_cases h3:w.1<1
      · rw [if_pos h3];exact hE' fun z=>by have:=(z.2.1 w hw).1;omega
      rw [if_neg h3];refine⟨w.2,rfl,fun hok=>?_,fun hno=>hE' fun z=>hno (z.2.1 w hw).2.1⟩
      simp only [seq3,next3,set3,own3,ret3,ifS3,tt3,o3,u3,v3,atV,asS,asB,asD,optP,asT,asLd,asL,atO,Zf,nilP,asId,asI,k3,nw3,add3,int3,int0,neg3,eq3,ne3,eqOk,eqv3,notN3,isNone,ix3,ixD,Z3,nil3,ZT,cb3,len3,lenD,abs3,sum3,max3,min3,or3,not3,ZJ,ZF,ch3,tup3,lst3,ZX,catN,slL3,no3,Z4,ZI,L2.isD,ZV,asg3,gn3,Z0,ZC,gnil3,app3,put3,frzS,frz,frz1,for3,itL,itT,itZ,rg1,rg2,jO,true3,cst3,ZG,try3,ZY,xif3,isxr,isxy,isxt,jp,shs,Cl.d,Cl.dat,Cl.f,zan,zy,Option.map_some,Option.map_none,Option.isSome_some,Option.isSome_none,Option.join_some,Option.join_none,List.all_cons,List.all_nil,Bool.and_true,Bool.true_and,Bool.and_self,Bool.or_false,Bool.false_or,Bool.or_true,Bool.true_or,List.map_cons,List.map_nil,List.length_cons,List.length_nil,Nat.reduceAdd,Nat.reduceSub,Nat.sub_self,List.replicate,List.cons_append,List.nil_append,List.append_nil,List.getElem?_cons_zero,List.getElem?_cons_succ,List.set_cons_zero,List.set_cons_succ,Option.some.injEq,Cl.sh.injEq,Cl.ow.injEq,Cl.ex.injEq,PyData.int.injEq,PyData.bool.injEq,PyData.str.injEq,PyData.list.injEq,PyData.tuple.injEq,List.cons.injEq,reduceCtorEq,and_assoc,and_true,true_and,and_self,exists_eq_left,exists_eq_left',exists_eq',exists_eq_right,exists_eq_right',exists_and_left,exists_const,exists_false,false_and,and_false,or_false,false_or,or_true,true_or,decide_true,decide_false,decide_eq_true_eq,Bool.not_true,Bool.not_false,Bool.false_eq_true,Bool.true_eq_false,if_true,if_false,ite_true,ite_false,Bool.not_eq_true',decide_eq_false_iff_not,eq_self_iff_true,not_true_eq_false,not_false_eq_true,sz0,sz1,sz2,sz3,sz4,sz5,par3,Z7,aug3,ZB,max33,idx3,ext3,itE,repN,ZE,ZO,J2,Zm,Zn,J9,Zo,Zu,J0,J6,Zh,Zi,J4,JQ,Zj,JM,Jd,Jh,JX,Zp,JJ,JP,Zq,Jn,Zb,JR,Zt,JZ,J3,JU,JS,JK,JN,Ze,JL,Zl,J5,JY,J7,JH,dSs,dS,dI,zy,dQ,dP,dPs,dRoom,dW,atI0,atI1,hd0,List.length_map]
      by_cases h4:(w.2.length:Int)=(l.headD (0,[])).2.length
      · rw [if_neg (fun z=>z h4)]
        refine hW _ ⟨rest,_,_,rfl,rfl,fun x hx=>hin x (List.mem_cons_of_mem _ hx),fun x hx=>?_⟩
        rcases hall x hx with z|z
        · rcases List.mem_cons.mp z with rfl|z
          · exact .inr ⟨by omega,hok,by unfold many;omega⟩
          · exact .inl z
        · exact .inr z
      · rw [if_pos h4]
        exact hE' fun z=>h4 (by have:=(z.2.1 w hw).2.2;unfold many at this;omega)
  · rintro ρ ⟨rest,t,u,e,rfl,hin,hall⟩
    cases rest with
    | cons _ _=>cases e
    | nil=>
      walk_at "rd"
      refine⟨l,rfl,by omega,?_⟩
      by_cases h3:60<tot l
      · rw [if_pos h3];exact hE' fun z=>by have:=z.2.2;omega
      · rw [if_neg h3]
        exact q ⟨⟨by omega,by omega⟩,fun w hw=>(hall w hw).resolve_left (by simp),by omega⟩
theorem zes (T:Txt c K mg) (zjP:dd_check_weights c P w K mg base) (zjL:dd_all_turns P w K mg base):dd_check_spells c P w K mg base:=by
  obtain⟨f,fd,F,hm⟩:=T.d_check_spells;have hb:=F.binds (ps:=["spells"]) fun _ _ _ _ _ _ us hl=>by obtain⟨_,rfl⟩:=jT hl;rfl
  refine⟨fun ds Q Q' E E' hQ hE h=>?_,⟨f,fd,zfk T zjP zjL F,hb,F.kp,hm⟩⟩
  obtain⟨l,e,h1,h2⟩:=h;exact⟨l,e,fun z=>hQ _ _ (h1 z),fun z=>hE _ (h2 z)⟩
theorem zgO:FnScope ["one", "other", "greater", "lesser", "rest"] ["one", "other"] (ze Jc):=⟨rfl,rfl,rfl,by decide +kernel,rfl,by decide +kernel,by decide +kernel⟩
theorem zjs (T:Txt c K mg) {f:Addr} {fd:FuncData} (F:Fun K "common_divisor" "common_divisor" Jc f fd):FnOk P w K mg base (CXR P w) 1 f fd ["one", "other"] (spL K Jd):=by
  have S:=zgO;refine fn3 F S (fun ds Q E h=>?_) (fun cdv A outer s H E E3 hE hr=>?_)
  · obtain⟨_,_,rfl,_⟩:=h;rfl
  refine⟨_,(zc (zf (i:=2) S.nd rfl (by walk_at "o") (zw za6 rfl T.n_abs zaO (za (n3 0) zb)))
    (zc (zf (i:=3) S.nd rfl (by walk_at "o") (zw za6 rfl T.n_abs zaO (za (n3 1) zb)))
    (zc (zaT PassesOwn.leaving (zl (jl hr.units) (n3 3) i3 (nomark _)) (zc (zf (i:=4) S.nd rfl (by walk_at "o") (op3 zo (n3 2) (n3 3)))
      (zc (zf (i:=2) S.nd rfl (by walk_at "o") (n3 3))
      (zd (zf (i:=3) S.nd rfl (by walk_at "o") (n3 4))))))
    (zd (zj (n3 2)))))),fun ds Q h=>?_⟩
  obtain⟨a,b,rfl,q⟩:=h
  walk_at "rd"
  refine⟨_,zaf (fun n ρ=>∃ g l r,ρ = [some (.sh true (.int a)),some (.sh true (.int b)),some (.sh true (.int g)),some (.sh true (.int l)),r]∧0≤g∧0≤l∧Int.gcd g l=Int.gcd a b∧n=l.toNat) ?_ _ _ ⟨_,_,_,rfl,by split<;>omega,by split<;>omega,zda a b,rfl⟩⟩
  rintro n ρ ⟨g,l,r,rfl,hg,hl,hG,rfl⟩ W hW
  walk_at "rd"
  by_cases h0:l=0
  · rw [if_neg (fun z=>z h0)]
    subst h0;rw [←hG,zcU hg] at q;exact q
  · rw [if_pos h0]
    have hp:0<l:=by omega
    have h1:=Int.emod_nonneg g h0;have h2:=Int.emod_lt_of_pos g hp;exact⟨hp,hW (g%l).toNat _ (by omega) ⟨l,g%l,_,rfl,hl,h1,(zcq hg hp).trans hG,rfl⟩⟩
theorem zeO (T:Txt c K mg) : dd_common_divisor P w K mg base:=by
  obtain⟨f,fd,F,hm⟩:=T.d_common_divisor;have hb:=F.binds (ps:=["one", "other"]) fun _ _ _ _ _ _ us hl=>by obtain⟨_,_,rfl⟩:=zR hl;rfl
  refine⟨fun ds Q Q' E E' hQ hE h=>?_,⟨f,fd,zjs T F,hb,F.kp,hm⟩⟩
  first|(obtain⟨a0,a1,e,h⟩:=h;exact⟨a0,a1,e,hQ _ h⟩)|(unfold Jd at *;grind)
theorem ziI:FnScope ["weights", "divisor", "weight"] ["weights"] (ze JA):=⟨rfl,rfl,rfl,by decide +kernel,rfl,by decide +kernel,by decide +kernel⟩
theorem zhB (T:Txt c K mg) (zjQ:dd_common_divisor P w K mg base) {f:Addr} {fd:FuncData} (F:Fun K "divisor_of_all" "divisor_of_all" JA f fd):FnOk P w K mg base (CXR P w) 2 f fd ["weights"] (spL K Jh):=by
  have S:=ziI;refine fn3 F S (fun ds Q E h=>?_) (fun cdv A outer s H E E3 hE hr=>?_)
  · obtain⟨_,rfl,_⟩:=h;rfl
  refine⟨_,(zc (zf (i:=1) S.nd rfl (by walk_at "o") i3)
    (zc (zI PassesOwn.leaving rfl (zM (n3 0)) (zg (i:=2) S.nd rfl (by walk_at "o")) (zd (zf (i:=1) S.nd rfl (by walk_at "o") (df3 hE zjQ (hr.mono (by decide)) rfl zi (za (n3 1) (za (n3 2) zb))))))
    (zd (zj (n3 1))))),fun ds Q h=>?_⟩
  obtain⟨ws,rfl,q⟩:=h
  walk_at "rd"
  refine JW (fun ds ρ=>∃ done rest t,ds=rest.map PyData.int∧ws=done++rest∧ρ = [some (.sh false (.list (ws.map .int))),some (.sh true (.int (gcdL done))),t]) ?_ ?_ _ _ ⟨[],ws,none,rfl,rfl,rfl⟩
  · rintro d ds ρ ⟨done,rest,t,e,hws,rfl⟩ W hW
    cases rest with
    | nil=>cases e
    | cons w rest=>
      cases e
      walk_at "rd"
      exact hW _ ⟨done++[w],rest,_,rfl,by rw [hws,List.append_assoc];rfl,by unfold gcdL;rw [List.foldl_append];rfl⟩
  · rintro ρ ⟨done,rest,t,e,hws,rfl⟩
    cases rest with
    | cons _ _=>cases e
    | nil=>
      walk_at "rd"
      rw [List.append_nil] at hws;subst hws;exact q
theorem zjF (T:Txt c K mg) (zjQ:dd_common_divisor P w K mg base):dd_divisor_of_all P w K mg base:=by
  obtain⟨f,fd,F,hm⟩:=T.d_divisor_of_all;have hb:=F.binds (ps:=["weights"]) fun _ _ _ _ _ _ us hl=>by obtain⟨_,rfl⟩:=jT hl;rfl
  refine⟨fun ds Q Q' E E' hQ hE h=>?_,⟨f,fd,zhB T zjQ F,hb,F.kp,hm⟩⟩
  first|(obtain⟨a0,e,h⟩:=h;exact⟨a0,e,hQ _ h⟩)|(unfold Jh at *;grind)
theorem zdo:FnScope ["spells", "bottom", "spell", "parts"] ["spells"] (ze Js):=⟨rfl,rfl,rfl,by decide +kernel,rfl,by decide +kernel,by decide +kernel⟩
theorem zh6 (T:Txt c K mg) (zjS:dd_divisor_of_all P w K mg base) (zjQ:dd_common_divisor P w K mg base) {f:Addr} {fd:FuncData} (F:Fun K "least_bottom" "least_bottom" Js f fd):FnOk P w K mg base (CXR P w) 3 f fd ["spells"] (spL K JX):=by
  have S:=zdo;refine fn3 F S (fun ds Q E h=>?_) (fun cdv A outer s H E E3 hE hr=>?_)
  · obtain⟨_,rfl,_⟩:=h;rfl
  refine⟨_,(zc (zf (i:=1) S.nd rfl (by walk_at "o") i3)
    (zc (zI PassesOwn.leaving rfl (zM (n3 0)) (zg (i:=2) S.nd rfl (by walk_at "o")) (zc (zf (i:=3) S.nd rfl (by walk_at "o") (op3 zr (zw (Je rfl) rfl T.n_sum Jz (za (at3 (n3 2) i3 (fun _ _=>rfl)) zb)) (df3 hE zjS (hr.mono (by decide)) rfl zi (za (at3 (n3 2) i3 (fun _ _=>rfl)) zb))))
      (zd (zf (i:=1) S.nd rfl (by walk_at "o") (op3 zr (op3 zU (n3 1) (n3 3)) (df3 hE zjQ (hr.mono (by decide)) rfl zi (za (n3 1) (za (n3 3) zb))))))))
    (zd (zj (n3 1))))),fun ds Q h=>?_⟩
  obtain⟨l,rfl,hok,q⟩:=h
  walk_at "rd"
  refine JW (fun ds ρ=>∃ done rest t u,ds=rest.map dS∧l=done++rest∧ρ = [some (.sh false (.list (l.map dS))),some (.sh true (.int (bot done))),t,u]) ?_ ?_ _ _ ⟨[],l,none,none,rfl,rfl,rfl⟩
  · rintro d ds ρ ⟨done,rest,t,u,e,hl,rfl⟩ W hW
    cases rest with
    | nil=>cases e
    | cons w rest=>
      cases e;have hw:w∈l:=by rw [hl];simp
      have hwok:=(hok.2.1 w hw).2.1;have hdone:0<bot done∧Bits (1+103*done.length) (bot done):=Z9 done 1 1 (fun s hs=>(hok.2.1 s (by rw [hl];exact List.mem_append_left _ hs)).2.1) (by decide) (by unfold Bits;decide)
      have hlen:done.length≤8:=by have:=hok.1.2;rw [hl,List.length_append] at this;omega
      have hb:Bits 900 (bot done):=hdone.2.mono (by omega)
      simp only [seq3,next3,set3,own3,ret3,ifS3,tt3,o3,u3,v3,atV,asS,asB,asD,optP,asT,asLd,asL,atO,Zf,nilP,asId,asI,k3,nw3,add3,int3,int0,neg3,eq3,ne3,eqOk,eqv3,notN3,isNone,ix3,ixD,Z3,nil3,ZT,cb3,len3,lenD,abs3,sum3,max3,min3,or3,not3,ZJ,ZF,ch3,tup3,lst3,ZX,catN,slL3,no3,Z4,ZI,L2.isD,ZV,asg3,gn3,Z0,ZC,gnil3,app3,put3,frzS,frz,frz1,for3,itL,itT,itZ,rg1,rg2,jO,true3,cst3,ZG,try3,ZY,xif3,isxr,isxy,isxt,jp,shs,Cl.d,Cl.dat,Cl.f,zan,zy,Option.map_some,Option.map_none,Option.isSome_some,Option.isSome_none,Option.join_some,Option.join_none,List.all_cons,List.all_nil,Bool.and_true,Bool.true_and,Bool.and_self,Bool.or_false,Bool.false_or,Bool.or_true,Bool.true_or,List.map_cons,List.map_nil,List.length_cons,List.length_nil,Nat.reduceAdd,Nat.reduceSub,Nat.sub_self,List.replicate,List.cons_append,List.nil_append,List.append_nil,List.getElem?_cons_zero,List.getElem?_cons_succ,List.set_cons_zero,List.set_cons_succ,Option.some.injEq,Cl.sh.injEq,Cl.ow.injEq,Cl.ex.injEq,PyData.int.injEq,PyData.bool.injEq,PyData.str.injEq,PyData.list.injEq,PyData.tuple.injEq,List.cons.injEq,reduceCtorEq,and_assoc,and_true,true_and,and_self,exists_eq_left,exists_eq_left',exists_eq',exists_eq_right,exists_eq_right',exists_and_left,exists_const,exists_false,false_and,and_false,or_false,false_or,or_true,true_or,decide_true,decide_false,decide_eq_true_eq,Bool.not_true,Bool.not_false,Bool.false_eq_true,Bool.true_eq_false,if_true,if_false,ite_true,ite_false,Bool.not_eq_true',decide_eq_false_iff_not,eq_self_iff_true,not_true_eq_false,not_false_eq_true,sz0,sz1,sz2,sz3,sz4,sz5,par3,Z7,aug3,ZB,max33,idx3,ext3,itE,repN,ZE,ZO,J2,Zm,Zn,J9,Zo,Zu,J0,J6,Zh,Zi,J4,JQ,Zj,JM,Jd,Jh,JX,Zp,JJ,JP,Zq,Jn,Zb,JR,Zt,JZ,J3,JU,JS,JK,JN,Ze,JL,Zl,J5,JY,J7,JH,dSs,dS,dI,zy,dQ,dP,dPs,dRoom,dW,atI0,atI1]
      refine⟨w.2,jh _,w.2,rfl,⟨zaJ hwok,((Zr hwok).le (by have:=zhV hwok;have:=zaJ hwok;omega)).mono (by decide)⟩,?_⟩
      have hgb:Bits 9000 (Int.gcd (bot done) (parts w.2):Int):=((zaM hwok).le (by have:=zi8 (b:=bot done) (Jb hwok);have:=za5 (b:=bot done) (Jb hwok);have:=Jb hwok;omega)).mono (by decide)
      refine⟨hb.mulOk (zaM hwok) (by decide),⟨za5 (Jb hwok),hgb⟩,?_⟩
      exact hW _ ⟨done++[w],rest,_,_,rfl,by rw [hl,List.append_assoc];rfl,by unfold bot;rw [List.foldl_append];rfl⟩
  · rintro ρ ⟨done,rest,t,u,e,hl,rfl⟩
    cases rest with
    | cons _ _=>cases e
    | nil=>
      walk_at "rd"
      rw [List.append_nil] at hl;subst hl;exact q
theorem zdj (T:Txt c K mg) (zjS:dd_divisor_of_all P w K mg base) (zjQ:dd_common_divisor P w K mg base):dd_least_bottom P w K mg base:=by
  obtain⟨f,fd,F,hm⟩:=T.d_least_bottom;have hb:=F.binds (ps:=["spells"]) fun _ _ _ _ _ _ us hl=>by obtain⟨_,rfl⟩:=jT hl;rfl
  refine⟨fun ds Q Q' E E' hQ hE h=>?_,⟨f,fd,zh6 T zjS zjQ F,hb,F.kp,hm⟩⟩
  obtain⟨l,e,o,h⟩:=h;exact⟨l,e,o,hQ _ _ h⟩
theorem zhT:FnScope ["bottom", "weights", "total"] ["bottom", "weights"] (ze jQ):=⟨rfl,rfl,rfl,by decide +kernel,rfl,by decide +kernel,by decide +kernel⟩
theorem ziT (T:Txt c K mg) {f:Addr} {fd:FuncData} (F:Fun K "shares_over" "shares_over" jQ f fd):FnOk P w K mg base (CXR P w) 1 f fd ["bottom", "weights"] (spL K Zp):=by
  have S:=zhT;refine fn3 F S (fun ds Q E h=>?_) (fun cdv A outer s H E E3 hE hr=>?_)
  · obtain⟨_,_,rfl,_⟩:=h;rfl
  refine⟨_,(zc (zf (i:=2) S.nd rfl (by walk_at "o") (zw (Je rfl) rfl T.n_sum Jz (za (n3 1) zb)))
    (zd (zj (new3 (jd ["weight"] ["bottom", "total"] [0,2] rfl (z4 (osc:=ze jQ) (by decide +kernel)) rfl (zM (n3 1)) (fun H0 s H fp cl=>⟨(zg (i:=0) (show((["weight"]:List PySem.Str)++(["bottom", "total"]:List PySem.Str)).Nodup by decide) rfl (by walk_at "o")),zY,(op3 zr (op3 zU (n3 0) (n3 1)) (n3 2))⟩)))))),fun ds Q h=>?_⟩
  obtain⟨b,ws,rfl,hok,hb,q⟩:=h
  walk_at "rd"
  refine⟨ws,jh _,?_⟩
  refine⟨sz (by rw [List.length_map];have:=hok.1.2;omega),?_⟩
  refine zZ (f:=false) PyData.int (fun w=>.int (w*b/ws.sum)) (fun ρ=>∃ t,ρ = [t,some (.sh true (.int b)),some (.sh true (.int ws.sum))]) ws ?_ _ _ _ _ ⟨none,rfl⟩ ?_
  · rintro w hw ρ fa acc K ⟨t,rfl⟩ k
    have h1:IntMulOk w b:=(zc7 hok hw).mulOk hb (by decide)
    have h2:jV (w*b) ws.sum:=⟨jz hok,(Zr hok).mono (by decide)⟩
    show IntMulOk w b∧jV (w*b) ws.sum∧K (fa&&true) (acc++[.int (w*b/ws.sum)]) [some (.sh true (.int w)),some (.sh true (.int b)),some (.sh true (.int ws.sum))]
    rw [Bool.and_true];exact⟨h1,h2,k _ ⟨_,rfl⟩⟩
  · unfold dI shares at q
    rw [List.map_map] at q;exact q
theorem zh2 (T:Txt c K mg) : dd_shares_over P w K mg base:=by
  obtain⟨f,fd,F,hm⟩:=T.d_shares_over;have hb:=F.binds (ps:=["bottom", "weights"]) fun _ _ _ _ _ _ us hl=>by obtain⟨_,_,rfl⟩:=zR hl;rfl
  refine⟨fun ds Q Q' E E' hQ hE h=>?_,⟨f,fd,ziT T F,hb,F.kp,hm⟩⟩
  obtain⟨b,l,e,o,p,h⟩:=h;exact⟨b,l,e,o,p,hQ _ _ h⟩
theorem zgD:FnScope ["spells", "bottom", "latest", "told", "turns", "weights", "shares", "turn"] ["spells"] (ze jB):=⟨rfl,rfl,rfl,by decide +kernel,rfl,by decide +kernel,by decide +kernel⟩
theorem zjf (T:Txt c K mg) (zjO:dd_check_spells c P w K mg base) (zj9:dd_least_bottom P w K mg base) (zkg:dd_shares_over P w K mg base) {f:Addr} {fd:FuncData} (F:Fun K "quotas" "quotas" jB f fd):FnOk P w K mg base (CXR P w) 4 f fd ["spells"] (spL K (JJ c)):=by
  have S:=zgD;refine fn3 F S (fun ds Q E h=>?_) (fun cdv A outer s H E E3 hE hr=>?_)
  · obtain⟨_,rfl,_⟩:=h;rfl
  refine⟨_,(zc (zax (df3 hE zjO (hr.mono (by decide)) rfl zi (za (n3 0) zb)))
    (zc (zf (i:=1) S.nd rfl (by walk_at "o") (df3 hE zj9 (hr.mono (by decide)) rfl zi (za (n3 0) zb)))
    (zc (zaA (i:=2) S.nd rfl (by walk_at "o") ["weight"] [] [] rfl (z4 (osc:=ze jB) (by decide +kernel)) rfl (zM (at3 (at3 (n3 0) i3 (fun _ _=>rfl)) i3 (fun _ _=>rfl))) (fun H0 s H fp cl=>⟨(zg (i:=0) (show((["weight"]:List PySem.Str)++([]:List PySem.Str)).Nodup by decide) rfl (by walk_at "o")),zY,i3⟩))
    (zc (je (i:=3) S.nd rfl (by walk_at "o") (zp (za (n3 2) zb)))
    (zc (zI PassesOwn.leaving rfl (zM (n3 0)) (z3 (n:=2) rfl (zA (zg (i:=4) S.nd rfl (by walk_at "o")) (zA (zg (i:=5) S.nd rfl (by walk_at "o")) z0))) (zc (zf (i:=6) S.nd rfl (by walk_at "o") (df3 hE zkg (hr.mono (by decide)) rfl zi (za (n3 1) (za (n3 5) zb))))
      (zd (zI PassesOwn.leaving rfl (jg rfl T.n_range (za (n3 4) zb)) (zg (i:=7) S.nd rfl (by walk_at "o")) (zc (zaA (i:=2) S.nd rfl (by walk_at "o") ["quota", "share"] [] [] rfl (z4 (osc:=ze jB) (by decide +kernel)) rfl (zas rfl T.n_zip (za (n3 2) (za (n3 6) zb))) (fun H0 s H fp cl=>⟨(z3 (n:=2) rfl (zA (zg (i:=0) (show((["quota", "share"]:List PySem.Str)++([]:List PySem.Str)).Nodup by decide) rfl (by walk_at "o")) (zA (zg (i:=1) (show((["quota", "share"]:List PySem.Str)++([]:List PySem.Str)).Nodup by decide) rfl (by walk_at "o")) z0))),zY,(op3 zz (n3 0) (n3 1))⟩))
        (zd (jj (i:=3) rfl (by walk_at "o") (n3 2))))))))
    (zd (ju [3] (zj (zF (za (n3 1) (za (n3 3) zb))))))))))),fun ds Q h=>?_⟩
  obtain⟨l,rfl,q,hE'⟩:=h;refine zk fun N hN=>?_
  walk_at "rd"
  refine⟨l,rfl,fun hok=>hN _ ?_,hE'⟩
  clear hN N;have hl0:l≠[]:=fun z=>by have:=hok.1.1;rw [z] at this;simp at this
  have hd0:atI (l.map dS) 0=some (dS (l.headD (0,[]))):=by
    cases l with
    | nil=>exact absurd rfl hl0
    | cons a r=>exact atI0
  have hmany:many l≤8:=by
    cases l with
    | nil=>exact absurd rfl hl0
    | cons a r=>exact(hok.2.1 a List.mem_cons_self).2.1.1.2
  refine zk fun N hN=>?_
  walk_at "rd"
  refine⟨l,rfl,hok,hN _ ?_⟩
  clear hN N;refine zk fun N hN=>?_
  walk_at "rd hd0 atI1 List.length_map"
  refine⟨sz (by unfold many at hmany;omega),?_⟩
  refine zZ PyData.int (fun _=>.int 0) (fun ρ=>∃ t,ρ = [t]) (l.headD (0,[])).2 ?_ _ _ _ _ ⟨none,rfl⟩ ?_
  · rintro w hw ρ fa acc K ⟨t,rfl⟩ k
    walk_at "rd"
    exact k _ ⟨_,rfl⟩
  have hz:(l.headD (0,[])).2.map (fun _=>PyData.int 0)=(zeros l).map .int:=by
    unfold zeros many;rw [List.map_replicate,List.map_const']
  rw [List.nil_append,hz];refine hN _ ?_;clear hN N;refine zk fun N hN=>?_
  walk_at "rd"
  refine hN _ ?_
  clear hN N
  walk_at "rd"
  refine JW (fun ds ρ=>∃ done rest t u v w,ds=rest.map dS∧l=done++rest∧ρ = [some (.sh false (.list (l.map dS))),some (.sh true (.int (bot l))),some (.sh true (dI (runQ (bot l) done (zeros l,[zeros l])).1)),some (.ow true ((runQ (bot l) done (zeros l,[zeros l])).2.map dI)),t,u,v,w]∧(runQ (bot l) done (zeros l,[zeros l])).2.length≤1+(tot done).toNat) ?_ ?_ _ _ ⟨[],l,none,none,none,none,rfl,rfl,rfl,by simp [runQ]⟩
  · rintro d ds ρ ⟨done,rest,t,u,v,w',e,hl,rfl,hlen⟩ W hW
    cases rest with
    | nil=>cases e
    | cons w rest=>
      cases e;have hw:w∈l:=by rw [hl];simp
      have hwok:=(hok.2.1 w hw).2.1;have h1t:∀ s∈l,1≤s.1:=fun s hs=>(hok.2.1 s hs).1
      have hwt:=zbp h1t hw;have hw1:=h1t w hw;have hdt:tot done≤60 - w.1:=by
        have h60:=hok.2.2;have e:tot l=tot done+(w.1+tot rest):=by unfold tot;rw [hl,List.map_append,List.sum_append,List.map_cons,List.sum_cons]
        have:0≤tot rest:=jC fun s hs=>h1t s (by rw [hl];exact List.mem_append_right _ (List.mem_cons_of_mem _ hs))
        omega
      have hd0':0≤tot done:=jC fun s hs=>h1t s (by rw [hl];exact List.mem_append_left _ hs)
      walk_at "rd"
      refine⟨w.2,rfl,hwok,(ZN hok).mono (by decide),by omega,by have:=hok.2.2;omega,?_⟩
      generalize hp:runQ (bot l) done (zeros l,[zeros l])=p at hlen ⊢;refine ji (fun k ρ=>∃ t,ρ = [some (.sh false (.list (l.map dS))),some (.sh true (.int (bot l))),some (.sh true (dI (rep (zH (shares (bot l) w.2)) k p).1)),some (.ow true ((rep (zH (shares (bot l) w.2)) k p).2.map dI)),some (.sh true (.int w.1)),some (.sh false (dI w.2)),some (.sh true (dI (shares (bot l) w.2))),t]) ?_ ?_ ⟨w',rfl⟩
      · rintro k ρ hk ⟨t,rfl⟩ W' hW'
        have hr:∀ k p,rep (zH (shares (bot l) w.2)) (k+1) p=zH (shares (bot l) w.2) (rep (zH (shares (bot l) w.2)) k p):=fun k=>by
          induction k with
          | zero=>intro p;rfl
          | succ k ih=>intro p;rw [rep,ih];rfl
        have hlk:=ZM (shares (bot l) w.2) k p
        walk_at "rd"
        rw [ZA,List.length_map];refine⟨sz (by rw [List.length_zip];unfold shares;rw [List.length_map];have:=hwok.1.2;omega),?_⟩
        refine zZ _ (fun p=>.int (p.1+p.2)) (fun ρ=>∃ t u,ρ = [t,u]) _ ?_ _ _ _ _ ⟨none,none,rfl⟩ ?_
        · rintro x hx ρ fa acc K ⟨t,u,rfl⟩ k
          walk_at "rd"
          exact k _ ⟨_,_,rfl⟩
        · walk_at "rd"
          rw [List.length_map];refine⟨Nat.lt_of_lt_of_le (show _<1000000 by omega) (by decide),hW' _ ⟨?w,?h⟩⟩
          case h=>
          rw [hr];unfold zH addL dI;simp only [List.map_append,List.map_cons,List.map_nil,List.map_map,List.nil_append]
          rfl
      · rintro ρ ⟨t,rfl⟩
        have er:runQ (bot l) (done++[w]) (zeros l,[zeros l])=rep (zH (shares (bot l) w.2)) w.1.toNat p:=by
          unfold runQ at hp ⊢;rw [List.foldl_append,hp];rfl
        have et:tot (done++[w])=tot done+w.1:=by unfold tot;rw [List.map_append,List.sum_append];simp
        refine hW _ ⟨done++[w],rest,some (.sh true (.int w.1)),some (.sh false (dI w.2)),some (.sh true (dI (shares (bot l) w.2))),t,rfl,by rw [hl,List.append_assoc];rfl,by rw [er],?_⟩
        rw [er,ZM,et];omega
  · rintro ρ ⟨done,rest,t,u,v,w,e,hl,rfl,hlen⟩
    cases rest with
    | cons _ _=>cases e
    | nil=>
      walk_at "rd"
      rw [List.append_nil] at hl;subst hl;exact q hok
theorem zeB (T:Txt c K mg) (zjO:dd_check_spells c P w K mg base) (zj9:dd_least_bottom P w K mg base) (zkg:dd_shares_over P w K mg base):dd_quotas c P w K mg base:=by
  obtain⟨f,fd,F,hm⟩:=T.d_quotas;have hb:=F.binds (ps:=["spells"]) fun _ _ _ _ _ _ us hl=>by obtain⟨_,rfl⟩:=jT hl;rfl
  refine⟨fun ds Q Q' E E' hQ hE h=>?_,⟨f,fd,zjf T zjO zj9 zkg F,hb,F.kp,hm⟩⟩
  obtain⟨l,e,h1,h2⟩:=h;exact⟨l,e,fun z=>hQ _ _ (h1 z),fun z=>hE _ (h2 z)⟩
theorem zhF:FnScope ["row", "turns", "clans", "clan"] ["row", "turns", "clans"] (ze j7):=⟨rfl,rfl,rfl,by decide +kernel,rfl,by decide +kernel,by decide +kernel⟩
theorem zif (T:Txt c K mg) {f:Addr} {fd:FuncData} (F:Fun K "check_row" "check_row" j7 f fd):FnOk P w K mg base (CXR P w) 1 f fd ["row", "turns", "clans"] (spL K (JP c)):=by
  have S:=zhF;refine fn3 F S (fun ds Q E h=>?_) (fun cdv A outer s H E E3 hE hr=>?_)
  · obtain⟨_,_,_,rfl,_⟩:=h;rfl
  refine⟨_,(zc (s_if (zl (jl hr.units) (zw zL rfl T.n_len zK (za (n3 0) zb)) (n3 1) (nomark _)) (zd (jb hE z7 rfl rfl T.m_NoRow T.e_NoRow (za s3 zb))) zn)
    (zd (zI PassesOwn.leaving rfl (zM (n3 0)) (zg (i:=3) S.nd rfl (by walk_at "o")) (zd (s_if (Jp (zbg Z5 jG i3 (n3 3) (n3 2))) (zd (jb hE z7 rfl rfl T.m_NoRow T.e_NoRow (za s3 zb))) zn))))),fun ds Q h=>?_⟩
  obtain⟨row,T',n,rfl,q,hE'⟩:=h
  walk_at "rd"
  rw [List.length_map]
  by_cases h1:(row.length:Int)=T'
  case neg=>rw [if_pos h1];exact hE' fun z=>h1 (by rw [z.1])
  rw [if_neg (fun z=>z h1)]
  refine jk PyData.int row (fun done ρ=>∃ t,ρ = [some (.sh false (.list (row.map .int))),some (.sh true (.int T')),some (.sh true (.int n)),t]∧∀ x∈done,0≤x∧x<(n:Int)) ?_ ?_ ⟨none,rfl,fun x h=>by cases h⟩
  · rintro done x rest ρ hd ⟨t,rfl,hall⟩ W hW
    have hx:x∈row:=by rw [hd];simp
    walk_at "rd"
    by_cases h2:0≤x
    case neg=>rw [if_neg h2];exact hE' fun z=>h2 (z.2 x hx).1
    rw [if_pos h2]
    by_cases h3:x<(n:Int)
    case neg=>rw [if_pos h3];exact hE' fun z=>h3 (z.2 x hx).2
    rw [if_neg (fun z=>z h3)]
    exact hW _ ⟨_,rfl,fun y hy=>by
      rcases List.mem_append.mp hy with z|z
      · exact hall y z
      · rw [List.mem_singleton.mp z];exact⟨h2,h3⟩⟩
  · rintro ρ ⟨t,rfl,hall⟩
    exact q ⟨by omega,hall⟩
theorem zjH (T:Txt c K mg) : dd_check_row c P w K mg base:=by
  obtain⟨f,fd,F,hm⟩:=T.d_check_row;have hb:=F.binds (ps:=["row", "turns", "clans"]) fun _ _ _ _ _ _ us hl=>by obtain⟨_,_,_,rfl⟩:=ZZ hl;rfl
  refine⟨fun ds Q Q' E E' hQ hE h=>?_,⟨f,fd,zif T F,hb,F.kp,hm⟩⟩
  obtain⟨a,b,n,e,h1,h2⟩:=h;exact⟨a,b,n,e,fun z=>hQ _ _ (h1 z),fun z=>hE _ (h2 z)⟩
theorem zit:FnScope ["told", "row", "bottom", "by_turn", "had", "found", "clan", "latest"] ["told", "row"] (ze jA):=⟨rfl,rfl,rfl,by decide +kernel,rfl,by decide +kernel,by decide +kernel⟩
theorem zgU (T:Txt c K mg) (zjN:dd_check_row c P w K mg base) {f:Addr} {fd:FuncData} (F:Fun K "leads" "leads" jA f fd):FnOk P w K mg base (CXR P w) 2 f fd ["told", "row"] (spL K (Zq c)):=by
  have S:=zit;refine fn3 F S (fun ds Q E h=>?_) (fun cdv A outer s H E E3 hE hr=>?_)
  · obtain⟨_,_,_,_,rfl,_⟩:=h;rfl
  refine⟨_,(zc (zf (i:=2) S.nd rfl (by walk_at "o") (at3 (n3 0) i3 (fun _ _=>rfl)))
    (zc (zf (i:=3) S.nd rfl (by walk_at "o") (at3 (n3 0) i3 (fun _ _=>rfl)))
    (zc (zax (df3 hE zjN (hr.mono (by decide)) rfl zi (za (n3 1) (za (op3 jx (zw zL rfl T.n_len zK (za (n3 3) zb)) i3) (za (zw zL rfl T.n_len zK (za (at3 (n3 3) i3 (fun _ _=>rfl)) zb)) zb)))))
    (zc (zdP (i:=4) S.nd rfl (by walk_at "o") ["quota"] [] [] rfl (z4 (osc:=ze jA) (by decide +kernel)) rfl (zM (at3 (n3 3) i3 (fun _ _=>rfl))) (fun H0 s H fp cl=>⟨(zg (i:=0) (show((["quota"]:List PySem.Str)++([]:List PySem.Str)).Nodup by decide) rfl (by walk_at "o")),zY,i3⟩))
    (zc (je (i:=5) S.nd rfl (by walk_at "o") (zp zb))
    (zc (zI PassesOwn.leaving rfl (zas rfl T.n_zip (za (n3 1) (za (new3 (zO (n3 3) (zQ i3) zP)) zb))) (z3 (n:=2) rfl (zA (zg (i:=6) S.nd rfl (by walk_at "o")) (zA (zg (i:=7) S.nd rfl (by walk_at "o")) z0))) (zc (zir (i:=4) rfl (by walk_at "o") (n3 6) (n3 2))
      (zd (jj (i:=5) rfl (by walk_at "o") (new3 (zgm [4] (jd ["own", "quota"] [] [] rfl (z4 (osc:=ze jA) (by decide +kernel)) rfl (zas rfl T.n_zip (za (n3 4) (za (n3 7) zb))) (fun H0 s H fp cl=>⟨(z3 (n:=2) rfl (zA (zg (i:=0) (show((["own", "quota"]:List PySem.Str)++([]:List PySem.Str)).Nodup by decide) rfl (by walk_at "o")) (zA (zg (i:=1) (show((["own", "quota"]:List PySem.Str)++([]:List PySem.Str)).Nodup by decide) rfl (by walk_at "o")) z0))),zY,(op3 jx (n3 0) (n3 1))⟩))))))))
    (zd (ju [5] (zj (n3 5)))))))))),fun ds Q h=>?_⟩
  obtain⟨b,qs,row,n,rfl,h1,h8,hq1,hq61,hqn,q',hE'⟩:=h;cases qs with
  | nil=>simp at hq1
  | cons q0 qr=>
  have h0:q0.length=n:=hqn q0 List.mem_cons_self
  walk_at "rd atI0 atI1 List.length_map"
  refine⟨row,rfl,qr.length,by omega,n,by rw [h0],fun hok=>?_,fun hno=>hE' (by simpa using hno)⟩
  have hok':zT n ((q0::qr).length - 1) row:=by simpa using hok
  refine⟨sz (by omega),?_⟩
  refine zZ PyData.int (fun _=>PyData.int 0) (fun ρ=>∃ t,ρ = [t]) q0 ?_ _ _ _ _ ⟨none,rfl⟩ ?_
  · rintro w hw ρ fa acc K ⟨t,rfl⟩ k
    walk_at "rd"
    exact k _ ⟨_,rfl⟩
  have hz0:[]++List.map (fun _=>PyData.int 0) q0=(hadN b n []).map PyData.int:=by
    unfold hadN;rw [List.nil_append,List.foldl_nil,List.map_replicate,List.map_const',h0]
  rw [hz0];have hcut:cut (PyData.list (List.map PyData.int q0)::List.map dI qr) (some 1) none=qr.map dI:=by
    rw [JO _ (by decide) (by rw [List.length_cons];omega)];rfl
  rw [hcut,ZA];have hf:row.length=qr.length:=hok.1;have e1:(row.zip qr).map Prod.fst=row:=List.map_fst_zip (by omega)
  have e2:(row.zip qr).map Prod.snd=qr:=List.map_snd_zip (by omega)
  refine jk (fun p:Int×List Int=>PyData.tuple [PyData.int p.1,dI p.2]) (row.zip qr) (fun done ρ=>∃ t u,ρ = [some (.sh false (.tuple [.int b,.list (.list (q0.map .int)::qr.map dI)])),some (.sh false (.list (row.map .int))),some (.sh true (.int b)),some (.sh false (.list (.list (q0.map .int)::qr.map dI))),some (.ow true ((hadN b n (done.map Prod.fst)).map PyData.int)),some (.ow true ((z5 b n (q0::qr) row done.length).map dI)),t,u]) ?_ ?_ ⟨none,none,rfl⟩
  · rintro done x rest ρ hd ⟨t,u,rfl⟩ W hW
    obtain⟨cl,r⟩:=x;rw [hd,List.map_append,List.map_cons] at e1 e2;have hc:cl∈row:=by rw [←e1];simp
    have hr:r∈qr:=by rw [←e2];simp
    have hcn:=hok.2 cl hc;have hrl:=hqn r (List.mem_cons_of_mem _ hr);have hlenH:=zcS b n (done.map Prod.fst);have hdl:done.length<qr.length:=by rw [←e2];simp
    have htk:row.take (done.length+1)=done.map Prod.fst++[cl]:=by
      rw [←e1,show done.map Prod.fst++cl::rest.map Prod.fst=(done.map Prod.fst++[cl])++rest.map Prod.fst by simp]
      exact List.take_left' (by simp)
    have hqd:(q0::qr).getD (done.length+1) []=r:=by
      rw [←e2,List.getD_eq_getElem?_getD,List.getElem?_cons_succ,List.getElem?_append_right (by simp)]
      simp
    have hget:(List.map PyData.int (hadN b n (done.map Prod.fst)))[cl.toNat]?=some (PyData.int ((hadN b n (done.map Prod.fst)).getD cl.toNat 0)):=by
      rw [List.getElem?_map,List.getD_eq_getElem?_getD,List.getElem?_eq_getElem (by omega)];rfl
    have hlead:z5 b n (q0::qr) row (done.length+1)=z5 b n (q0::qr) row done.length++[subL (had1 b (hadN b n (done.map Prod.fst)) cl) r]:=by
      rw [zf1];unfold zap;rw [htk,zcT,hqd]
    walk_at "rd hget"
    have hset:(List.map PyData.int (hadN b n (done.map Prod.fst))).set cl.toNat (PyData.int ((hadN b n (done.map Prod.fst)).getD cl.toNat 0+b))=(had1 b (hadN b n (done.map Prod.fst)) cl).map PyData.int:=by unfold had1;rw [List.map_set]
    rw [hset,ZA];refine⟨hcn.1,sz (by rw [List.length_map,List.length_zip];omega),?_⟩
    refine zZ (fun p:Int×Int=>PyData.tuple [PyData.int p.1,PyData.int p.2]) (fun p=>PyData.int (p.1 - p.2)) (fun ρ=>∃ t u,ρ = [t,u]) _ ?_ _ _ _ _ ⟨none,none,rfl⟩ ?_
    · rintro x hx ρ fa acc K ⟨t,u,rfl⟩ k
      walk_at "rd"
      exact k _ ⟨_,_,rfl⟩
    · refine⟨?_,Nat.lt_of_lt_of_le (show _<1000 by rw [List.length_map];unfold z5;rw [List.length_map,List.length_range];rw [List.length_cons] at hq61;omega) (by decide),hW _ ⟨?w1,?w2,?h⟩⟩
      · rw [List.nil_append,List.all_eq_true];intro d hd;obtain⟨p,_,rfl⟩:=List.mem_map.mp hd;rfl
      case h=>
        rw [List.map_append,List.map_cons,List.map_nil,zcT,List.length_append,List.length_singleton,hlead,List.map_append];simp only [subL,dI,List.map_cons,List.map_nil,List.map_map,List.nil_append]
        rfl
  · rintro ρ ⟨t,u,rfl⟩
    walk_at "rd"
    have hl:(row.zip qr).length=row.length:=by rw [List.length_zip];omega
    rw [hl];exact q' hok'
theorem zgu (T:Txt c K mg) (zjN:dd_check_row c P w K mg base):dd_leads c P w K mg base:=by
  obtain⟨f,fd,F,hm⟩:=T.d_leads;have hb:=F.binds (ps:=["told", "row"]) fun _ _ _ _ _ _ us hl=>by obtain⟨_,_,rfl⟩:=zR hl;rfl
  refine⟨fun ds Q Q' E E' hQ hE h=>?_,⟨f,fd,zgU T zjN F,hb,F.kp,hm⟩⟩
  obtain⟨a,b,d,n,e,x1,x2,x3,x4,x5,h1,h2⟩:=h;exact⟨a,b,d,n,e,x1,x2,x3,x4,x5,fun z=>hQ _ _ (h1 z),fun z=>hE _ (h2 z)⟩
theorem ziH:FnScope ["value"] ["value"] (ze JB):=⟨rfl,rfl,rfl,by decide +kernel,rfl,by decide +kernel,by decide +kernel⟩
theorem zgy (T:Txt c K mg) {f:Addr} {fd:FuncData} (F:Fun K "is_whole" "is_whole" JB f fd):FnOk P w K mg base (CXR P w) 1 f fd ["value"] (spL K Jn):=by
  have S:=ziH;refine fn3 F S (fun ds Q E h=>?_) (fun cdv A outer s H E E3 hE hr=>?_)
  · obtain⟨_,rfl,_⟩:=h;rfl
  refine⟨_,(zd (zj (zdB (zcM rfl T.n_isinstance rfl rfl T.n_int zjr (n3 0)) (one3 (zeP (zcM rfl T.n_isinstance rfl rfl T.n_bool zdL (n3 0))))))),fun ds Q h=>?_⟩
  obtain⟨a,rfl,q⟩:=h
  walk_at "rd"
  exact⟨false,if_neg (by decide),q⟩
theorem zjm (T:Txt c K mg) : dd_is_whole P w K mg base:=by
  obtain⟨f,fd,F,hm⟩:=T.d_is_whole;have hb:=F.binds (ps:=["value"]) fun _ _ _ _ _ _ us hl=>by obtain⟨_,rfl⟩:=jT hl;rfl
  refine⟨fun ds Q Q' E E' hQ hE h=>?_,⟨f,fd,zgy T F,hb,F.kp,hm⟩⟩
  first|(obtain⟨a0,e,h⟩:=h;exact⟨a0,e,hQ _ h⟩)|(unfold Jn at *;grind)
theorem zew:FnScope ["top", "bottom", "divisor"] ["top", "bottom"] (ze j4):=⟨rfl,rfl,rfl,by decide +kernel,rfl,by decide +kernel,by decide +kernel⟩
theorem zgY (T:Txt c K mg) (zjQ:dd_common_divisor P w K mg base) (zjU:dd_is_whole P w K mg base) {f:Addr} {fd:FuncData} (F:Fun K "ratio" "ratio" j4 f fd):FnOk P w K mg base (CXR P w) 2 f fd ["top", "bottom"] (spL K Zb):=by
  have S:=zew;refine fn3 F S (fun ds Q E h=>?_) (fun cdv A outer s H E E3 hE hr=>?_)
  · obtain⟨_,_,rfl,_⟩:=h;rfl
  refine⟨_,(zc (s_if (pw3 (JV (Jp (val3 (df3 hE zjU (hr.mono (by decide)) rfl zi (za (n3 0) zb)))) (Zg (Jp (val3 (df3 hE zjU (hr.mono (by decide)) rfl zi (za (n3 1) zb))))))) (zd (jb hE z7 rfl rfl T.m_NoRatio T.e_NoRatio (za s3 zb))) zn)
    (zc (s_if (zl (zJ hr.units) (n3 1) i3 (nomark _)) (zd (jb hE z7 rfl rfl T.m_NoRatio T.e_NoRatio (za s3 zb))) zn)
    (zc (zf (i:=2) S.nd rfl (by walk_at "o") (df3 hE zjQ (hr.mono (by decide)) rfl zi (za (n3 0) (za (n3 1) zb))))
    (zc (s_if (zl jG (n3 1) i3 (nomark _)) (zd (zf (i:=2) S.nd rfl (by walk_at "o") (un3 jm (n3 2)))) zn)
    (zd (zj (zF (za (op3 zr (n3 0) (n3 2)) (za (op3 zr (n3 1) (n3 2)) zb))))))))),fun ds Q h=>?_⟩
  obtain⟨a,b,rfl,hb,hB,q⟩:=h
  walk_at "rd"
  rw [if_neg (by omega),if_neg (by omega)]
  exact⟨zau hb hB,zau hb hB,q⟩
theorem zeU (T:Txt c K mg) (zjQ:dd_common_divisor P w K mg base) (zjU:dd_is_whole P w K mg base):dd_ratio P w K mg base:=by
  obtain⟨f,fd,F,hm⟩:=T.d_ratio;have hb:=F.binds (ps:=["top", "bottom"]) fun _ _ _ _ _ _ us hl=>by obtain⟨_,_,rfl⟩:=zR hl;rfl
  refine⟨fun ds Q Q' E E' hQ hE h=>?_,⟨f,fd,zgY T zjQ zjU F,hb,F.kp,hm⟩⟩
  obtain⟨a,b,e,z,y,h⟩:=h;exact⟨a,b,e,z,y,hQ _ _ h⟩
theorem zdf:FnScope ["spells", "row", "told", "farthest", "latest"] ["spells", "row"] (ze JF):=⟨rfl,rfl,rfl,by decide +kernel,rfl,by decide +kernel,by decide +kernel⟩
theorem zdK (T:Txt c K mg) (zkb:dd_quotas c P w K mg base) (zj8:dd_leads c P w K mg base) (zkc:dd_ratio P w K mg base) {f:Addr} {fd:FuncData} (F:Fun K "distance" "distance" JF f fd):FnOk P w K mg base (CXR P w) 5 f fd ["spells", "row"] (spL K (JR c)):=by
  have S:=zdf;refine fn3 F S (fun ds Q E h=>?_) (fun cdv A outer s H E E3 hE hr=>?_)
  · obtain⟨_,_,rfl,_⟩:=h;rfl
  refine⟨_,(zc (zf (i:=2) S.nd rfl (by walk_at "o") (df3 hE zkb (hr.mono (by decide)) rfl zi (za (n3 0) zb)))
    (zc (zf (i:=3) S.nd rfl (by walk_at "o") i3)
    (zc (zI PassesOwn.leaving rfl (zM (df3 hE zj8 (hr.mono (by decide)) rfl zi (za (n3 2) (za (n3 1) zb)))) (zg (i:=4) S.nd rfl (by walk_at "o")) (zd (zf (i:=3) S.nd rfl (by walk_at "o") (zw (zdO rfl) rfl T.n_max zbt (za (n3 3) (za (zw (zcm rfl) rfl T.n_max zbt (za (n3 4) zb)) (za (un3 jm (zw (ziL rfl) rfl T.n_min zdU (za (n3 4) zb))) zb)))))))
    (zd (zj (df3 hE zkc (hr.mono (by decide)) rfl zi (za (n3 3) (za (at3 (n3 2) i3 (fun _ _=>rfl)) zb)))))))),fun ds Q h=>?_⟩
  obtain⟨l,row,rfl,q,hE1,hE2⟩:=h
  walk_at "rd"
  refine⟨l,rfl,fun hok=>?_,hE1⟩
  have hql:=zad hok;have hm:=JI hok;have htn:=jC fun s hs=>(hok.2.1 s hs).1
  have h60:=hok.2.2;have hqe:(quo l).length - 1=(tot l).toNat:=by omega
  refine⟨quo l,rfl,row,rfl,many l,hm.1,hm.2,by omega,by omega,fun r hr=>Za hok (b:=bot l) hr,fun hrow=>?_,fun hno=>hE2 hok (by rw [←hqe];exact hno)⟩
  have hrow':zT (many l) (tot l).toNat row:=by rw [←hqe];exact hrow
  have hrl:row.length=(tot l).toNat:=hrow'.1;refine jk dI (z5 (bot l) (many l) (quo l) row row.length) (fun done ρ=>∃ x t,ρ = [some (.sh false (.list (l.map dS))),some (.sh false (.list (row.map .int))),some (.sh true (.tuple [.int (bot l),.list ((quo l).map dI)])),some (.sh true (.int x)),t]∧Far done.flatten x) ?_ ?_ ⟨0,none,rfl,Far.nil⟩
  · rintro done r rest ρ hd ⟨x,t,rfl,hfar⟩ W hW
    have hr:r≠[]:=by
      have:r∈z5 (bot l) (many l) (quo l) row row.length:=by rw [hd];simp
      unfold z5 at this;obtain⟨i,hi,rfl⟩:=List.mem_map.mp this;have hi':=List.mem_range.mp hi;have:(quo l).getD (i+1) []∈quo l:=by
        rw [List.getD_eq_getElem?_getD,List.getElem?_eq_getElem (by omega)];exact List.getElem_mem _
      have h2:=Za hok (b:=bot l) this;intro z;have h3:=congrArg List.length z;unfold zap subL at h3;rw [List.length_map,List.length_zip,zcS,h2] at h3
      simp at h3;omega
    walk_at "rd"
    refine⟨r,jh r,hr,r,jh r,hr,hW _ ⟨_,_,rfl,?_⟩⟩
    rw [List.flatten_append,show [r].flatten=r by simp]
    have a1:=zaX hr;have a2:=zen hr;refine hfar.app (by split<;>split<;>omega) (fun y hy=>?_) ?_
    · have b1:=zd2 hy
      have b2:=zdQ hy
      split<;>split<;>omega
    · split<;>split
      · exact .inr (.inr (by rw [Int.neg_neg];exact a2))
      · exact .inr (.inl a1)
      · exact .inr (.inr (by rw [Int.neg_neg];exact a2))
      · exact .inl rfl
  · rintro ρ ⟨x,t,rfl,hfar⟩
    walk_at "rd atI0"
    exact⟨zaR hok,(ZN hok).mono (by decide),q hok hrow' x hfar⟩
theorem ziP (T:Txt c K mg) (zkb:dd_quotas c P w K mg base) (zj8:dd_leads c P w K mg base) (zkc:dd_ratio P w K mg base):dd_distance c P w K mg base:=by
  obtain⟨f,fd,F,hm⟩:=T.d_distance;have hb:=F.binds (ps:=["spells", "row"]) fun _ _ _ _ _ _ us hl=>by obtain⟨_,_,rfl⟩:=zR hl;rfl
  refine⟨fun ds Q Q' E E' hQ hE h=>?_,⟨f,fd,zdK T zkb zj8 zkc F,hb,F.kp,hm⟩⟩
  obtain⟨a,b,e,h1,h2,h3⟩:=h;exact⟨a,b,e,fun x y z w=>hQ _ _ (h1 x y z w),fun z=>hE _ (h2 z),fun x y=>hE _ (h3 x y)⟩
theorem zd1:FnScope ["one", "other"] ["one", "other"] (ze Jt):=⟨rfl,rfl,rfl,by decide +kernel,rfl,by decide +kernel,by decide +kernel⟩
theorem zhW (T:Txt c K mg) {f:Addr} {fd:FuncData} (F:Fun K "less" "less" Jt f fd):FnOk P w K mg base (CXR P w) 1 f fd ["one", "other"] (spL K Zt):=by
  have S:=zd1;refine fn3 F S (fun ds Q E h=>?_) (fun cdv A outer s H E E3 hE hr=>?_)
  · obtain⟨_,_,rfl,_⟩:=h;rfl
  refine⟨_,(zd (zj (cmp3 jG (op3 zU (at3 (n3 0) i3 (fun _ _=>rfl)) (at3 (n3 1) i3 (fun _ _=>rfl))) (op3 zU (at3 (n3 1) i3 (fun _ _=>rfl)) (at3 (n3 0) i3 (fun _ _=>rfl))) (nomark _)))),fun ds Q h=>?_⟩
  obtain⟨a,b,rfl,ha,hb,q⟩:=h
  walk_at "rd atI0 atI1"
  exact⟨ha.2.1.mulOk hb.2.2 (by decide),hb.2.1.mulOk ha.2.2 (by decide),q⟩
theorem zga (T:Txt c K mg) : dd_less P w K mg base:=by
  obtain⟨f,fd,F,hm⟩:=T.d_less;have hb:=F.binds (ps:=["one", "other"]) fun _ _ _ _ _ _ us hl=>by obtain⟨_,_,rfl⟩:=zR hl;rfl
  refine⟨fun ds Q Q' E E' hQ hE h=>?_,⟨f,fd,zhW T F,hb,F.kp,hm⟩⟩
  obtain⟨a,b,e,x,y,h⟩:=h;exact⟨a,b,e,x,y,hQ _ _ h⟩
theorem zhh:FnScope ["bounds", "clans", "below", "above", "bound"] ["bounds", "clans"] (ze Jl):=⟨rfl,rfl,rfl,by decide +kernel,rfl,by decide +kernel,by decide +kernel⟩
theorem zeu (T:Txt c K mg) (zka:dd_less P w K mg base) {f:Addr} {fd:FuncData} (F:Fun K "check_bounds" "check_bounds" Jl f fd):FnOk P w K mg base (CXR P w) 2 f fd ["bounds", "clans"] (spL K (JZ c)):=by
  have S:=zhh;refine fn3 F S (fun ds Q E h=>?_) (fun cdv A outer s H E E3 hE hr=>?_)
  · obtain⟨_,_,rfl,_⟩:=h;rfl
  refine⟨_,(zc (s_if (zl (jl hr.units) (zw zL rfl T.n_len zK (za (n3 0) zb)) (n3 1) (nomark _)) (zd (jb hE z7 rfl rfl T.m_NoBounds T.e_NoBounds (za s3 zb))) zn)
    (zd (zI PassesOwn.leaving rfl (zM (n3 0)) (z3 (n:=2) rfl (zA (zg (i:=2) S.nd rfl (by walk_at "o")) (zA (zg (i:=3) S.nd rfl (by walk_at "o")) z0))) (zd (zI PassesOwn.leaving rfl (zjx (zF (za (n3 2) (za (n3 3) zb)))) (zg (i:=4) S.nd rfl (by walk_at "o")) (zd (s_if (pw3 (JV (val3 (df3 hE zka (hr.mono (by decide)) rfl zi (za (n3 4) (za (g3t rfl T.m_LEAST_BOUND) zb)))) (Zg (val3 (df3 hE zka (hr.mono (by decide)) rfl zi (za (g3t rfl T.m_MOST_BOUND) (za (n3 4) zb))))))) (zd (jb hE z7 rfl rfl T.m_NoBounds T.e_NoBounds (za s3 zb))) zn))))))),fun ds Q h=>?_⟩
  obtain⟨l,n,rfl,hq,q,hE'⟩:=h
  walk_at "rd"
  rw [List.length_map]
  by_cases h1:(l.length:Int)=n
  case neg=>rw [if_pos h1];exact hE' fun z=>h1 (by rw [z.1])
  rw [if_neg (fun z=>z h1)]
  refine jk dP l (fun done ρ=>∃ t u v,ρ = [some (.sh false (.list (l.map dP))),some (.sh true (.int n)),t,u,v]∧∀ p∈done,inQ p.1∧inQ p.2) ?_ ?_ ⟨none,none,none,rfl,fun x h=>by cases h⟩
  · rintro done x rest ρ hd ⟨t,u,v,rfl,hall⟩ W hW
    have hx:x∈l:=by rw [hd];simp
    obtain⟨hx1,hx2⟩:=hq x hx
    walk_at "rd"
    refine jk dQ [x.1,x.2] (fun done' ρ=>∃ v,ρ = [some (.sh false (.list (l.map dP))),some (.sh true (.int n)),some (.sh false (dQ x.1)),some (.sh false (dQ x.2)),v]∧∀ r∈done',inQ r) ?_ ?_ ⟨_,rfl,fun x h=>by cases h⟩
    · rintro done' r rest' ρ hd' ⟨v,rfl,hall'⟩ W' hW'
      have hr:okQ r:=by
        have:r∈[x.1,x.2]:=by rw [hd'];simp
        rcases List.mem_cons.mp this with z|z
        · rw [z];exact hx1
        · rw [List.mem_singleton.mp z];exact hx2
      have hrb:inQ r∨¬okB n l:=by
        by_cases z:inQ r
        · exact .inl z
        · right
          intro y;have:r∈[x.1,x.2]:=by rw [hd'];simp
          rcases List.mem_cons.mp this with w|w
          · rw [w] at z;exact z (y.2 x hx).1
          · rw [List.mem_singleton.mp w] at z;exact z (y.2 x hx).2
      have o01:okQ (0,1):=⟨by decide,Bits.lit (x:=0) 1200,Bits.lit (x:=1) 1200⟩
      have o10:okQ (10,1):=⟨by decide,Bits.lit (x:=10) 1200,Bits.lit (x:=1) 1200⟩
      walk_at "rd"
      refine⟨r,rfl,rfl,(0,1),rfl,rfl,hr,o01,ite2 (fun h=>hE' (hrb.elim (fun z=>absurd h (by have:=z.1;show ¬r.1*1<0*r.2;omega)) id)) fun h=>⟨(10,1),rfl,rfl,r,rfl,rfl,o10,hr,ite2 (fun h2=>hE' (hrb.elim (fun z=>absurd h2 (by have:=z.2;show ¬10*r.2<r.1*1;omega)) id)) fun h2=>hW' _ ⟨_,rfl,fun y hy=>?_⟩⟩⟩
      rcases List.mem_append.mp hy with z|z
      · exact hall' y z
      · rw [List.mem_singleton.mp z]
        have e1:¬r.1*1<0*r.2:=h;have e2:¬10*r.2<r.1*1:=h2;exact⟨by omega,by omega⟩
    · rintro ρ ⟨v,rfl,hall'⟩
      exact hW _ ⟨_,_,_,rfl,fun p hp=>by
        rcases List.mem_append.mp hp with z|z
        · exact hall p z
        · rw [List.mem_singleton.mp z];exact⟨hall' _ (by simp),hall' _ (by simp)⟩⟩
  · rintro ρ ⟨t,u,v,rfl,hall⟩
    exact q ⟨by omega,hall⟩
theorem zhp (T:Txt c K mg) (zka:dd_less P w K mg base):dd_check_bounds c P w K mg base:=by
  obtain⟨f,fd,F,hm⟩:=T.d_check_bounds;have hb:=F.binds (ps:=["bounds", "clans"]) fun _ _ _ _ _ _ us hl=>by obtain⟨_,_,rfl⟩:=zR hl;rfl
  refine⟨fun ds Q Q' E E' hQ hE h=>?_,⟨f,fd,zeu T zka F,hb,F.kp,hm⟩⟩
  obtain⟨a,b,e,x,h1,h2⟩:=h;exact⟨a,b,e,x,fun z=>hQ _ _ (h1 z),fun z=>hE _ (h2 z)⟩
theorem zep:FnScope ["bottom", "bound"] ["bottom", "bound"] (ze Ja):=⟨rfl,rfl,rfl,by decide +kernel,rfl,by decide +kernel,by decide +kernel⟩
theorem zhm (T:Txt c K mg) {f:Addr} {fd:FuncData} (F:Fun K "room_at_most" "room_at_most" Ja f fd):FnOk P w K mg base (CXR P w) 1 f fd ["bottom", "bound"] (spL K J3):=by
  have S:=zep;refine fn3 F S (fun ds Q E h=>?_) (fun cdv A outer s H E E3 hE hr=>?_)
  · obtain⟨_,_,rfl,_⟩:=h;rfl
  refine⟨_,(zd (zj (op3 zr (op3 zU (at3 (n3 1) i3 (fun _ _=>rfl)) (n3 0)) (at3 (n3 1) i3 (fun _ _=>rfl))))),fun ds Q h=>?_⟩
  obtain⟨b,r,rfl,hb,hr,q⟩:=h
  walk_at "rd atI0 atI1"
  exact⟨hr.2.1.mulOk hb (by decide),⟨hr.1,hr.2.2.mono (by decide)⟩,q⟩
theorem zeb (T:Txt c K mg) : dd_room_at_most P w K mg base:=by
  obtain⟨f,fd,F,hm⟩:=T.d_room_at_most;have hb:=F.binds (ps:=["bottom", "bound"]) fun _ _ _ _ _ _ us hl=>by obtain⟨_,_,rfl⟩:=zR hl;rfl
  refine⟨fun ds Q Q' E E' hQ hE h=>?_,⟨f,fd,zhm T F,hb,F.kp,hm⟩⟩
  obtain⟨a,b,e,x,y,h⟩:=h;exact⟨a,b,e,x,y,hQ _ _ h⟩
theorem zfy:FnScope ["told", "bounds", "bottom"] ["told", "bounds"] (ze jW):=⟨rfl,rfl,rfl,by decide +kernel,rfl,by decide +kernel,by decide +kernel⟩
theorem zeq (T:Txt c K mg) (zjM:dd_check_bounds c P w K mg base) (zkd:dd_room_at_most P w K mg base) {f:Addr} {fd:FuncData} (F:Fun K "rooms_of" "rooms_of" jW f fd):FnOk P w K mg base (CXR P w) 3 f fd ["told", "bounds"] (spL K (JU c)):=by
  have S:=zfy;refine fn3 F S (fun ds Q E h=>?_) (fun cdv A outer s H E E3 hE hr=>?_)
  · obtain⟨_,_,_,_,rfl,_⟩:=h;rfl
  refine⟨_,(zc (zf (i:=2) S.nd rfl (by walk_at "o") (at3 (n3 0) i3 (fun _ _=>rfl)))
    (zc (zax (df3 hE zjM (hr.mono (by decide)) rfl zi (za (n3 1) (za (zw zL rfl T.n_len zK (za (at3 (at3 (n3 0) i3 (fun _ _=>rfl)) i3 (fun _ _=>rfl)) zb)) zb))))
    (zd (zj (new3 (jd ["below", "above"] ["bottom"] [2] rfl (z4 (osc:=ze jW) (by decide +kernel)) rfl (zM (n3 1)) (fun H0 s H fp cl=>⟨(z3 (n:=2) rfl (zA (zg (i:=0) (show((["below", "above"]:List PySem.Str)++(["bottom"]:List PySem.Str)).Nodup by decide) rfl (by walk_at "o")) (zA (zg (i:=1) (show((["below", "above"]:List PySem.Str)++(["bottom"]:List PySem.Str)).Nodup by decide) rfl (by walk_at "o")) z0))),zY,(zF (za (df3 (E:=fun _ _ _=>False) (E3:=fun _=>False) (fun _ _ z _=>z) zkd (hr.mono (by decide)) rfl zbU (za (n3 2) (za (n3 0) zb))) (za (df3 (E:=fun _ _ _=>False) (E3:=fun _=>False) (fun _ _ z _=>z) zkd (hr.mono (by decide)) rfl zbU (za (n3 2) (za (n3 1) zb))) zb)))⟩))))))),fun ds Q h=>?_⟩
  obtain⟨b,qs,l,n,rfl,hb,hq1,hqn,hn8,hl,hq,q,hE'⟩:=h;have hd0:atI (qs.map dI) 0=some (PyData.list (qs[0].map PyData.int)):=Zv (i:=0) (by omega)
  have h0n:=hqn qs[0] (List.getElem_mem (by omega))
  walk_at "rd atI0 atI1 hd0 List.length_map h0n"
  refine⟨l,rfl,n,rfl,hq,fun hok=>⟨sz (by omega),?_⟩,hE'⟩
  refine zZ dP (fun p=>dRoom (ZW b p.1,ZW b p.2)) (fun ρ=>∃ t u,ρ = [t,u,some (.sh true (.int b))]) l ?_ _ _ _ _ ⟨none,none,rfl⟩ ?_
  · rintro p hp ρ fa acc K ⟨t,u,rfl⟩ kk
    obtain⟨hp1,hp2⟩:=hq p hp
    walk_at "rd"
    exact⟨p.1,rfl,rfl,hb,hp1,p.2,rfl,rfl,hb,hp2,kk _ ⟨_,_,rfl⟩⟩
  · have:=q hok
    unfold z6 at this;rw [List.map_map] at this;exact this
theorem zd3 (T:Txt c K mg) (zjM:dd_check_bounds c P w K mg base) (zkd:dd_room_at_most P w K mg base):dd_rooms_of c P w K mg base:=by
  obtain⟨f,fd,F,hm⟩:=T.d_rooms_of;have hb:=F.binds (ps:=["told", "bounds"]) fun _ _ _ _ _ _ us hl=>by obtain⟨_,_,rfl⟩:=zR hl;rfl
  refine⟨fun ds Q Q' E E' hQ hE h=>?_,⟨f,fd,zeq T zjM zkd F,hb,F.kp,hm⟩⟩
  obtain⟨a,b,d,n,e,x1,x2,x3,x4,x5,x6,h1,h2⟩:=h;exact⟨a,b,d,n,e,x1,x2,x3,x4,x5,x6,fun z=>hQ _ _ (h1 z),fun z=>hE _ (h2 z)⟩
theorem ziA:FnScope ["spells", "bounds", "row", "told", "rooms", "latest", "lead", "room"] ["spells", "bounds", "row"] (ze Jx):=⟨rfl,rfl,rfl,by decide +kernel,rfl,by decide +kernel,by decide +kernel⟩
theorem zdI (T:Txt c K mg) (zkb:dd_quotas c P w K mg base) (zkf:dd_rooms_of c P w K mg base) (zj8:dd_leads c P w K mg base) {f:Addr} {fd:FuncData} (F:Fun K "keeps" "keeps" Jx f fd):FnOk P w K mg base (CXR P w) 5 f fd ["spells", "bounds", "row"] (spL K (JS c)):=by
  have S:=ziA;refine fn3 F S (fun ds Q E h=>?_) (fun cdv A outer s H E E3 hE hr=>?_)
  · obtain⟨_,_,_,rfl,_⟩:=h;rfl
  refine⟨_,(zc (zf (i:=3) S.nd rfl (by walk_at "o") (df3 hE zkb (hr.mono (by decide)) rfl zi (za (n3 0) zb)))
    (zc (zf (i:=4) S.nd rfl (by walk_at "o") (df3 hE zkf (hr.mono (by decide)) rfl zi (za (n3 3) (za (n3 1) zb))))
    (zc (zI PassesOwn.leaving rfl (zM (df3 hE zj8 (hr.mono (by decide)) rfl zi (za (n3 3) (za (n3 2) zb)))) (zg (i:=5) S.nd rfl (by walk_at "o")) (zd (zI PassesOwn.leaving rfl (zas rfl T.n_zip (za (n3 5) (za (n3 4) zb))) (z3 (n:=2) rfl (zA (zg (i:=6) S.nd rfl (by walk_at "o")) (zA (zg (i:=7) S.nd rfl (by walk_at "o")) z0))) (zd (s_if (pw3 (JV (zl jG (n3 6) (un3 jm (at3 (n3 7) i3 (fun _ _=>rfl))) (nomark _)) (Zg (zl za0 (n3 6) (at3 (n3 7) i3 (fun _ _=>rfl)) (nomark _))))) (zd (zj b3)) zn)))))
    (zd (zj b3))))),fun ds Q h=>?_⟩
  obtain⟨l,bs,row,rfl,hbl,hbq,q,hE1,hE2,hE3⟩:=h;refine zk fun N hN=>?_
  walk_at "rd"
  refine⟨l,rfl,fun hok=>hN _ ?_,hE1⟩
  clear hN N;have hql:=zad hok;have hm:=JI hok;have htn:=jC fun s hs=>(hok.2.1 s hs).1
  have h60:=hok.2.2;have hqe:(quo l).length - 1=(tot l).toNat:=by omega
  have hqr:∀ r∈quo l,r.length=many l:=fun r hr=>Za hok (b:=bot l) hr
  refine zk fun N hN=>?_
  walk_at "rd"
  refine⟨quo l,rfl,bs,rfl,(ZN hok).mono (by decide),by omega,many l,hqr,hm.2,hbl,hbq,fun hB=>hN _ ?_,fun z=>hE2 hok z⟩
  clear hN N
  walk_at "rd"
  refine⟨quo l,rfl,row,rfl,many l,hm.1,hm.2,by omega,by omega,hqr,fun hrow=>?_,fun hno=>hE3 hok hB (by rw [←hqe];exact hno)⟩
  have hrow':zT (many l) (tot l).toNat row:=by rw [←hqe];exact hrow
  refine jk dI (z5 (bot l) (many l) (quo l) row row.length) (fun done ρ=>∃ t5 t6 t7,ρ = [some (.sh false (.list (l.map dS))),some (.sh false (.list (bs.map dP))),some (.sh false (.list (row.map .int))),some (.sh true (.tuple [.int (bot l),.list ((quo l).map dI)])),some (.sh true (.list ((z6 (bot l) bs).map dRoom))),t5,t6,t7]∧Jg done (z6 (bot l) bs)) ?_ ?_ ⟨none,none,none,rfl,fun ld h=>by cases h⟩
  · rintro done ld rest ρ hd ⟨t5,t6,t7,rfl,hkeep⟩ W hW
    have hmem:ld∈z5 (bot l) (many l) (quo l) row row.length:=by rw [hd];simp
    walk_at "rd"
    rw [ZA];refine jk (fun p:Int×(Int×Int)=>PyData.tuple [PyData.int p.1,dRoom p.2]) (ld.zip (z6 (bot l) bs)) (fun done' ρ=>∃ t6 t7,ρ = [some (.sh false (.list (l.map dS))),some (.sh false (.list (bs.map dP))),some (.sh false (.list (row.map .int))),some (.sh true (.tuple [.int (bot l),.list ((quo l).map dI)])),some (.sh true (.list ((z6 (bot l) bs).map dRoom))),some (.sh true (.list (ld.map .int))),t6,t7]∧∀ x∈done',-x.2.1≤x.1∧x.1≤x.2.2) ?_ ?_ ⟨_,_,rfl,fun x h=>by cases h⟩
    · rintro done' ⟨x,p⟩ rest' ρ hd' ⟨t6,t7,rfl,hall⟩ W' hW'
      have hno:¬(-p.1≤x∧x≤p.2)→¬Jg (z5 (bot l) (many l) (quo l) row row.length) (z6 (bot l) bs):=fun h z=>by
        have hz:(x,p)∈ld.zip (z6 (bot l) bs):=by rw [hd'];simp
        obtain⟨i,hi,e⟩:=List.getElem_of_mem hz;have e2:(ld.zip (z6 (bot l) bs))[i]?=some (x,p):=by rw [←e];exact List.getElem?_eq_getElem hi
        obtain⟨e3,e4⟩:=List.getElem?_zip_eq_some.mp e2;exact h (z ld hmem i x p e3 e4)
      walk_at "rd atI0 atI1"
      refine ite2 (fun h=>q hok hB hrow' false ⟨(fun z=>by cases z),fun z=>absurd z (hno (by omega))⟩) fun h=>ite2 (fun h2=>q hok hB hrow' false ⟨(fun z=>by cases z),fun z=>absurd z (hno (by omega))⟩) fun h2=>hW' _ ⟨_,_,rfl,fun y hy=>?_⟩
      rcases List.mem_append.mp hy with z|z
      · exact hall y z
      · rw [List.mem_singleton.mp z];exact⟨by show -p.1≤x;omega,by show x≤p.2;omega⟩
    · rintro ρ ⟨t6,t7,rfl,hall⟩
      refine hW _ ⟨_,_,_,rfl,zhK.mpr ⟨hkeep,fun l' hl' i x p hx hp=>?_⟩⟩
      rw [List.mem_singleton.mp hl'] at hx;exact hall (x,p) (List.mem_of_getElem? (List.getElem?_zip_eq_some.mpr ⟨hx,hp⟩))
  · rintro ρ ⟨t5,t6,t7,rfl,hkeep⟩
    walk_at "rd"
    exact q hok hB hrow' true ⟨fun _=>hkeep,fun _=>rfl⟩
theorem zgA (T:Txt c K mg) (zkb:dd_quotas c P w K mg base) (zkf:dd_rooms_of c P w K mg base) (zj8:dd_leads c P w K mg base):dd_keeps c P w K mg base:=by
  obtain⟨f,fd,F,hm⟩:=T.d_keeps;have hb:=F.binds (ps:=["spells", "bounds", "row"]) fun _ _ _ _ _ _ us hl=>by obtain⟨_,_,_,rfl⟩:=ZZ hl;rfl
  refine⟨fun ds Q Q' E E' hQ hE h=>?_,⟨f,fd,zdI T zkb zkf zj8 F,hb,F.kp,hm⟩⟩
  obtain⟨a,b,d,e,x,y,h1,h2,h3,h4⟩:=h;exact⟨a,b,d,e,x,y,fun p q r s t=>hQ _ _ (h1 p q r s t),fun z=>hE _ (h2 z),fun p q=>hE _ (h3 p q),fun p q r=>hE _ (h4 p q r)⟩
theorem zhq:FnScope ["path", "wanted", "turn"] ["path", "wanted"] (ze Jk):=⟨rfl,rfl,rfl,by decide +kernel,rfl,by decide +kernel,by decide +kernel⟩
theorem zdd (T:Txt c K mg) {f:Addr} {fd:FuncData} (F:Fun K "first_turn" "first_turn" Jk f fd):FnOk P w K mg base (CXR P w) 1 f fd ["path", "wanted"] (spL K JK):=by
  have S:=zhq;refine fn3 F S (fun ds Q E h=>?_) (fun cdv A outer s H E E3 hE hr=>?_)
  · obtain⟨_,_,rfl,_⟩:=h;rfl
  refine⟨_,(zc (zI PassesOwn.leaving rfl (zbL rfl T.n_range (za i3 (za (zw zL rfl T.n_len zK (za (n3 0) zb)) zb))) (zg (i:=2) S.nd rfl (by walk_at "o")) (zd (s_if (zl zbI (at3 (n3 0) (n3 2) (fun _ _=>rfl)) (n3 1) (nomark _)) (zd (zj (n3 2))) zn)))
    (zd (zj (zw zL rfl T.n_len zK (za (n3 0) zb))))),fun ds Q h=>?_⟩
  obtain⟨path,x,rfl,h61,h1,q⟩:=h
  walk_at "rd"
  rw [List.length_map];refine⟨by decide,by decide,by omega,by omega,?_⟩
  have e1:((path.length:Int) - 1).toNat=path.length - 1:=by omega
  rw [e1];refine ji (lo:=1) (fun k ρ=>∃ t,ρ = [some (.sh false (.list (path.map .int))),some (.sh true (.int x)),t]∧∀ i,1≤i→i<1+k→¬x≤path.getD i 0) ?_ ?_ ⟨none,rfl,fun i h1 h2=>absurd h2 (by omega)⟩
  · rintro k ρ hk ⟨t,rfl,hno⟩ W hW
    have hg:=ZL (xs:=path) (i:=1+(k:Int)) (by omega) (by omega)
    rw [show(1+(k:Int)).toNat=1+k by omega] at hg
    walk_at "rd hg"
    by_cases h:x≤path.getD (1+k) 0
    · rw [if_pos h]
      have:zS path.length (fun t=>decide (x≤path.getD t 0))=1+k:=zbX h1 (by omega) (by omega) (fun t a b=>decide_eq_false (hno t a b)) fun _=>decide_eq_true h
      rw [this] at q;have e:((1+k:Nat):Int)=1+(k:Int):=by omega
      rw [e] at q;exact q
    · rw [if_neg h]
      refine hW _ ⟨_,rfl,fun i a b=>?_⟩
      by_cases e:i=1+k
      · rw [e];exact h
      · exact hno i a (by omega)
  · rintro ρ ⟨t,rfl,hno⟩
    walk_at "rd"
    rw [List.length_map];have:zS path.length (fun t=>decide (x≤path.getD t 0))=path.length:=zbX h1 h1 (Nat.le_refl _) (fun t a b=>decide_eq_false (hno t a (by omega))) fun z=>absurd z (by omega)
    rw [this] at q;exact q
theorem zea (T:Txt c K mg) : dd_first_turn P w K mg base:=by
  obtain⟨f,fd,F,hm⟩:=T.d_first_turn;have hb:=F.binds (ps:=["path", "wanted"]) fun _ _ _ _ _ _ us hl=>by obtain⟨_,_,rfl⟩:=zR hl;rfl
  refine⟨fun ds Q Q' E E' hQ hE h=>?_,⟨f,fd,zdd T F,hb,F.kp,hm⟩⟩
  obtain⟨a,b,e,x,y,h⟩:=h;exact⟨a,b,e,x,y,hQ _ _ h⟩
theorem zfZ:FnScope ["bottom", "path", "j", "room", "opens", "last"] ["bottom", "path", "j", "room"] (ze j8):=⟨rfl,rfl,rfl,by decide +kernel,rfl,by decide +kernel,by decide +kernel⟩
theorem zid (T:Txt c K mg) (zjT:dd_first_turn P w K mg base) {f:Addr} {fd:FuncData} (F:Fun K "window_of" "window_of" j8 f fd):FnOk P w K mg base (CXR P w) 2 f fd ["bottom", "path", "j", "room"] (spL K JN):=by
  have S:=zfZ;refine fn3 F S (fun ds Q E h=>?_) (fun cdv A outer s H E E3 hE hr=>?_)
  · obtain⟨_,_,_,_,rfl,_⟩:=h;rfl
  refine⟨_,(zc (zf (i:=4) S.nd rfl (by walk_at "o") (df3 hE zjT (hr.mono (by decide)) rfl zi (za (n3 1) (za (op3 jx (op3 zU (n3 2) (n3 0)) (at3 (n3 3) i3 (fun _ _=>rfl))) zb))))
    (zc (zf (i:=5) S.nd rfl (by walk_at "o") (df3 hE zjT (hr.mono (by decide)) rfl zi (za (n3 1) (za (op3 zz (op3 zz (op3 zU (op3 jx (n3 2) i3) (n3 0)) (at3 (n3 3) i3 (fun _ _=>rfl))) i3) zb))))
    (zc (s_if (zl (zJ hr.units) (n3 5) (zw zL rfl T.n_len zK (za (n3 1) zb)) (nomark _)) (zd (zj (zF (za (n3 4) (za non3 zb))))) zn)
    (zd (zj (zF (za (n3 4) (za (n3 5) zb)))))))),fun ds Q h=>?_⟩
  obtain⟨b,path,j,room,rfl,h61,h1,hb,hj,q⟩:=h
  walk_at "rd atI0 atI1"
  have hj1:Bits 65 (j - 1):=hj.sub (Bits.lit (x:=1) 64);refine⟨hj.mulOk hb (by decide),path,rfl,h61,h1,hj1.mulOk hb (by decide),path,rfl,h61,h1,?_⟩
  rw [List.length_map];unfold winB winP at q;dsimp only at q
  by_cases h:zS path.length (fun t=>decide ((j - 1)*b+room.1+1≤path.getD t 0))=path.length
  · rw [if_pos (by rw [h])]
    rw [if_pos h] at q;exact q
  · rw [if_neg (fun z=>h (by omega))]
    rw [if_neg h] at q;exact q
theorem zgq (T:Txt c K mg) (zjT:dd_first_turn P w K mg base):dd_window_of P w K mg base:=by
  obtain⟨f,fd,F,hm⟩:=T.d_window_of;have hb:=F.binds (ps:=["bottom", "path", "j", "room"]) fun _ _ _ _ _ _ us hl=>by obtain⟨_,_,_,_,rfl⟩:=zgR hl;rfl
  refine⟨fun ds Q Q' E E' hQ hE h=>?_,⟨f,fd,zid T zjT F,hb,F.kp,hm⟩⟩
  obtain⟨a,b,d,n,e,x1,x2,x3,x4,h⟩:=h;exact⟨a,b,d,n,e,x1,x2,x3,x4,hQ _ _ h⟩
theorem zjn:FnScope ["told", "clan", "room", "path", "found", "j", "window"] ["told", "clan", "room"] (ze jZ):=⟨rfl,rfl,rfl,by decide +kernel,rfl,by decide +kernel,by decide +kernel⟩
theorem zia (T:Txt c K mg) (zkh:dd_window_of P w K mg base) {f:Addr} {fd:FuncData} (F:Fun K "windows_of_clan" "windows_of_clan" jZ f fd):FnOk P w K mg base (CXR P w) 3 f fd ["told", "clan", "room"] (spL K Ze):=by
  have S:=zjn;refine fn3 F S (fun ds Q E h=>?_) (fun cdv A outer s H E E3 hE hr=>?_)
  · obtain⟨_,_,_,_,_,rfl,_⟩:=h;rfl
  refine⟨_,(zc (zaA (i:=3) S.nd rfl (by walk_at "o") ["latest"] ["clan"] [1] rfl (z4 (osc:=ze jZ) (by decide +kernel)) rfl (zM (at3 (n3 0) i3 (fun _ _=>rfl))) (fun H0 s H fp cl=>⟨(zg (i:=0) (show((["latest"]:List PySem.Str)++(["clan"]:List PySem.Str)).Nodup by decide) rfl (by walk_at "o")),zY,(at3 (n3 0) (n3 1) (fun _ _=>rfl))⟩))
    (zc (je (i:=4) S.nd rfl (by walk_at "o") (zp zb))
    (zc (zf (i:=5) S.nd rfl (by walk_at "o") i3)
    (zc (zf (i:=6) S.nd rfl (by walk_at "o") (df3 hE zkh (hr.mono (by decide)) rfl zi (za (at3 (n3 0) i3 (fun _ _=>rfl)) (za (n3 3) (za (n3 5) (za (n3 2) zb))))))
    (zc (zaT PassesOwn.leaving (pw3 (JV (zl jG (at3 (n3 6) i3 (fun _ _=>rfl)) (zw zL rfl T.n_len zK (za (n3 3) zb)) (nomark _)) (Zg (zl zfX (at3 (n3 6) i3 (fun _ _=>rfl)) non3 (nomark _))))) (zc (jj (i:=4) rfl (by walk_at "o") (zF (za (n3 1) (za (n3 5) (za (at3 (n3 6) i3 (fun _ _=>rfl)) (za (at3 (n3 6) i3 (fun _ _=>rfl)) zb))))))
      (zc (zgl (i:=5) S.nd rfl (by walk_at "o") i3)
      (zd (zf (i:=6) S.nd rfl (by walk_at "o") (df3 hE zkh (hr.mono (by decide)) rfl zi (za (at3 (n3 0) i3 (fun _ _=>rfl)) (za (n3 3) (za (n3 5) (za (n3 2) zb))))))))))
    (zd (ju [4] (zj (n3 4))))))))),fun ds Q h=>?_⟩
  obtain⟨b,qs,k,room,n,rfl,hb0,hb,hk,h61,h1,hqn,hbd,hr0,hr1,hr80,q⟩:=h;refine zk fun N hN=>?_
  walk_at "rd atI0 atI1"
  refine⟨sz (by rw [List.length_map];omega),?_⟩
  refine zZ dI (fun r=>PyData.int (r.getD k 0)) (fun ρ=>∃ t,ρ = [t,some (.sh true (.int k))]) qs ?_ _ _ _ _ ⟨none,rfl⟩ ?_
  · rintro r hr ρ fa acc K ⟨t,rfl⟩ kk
    have hg:=ZL (xs:=r) (i:=(k:Int)) (by omega) (by rw [hqn r hr];omega)
    rw [Int.toNat_natCast] at hg
    walk_at "rd hg"
    exact kk _ ⟨_,rfl⟩
  have hcol:[]++qs.map (fun r=>PyData.int (r.getD k 0))=(zC qs k).map PyData.int:=by unfold zC;rw [List.nil_append,List.map_map];rfl
  rw [hcol];refine hN _ ?_;clear hN N;have hcl:(zC qs k).length=qs.length:=by unfold zC;rw [List.length_map]
  have hcb:∀ t,(zC qs k).getD t 0+room.2≤80*b:=fun t=>by
    unfold zC;rw [List.getD_eq_getElem?_getD,List.getElem?_map];cases ht:qs[t]? with
    | none=>
      show 0+room.2≤80*b
      omega
    | some r=>exact hbd r (List.mem_of_getElem? ht)
  have hM:∀ j,jY qs.length (winB b (zC qs k) room j)→j≤81:=fun j h=>zfp (M:=80) hb0 (by omega) hcb hr1 hr0 j (by rw [hcl];exact h)
  refine zk fun N hN=>?_
  walk_at "rd"
  refine hN _ ?_
  clear hN N;refine zk fun N hN=>?_
  walk_at "rd"
  refine hN _ ?_
  clear hN N;refine zk fun N hN=>?_
  walk_at "rd atI0 atI1"
  refine⟨zC qs k,rfl,room,rfl,rfl,by omega,by omega,hb,Bits.lit (x:=1) 64,hN _ ?_⟩
  clear hN N
  walk_at "rd"
  refine⟨_,zaf (fun m ρ=>∃ (ws:List Win) (j:Int),ρ = [some (.sh false (.tuple [.int b,.list (qs.map dI)])),some (.sh true (.int k)),some (.sh false (.tuple [.int room.1,.int room.2])),some (.sh true (.list ((zC qs k).map .int))),some (.ow true (ws.map dW)),some (.sh true (.int j)),some (.sh true (.tuple [.int (winB b (zC qs k) room j).1,dO (winB b (zC qs k) room j).2]))]∧1≤j∧j≤82∧(ws.length:Int)=j - 1∧(∀ us,IsW qs.length k (winB b (zC qs k) room) j us→IsW qs.length k (winB b (zC qs k) room) 1 (ws++us))∧m=(82 - j).toNat) ?_ _ _ ⟨[],1,rfl,by decide,by decide,rfl,fun us h=>h,rfl⟩⟩
  rintro m ρ ⟨ws,j,rfl,hj1,hj2,hlen,hpre,rfl⟩ W hW
  walk_at "rd atI0 atI1"
  rw [List.length_map,hcl];have step:jY qs.length (winB b (zC qs k) room j)→W [some (.sh false (.tuple [.int b,.list (qs.map dI)])),some (.sh true (.int k)),some (.sh false (.tuple [.int room.1,.int room.2])),some (.sh true (.list ((zC qs k).map .int))),some (.ow true (ws.map dW++[.tuple [.int k,.int j,.int (winB b (zC qs k) room j).1,dO (winB b (zC qs k) room j).2]])),some (.sh true (.int (j+1))),some (.sh true (.tuple [.int (winB b (zC qs k) room (j+1)).1,dO (winB b (zC qs k) room (j+1)).2]))]:=fun ht=>by
    have hj:=hM j ht;refine hW (82 - (j+1)).toNat _ (by omega) ⟨ws++[((k:Int),j,(winB b (zC qs k) room j).1,(winB b (zC qs k) room j).2)],j+1,by rw [List.map_append];rfl,by omega,by omega,by rw [List.length_append];simp;omega,fun us h=>?_,rfl⟩
    have:=hpre (((k:Int),j,(winB b (zC qs k) room j).1,(winB b (zC qs k) room j).2)::us) ⟨ht,rfl,h⟩
    simpa using this
  have hsz:(List.map dW ws).length<sizeLine:=Nat.lt_of_lt_of_le (show _<1000 by rw [List.length_map];omega) (by decide)
  have hbj:Bits 64 (j+1):=Bits.lit (x:=j+1) 64 (by omega)
  by_cases ho:(winB b (zC qs k) room j).1<(qs.length:Int)
  · rw [if_pos ho]
    exact⟨hsz,_,rfl,room,rfl,rfl,by omega,by omega,hb,hbj,step (.inl ho)⟩
  · rw [if_neg ho]
    change if isNone (Cl.sh true (dO (winB b (zC qs k) room j).2))=false then _ else _
    rw [zjp]
    by_cases hs:(winB b (zC qs k) room j).2=none
    · rw [if_neg (by rw [hs];decide)]
      have:=hpre [] (fun z=>z.elim ho fun y=>y hs)
      rw [List.append_nil] at this;exact q ws this (by omega)
    · rw [if_pos (by cases h:(winB b (zC qs k) room j).2 with|none=>exact absurd h hs|some i=>rfl)]
      exact⟨hsz,_,rfl,room,rfl,rfl,by omega,by omega,hb,hbj,step (.inr hs)⟩
theorem zgC (T:Txt c K mg) (zkh:dd_window_of P w K mg base):dd_windows_of_clan P w K mg base:=by
  obtain⟨f,fd,F,hm⟩:=T.d_windows_of_clan;have hb:=F.binds (ps:=["told", "clan", "room"]) fun _ _ _ _ _ _ us hl=>by obtain⟨_,_,_,rfl⟩:=ZZ hl;rfl
  refine⟨fun ds Q Q' E E' hQ hE h=>?_,⟨f,fd,zia T zkh F,hb,F.kp,hm⟩⟩
  obtain⟨a,b,d,n,m,e,x1,x2,x3,x4,x5,x6,x7,x8,x9,x10,h⟩:=h;exact⟨a,b,d,n,m,e,x1,x2,x3,x4,x5,x6,x7,x8,x9,x10,fun w y z=>hQ _ _ (h w y z)⟩
theorem ziN:FnScope ["told", "rooms", "found", "clan", "room"] ["told", "rooms"] (ze j0):=⟨rfl,rfl,rfl,by decide +kernel,rfl,by decide +kernel,by decide +kernel⟩
theorem zdw (T:Txt c K mg) (zkk:dd_windows_of_clan P w K mg base) {f:Addr} {fd:FuncData} (F:Fun K "windows_within" "windows_within" j0 f fd):FnOk P w K mg base (CXR P w) 4 f fd ["told", "rooms"] (spL K JL):=by
  have S:=ziN;refine fn3 F S (fun ds Q E h=>?_) (fun cdv A outer s H E E3 hE hr=>?_)
  · obtain⟨_,_,_,_,rfl,_⟩:=h;rfl
  refine⟨_,(zc (je (i:=2) S.nd rfl (by walk_at "o") (zp zb))
    (zc (zI PassesOwn.leaving rfl (zje rfl T.n_enumerate (za (n3 1) zb)) (z3 (n:=2) rfl (zA (zg (i:=3) S.nd rfl (by walk_at "o")) (zA (zg (i:=4) S.nd rfl (by walk_at "o")) z0))) (zd (zhu (i:=2) rfl (by walk_at "o") (df3 hE zkk (hr.mono (by decide)) rfl zi (za (n3 0) (za (n3 3) (za (n3 4) zb)))))))
    (zd (ju [2] (zj (n3 2)))))),fun ds Q h=>?_⟩
  obtain⟨b,qs,rooms,n,rfl,hb0,hb,hrl,hn8,h61,h1,hqn,hq60,hrm,q⟩:=h
  walk_at "rd"
  have he:jU (rooms.map dRoom)=(List.range n).map fun i=>PyData.tuple [PyData.int (i:Nat),dRoom (rooms.getD i (0,0))]:=by
    unfold jU;rw [List.length_map,hrl]
    apply List.map_congr_left
    intro i hi;have:=List.mem_range.mp hi;rw [List.getD_eq_getElem?_getD,List.getElem?_map,List.getD_eq_getElem?_getD,List.getElem?_eq_getElem (by omega)];rfl
  rw [he];refine zhc (fun k ρ=>∃ (W:List (List Win)) (t u:Option L3.Cl),ρ = [some (.sh false (.tuple [.int b,.list (qs.map dI)])),some (.sh false (.list (rooms.map dRoom))),some (.ow true (W.flatten.map dW)),t,u]∧W.length=k∧(∀ i,i<k→IsW qs.length i (winB b (zC qs i) (rooms.getD i (0,0))) 1 (W.getD i []))∧W.flatten.length≤200*k) ?_ ?_ ⟨[],none,none,rfl,rfl,fun i h=>absurd h (by omega),by simp⟩
  · rintro k ρ hk ⟨W,t,u,rfl,hWl,hWi,hWf⟩ W' hW'
    have hrk:=hrm (rooms.getD k (0,0)) (by rw [List.getD_eq_getElem?_getD,List.getElem?_eq_getElem (by omega)];exact List.getElem_mem _)
    have hbd:∀ r∈qs,r.getD k 0+(rooms.getD k (0,0)).2≤80*b:=fun r hr=>by
      have h1:=hq60 r hr (r.getD k 0) (by
        rw [List.getD_eq_getElem?_getD,List.getElem?_eq_getElem (by rw [hqn r hr];exact hk)];exact List.getElem_mem _)
      omega
    walk_at "rd"
    refine⟨qs,rfl,k,rfl,rooms.getD k (0,0),rfl,rfl,hb0,hb,n,hk,h61,h1,hqn,hbd,hrk.1,hrk.2.1,by omega,fun ws hws hwl=>⟨sz (by rw [List.length_map,List.length_map];omega),?_⟩⟩
    have ef:(W++[ws]).flatten=W.flatten++ws:=by rw [List.flatten_append];simp
    rw [←List.map_append,←ef];refine hW' _ ⟨W++[ws],_,_,rfl,by simp [hWl],fun i hi=>?_,by rw [ef,List.length_append];omega⟩
    by_cases e:i=k
    · subst e
      have g1:(W++[ws]).getD i []=ws:=by rw [←hWl];simp
      rw [g1];exact hws
    · have g2:(W++[ws]).getD i []=W.getD i []:=by
        have hlt:i<W.length:=by omega
        simp [List.getElem?_append_left hlt]
      rw [g2];exact hWi i (by omega)
  · rintro ρ ⟨W,t,u,rfl,hWl,hWi,hWf⟩
    walk_at "rd"
    exact q W hWl hWi (by omega)
theorem ziR (T:Txt c K mg) (zkk:dd_windows_of_clan P w K mg base):dd_windows_within P w K mg base:=by
  obtain⟨f,fd,F,hm⟩:=T.d_windows_within;have hb:=F.binds (ps:=["told", "rooms"]) fun _ _ _ _ _ _ us hl=>by obtain⟨_,_,rfl⟩:=zR hl;rfl
  refine⟨fun ds Q Q' E E' hQ hE h=>?_,⟨f,fd,zdw T zkk F,hb,F.kp,hm⟩⟩
  obtain⟨a,b,d,n,e,x1,x2,x3,x4,x5,x6,x7,x8,x9,h⟩:=h;exact⟨a,b,d,n,e,x1,x2,x3,x4,x5,x6,x7,x8,x9,fun w x y z=>hQ _ _ (h w x y z)⟩
theorem zf7:FnScope ["spells", "bounds", "told"] ["spells", "bounds"] (ze Ji):=⟨rfl,rfl,rfl,by decide +kernel,rfl,by decide +kernel,by decide +kernel⟩
theorem zha (T:Txt c K mg) (zkb:dd_quotas c P w K mg base) (zkl:dd_windows_within P w K mg base) (zkf:dd_rooms_of c P w K mg base) {f:Addr} {fd:FuncData} (F:Fun K "windows" "windows" Ji f fd):FnOk P w K mg base (CXR P w) 5 f fd ["spells", "bounds"] (spL K (Zl c)):=by
  have S:=zf7;refine fn3 F S (fun ds Q E h=>?_) (fun cdv A outer s H E E3 hE hr=>?_)
  · obtain⟨_,_,rfl,_⟩:=h;rfl
  refine⟨_,(zc (zf (i:=2) S.nd rfl (by walk_at "o") (df3 hE zkb (hr.mono (by decide)) rfl zi (za (n3 0) zb)))
    (zd (zj (df3 hE zkl (hr.mono (by decide)) rfl zi (za (n3 2) (za (df3 hE zkf (hr.mono (by decide)) rfl zi (za (n3 2) (za (n3 1) zb))) zb)))))),fun ds Q h=>?_⟩
  obtain⟨l,bs,rfl,hbl,hbq,q,hE1,hE2⟩:=h
  walk_at "rd"
  refine⟨l,rfl,fun hok=>?_,hE1⟩
  have hm:=JI hok;have hbp:=zaR hok;have hql:=zad hok;have htn:=jC fun s hs=>(hok.2.1 s hs).1
  have h60:=hok.2.2;have hqr:∀ r∈quo l,r.length=many l:=fun r hr=>Za hok (b:=bot l) hr
  have hb2:Bits 2000 (bot l):=(ZN hok).mono (by decide)
  refine⟨quo l,rfl,bs,rfl,hb2,by omega,many l,hqr,hm.2,hbl,hbq,fun hB=>?_,fun hno=>hE2 hok hno⟩
  have hrl:(z6 (bot l) bs).length=many l:=by unfold z6;rw [List.length_map];exact hB.1
  refine⟨quo l,rfl,z6 (bot l) bs,rfl,hbp,hb2,by omega,by omega,by omega,fun r hr=>by rw [hrl];exact hqr r hr,fun r hr x hx=>?_,fun p hp=>?_,fun W h1 h2 h3=>q hok hB W (by rw [←hrl];exact h1) (fun k hk=>h2 k (by rw [hrl];exact hk)) h3⟩
  · have h1:=zcD hok hbp r hr x hx
    have h2:tot l*bot l≤60*bot l:=Int.mul_le_mul_of_nonneg_right h60 (by omega)
    omega
  · unfold z6 at hp
    obtain⟨z,hz,rfl⟩:=List.mem_map.mp hp;obtain⟨z1,z2⟩:=hB.2 z hz;obtain⟨y1,y2⟩:=hbq z hz;refine⟨Int.ediv_nonneg (Int.mul_nonneg z1.1 (by omega)) (by have:=y1.1;omega),Int.ediv_nonneg (Int.mul_nonneg z2.1 (by omega)) (by have:=y2.1;omega),?_⟩
    refine Int.ediv_le_of_le_mul y2.1 ?_
    have h1:z.2.1*bot l≤10*z.2.2*bot l:=Int.mul_le_mul_of_nonneg_right z2.2 (by omega)
    have h2:0≤z.2.2*bot l:=Int.mul_nonneg (by have:=y2.1;omega) (by omega)
    have e1:10*z.2.2*bot l=10*(z.2.2*bot l):=Int.mul_assoc _ _ _;have e2:20*bot l*z.2.2=20*(z.2.2*bot l):=by rw [Int.mul_assoc,Int.mul_comm (bot l)]
    omega
theorem ziu (T:Txt c K mg) (zkb:dd_quotas c P w K mg base) (zkl:dd_windows_within P w K mg base) (zkf:dd_rooms_of c P w K mg base):dd_windows c P w K mg base:=by
  obtain⟨f,fd,F,hm⟩:=T.d_windows;have hb:=F.binds (ps:=["spells", "bounds"]) fun _ _ _ _ _ _ us hl=>by obtain⟨_,_,rfl⟩:=zR hl;rfl
  refine⟨fun ds Q Q' E E' hQ hE h=>?_,⟨f,fd,zha T zkb zkl zkf F,hb,F.kp,hm⟩⟩
  obtain⟨a,b,e,x1,x2,h1,h2,h3⟩:=h;exact⟨a,b,e,x1,x2,fun x y w u v z=>hQ _ _ (h1 x y w u v z),fun z=>hE _ (h2 z),fun y z=>hE _ (h3 y z)⟩
theorem zgH:FnScope ["bottom", "bound"] ["bottom", "bound"] (ze JG):=⟨rfl,rfl,rfl,by decide +kernel,rfl,by decide +kernel,by decide +kernel⟩
theorem zeQ (T:Txt c K mg) {f:Addr} {fd:FuncData} (F:Fun K "room_less" "room_less" JG f fd):FnOk P w K mg base (CXR P w) 1 f fd ["bottom", "bound"] (spL K J5):=by
  have S:=zgH;refine fn3 F S (fun ds Q E h=>?_) (fun cdv A outer s H E E3 hE hr=>?_)
  · obtain⟨_,_,rfl,_⟩:=h;rfl
  refine⟨_,(zd (zj (op3 zr (op3 jx (op3 zU (at3 (n3 1) i3 (fun _ _=>rfl)) (n3 0)) i3) (at3 (n3 1) i3 (fun _ _=>rfl))))),fun ds Q h=>?_⟩
  obtain⟨b,r,rfl,hb,hr,q⟩:=h
  walk_at "rd atI0 atI1"
  exact⟨hr.2.1.mulOk hb (by decide),⟨hr.1,hr.2.2.mono (by decide)⟩,q⟩
theorem zgI (T:Txt c K mg) : dd_room_less P w K mg base:=by
  obtain⟨f,fd,F,hm⟩:=T.d_room_less;have hb:=F.binds (ps:=["bottom", "bound"]) fun _ _ _ _ _ _ us hl=>by obtain⟨_,_,rfl⟩:=zR hl;rfl
  refine⟨fun ds Q Q' E E' hQ hE h=>?_,⟨f,fd,zeQ T F,hb,F.kp,hm⟩⟩
  obtain⟨a,b,e,x,y,h⟩:=h;exact⟨a,b,e,x,y,hQ _ _ h⟩
theorem zdp:FnScope ["spells", "least", "told", "room"] ["spells", "least"] (ze jM):=⟨rfl,rfl,rfl,by decide +kernel,rfl,by decide +kernel,by decide +kernel⟩
theorem zh3 (T:Txt c K mg) (zkb:dd_quotas c P w K mg base) (zke:dd_room_less P w K mg base) (zkl:dd_windows_within P w K mg base) (zka:dd_less P w K mg base) {f:Addr} {fd:FuncData} (F:Fun K "windows_less" "windows_less" jM f fd):FnOk P w K mg base (CXR P w) 5 f fd ["spells", "least"] (spL K (JY c)):=by
  have S:=zdp;refine fn3 F S (fun ds Q E h=>?_) (fun cdv A outer s H E E3 hE hr=>?_)
  · obtain⟨_,_,rfl,_⟩:=h;rfl
  refine⟨_,(zc (zf (i:=2) S.nd rfl (by walk_at "o") (df3 hE zkb (hr.mono (by decide)) rfl zi (za (n3 0) zb)))
    (zc (s_if (pw3 (JV (Jp (val3 (df3 hE zka (hr.mono (by decide)) rfl zi (za (zF (za i3 (za i3 zb))) (za (n3 1) zb))))) (Zg (val3 (df3 hE zka (hr.mono (by decide)) rfl zi (za (g3t rfl T.m_MOST_BOUND) (za (n3 1) zb))))))) (zd (jb hE z7 rfl rfl T.m_NoDistance T.e_NoDistance (za s3 zb))) zn)
    (zc (zf (i:=3) S.nd rfl (by walk_at "o") (df3 hE zke (hr.mono (by decide)) rfl zi (za (at3 (n3 2) i3 (fun _ _=>rfl)) (za (n3 1) zb))))
    (zd (zj (df3 hE zkl (hr.mono (by decide)) rfl zi (za (n3 2) (za (new3 (jd ["quota"] ["room"] [3] rfl (z4 (osc:=ze jM) (by decide +kernel)) rfl (zM (at3 (at3 (n3 2) i3 (fun _ _=>rfl)) i3 (fun _ _=>rfl))) (fun H0 s H fp cl=>⟨(zg (i:=0) (show((["quota"]:List PySem.Str)++(["room"]:List PySem.Str)).Nodup by decide) rfl (by walk_at "o")),zY,(zF (za (n3 1) (za (n3 1) zb)))⟩))) zb)))))))),fun ds Q h=>?_⟩
  obtain⟨l,r,rfl,hr,q,hE1,hE2⟩:=h;refine zk fun N hN=>?_
  walk_at "rd"
  refine⟨l,rfl,fun hok=>hN _ ?_,hE1⟩
  clear hN N;have hm:=JI hok;have hbp:=zaR hok;have hql:=zad hok;have htn:=jC fun s hs=>(hok.2.1 s hs).1
  have h60:=hok.2.2;have hqr:∀ r∈quo l,r.length=many l:=fun r hr=>Za hok (b:=bot l) hr
  have hb2:Bits 2000 (bot l):=(ZN hok).mono (by decide)
  have o01:okQ (0,1):=⟨by decide,Bits.lit (x:=0) 1200,Bits.lit (x:=1) 1200⟩
  have o10:okQ (10,1):=⟨by decide,Bits.lit (x:=10) 1200,Bits.lit (x:=1) 1200⟩
  refine zk fun N hN=>?_
  walk_at "rd"
  refine⟨(0,1),rfl,rfl,r,rfl,rfl,o01,hr,ite2 (fun h=>hE2 hok fun z=>h (by show 0*r.2<r.1*1;omega)) fun h1=>⟨(10,1),rfl,rfl,r,rfl,rfl,o10,hr,ite2 (fun h=>hE2 hok fun z=>absurd h (by show ¬10*r.2<r.1*1;omega)) fun h2=>hN _ ?_⟩⟩
  clear hN N;have hd0:0<r.1:=by
    have h:¬¬(0*r.2<r.1*1):=h1
    omega
  have hd1:r.1≤10*r.2:=by
    have h:¬(10*r.2<r.1*1):=h2
    omega
  refine zk fun N hN=>?_
  walk_at "rd atI0 atI1"
  refine⟨r,rfl,rfl,hb2,hr,hN _ ?_⟩
  clear hN N;have hq0:atI ((quo l).map dI) 0=some (PyData.list ((quo l)[0].map PyData.int)):=Zv (i:=0) (by omega)
  have h0n:(quo l)[0].length=many l:=hqr _ (List.getElem_mem _)
  walk_at "rd atI0 atI1 hq0 List.length_map h0n"
  refine⟨sz (by omega),?_⟩
  refine zZ PyData.int (fun _=>dRoom (zW (bot l) r,zW (bot l) r)) (fun ρ=>∃ t,ρ = [t,some (.sh true (.int (zW (bot l) r)))]) (quo l)[0] ?_ _ _ _ _ ⟨none,rfl⟩ ?_
  · rintro x hx ρ fa acc K ⟨t,rfl⟩ kk
    walk_at "rd"
    exact kk _ ⟨_,rfl⟩
  have hro:[]++(quo l)[0].map (fun _=>dRoom (zW (bot l) r,zW (bot l) r))=(List.replicate (many l) (zW (bot l) r,zW (bot l) r)).map dRoom:=by
    rw [List.nil_append,List.map_const',h0n,List.map_replicate]
  rw [hro];obtain⟨hs0,hs1⟩:=zic hbp hr hd0 hd1;have hrp:(List.replicate (many l) (zW (bot l) r,zW (bot l) r)).length=many l:=List.length_replicate;refine⟨quo l,rfl,List.replicate (many l) (zW (bot l) r,zW (bot l) r),rfl,hbp,hb2,by rw [hrp];exact hm.2,by omega,by omega,fun r hr=>by rw [hrp];exact hqr r hr,fun r hr x hx=>?_,fun p hp=>?_,fun W w1 w2 w3=>q hok hd0 hd1 W (w1.trans hrp) (fun k hk=>?_) w3⟩
  · have h1:=zcD hok hbp r hr x hx
    have h2:tot l*bot l≤60*bot l:=Int.mul_le_mul_of_nonneg_right h60 (by omega)
    omega
  · rw [List.eq_of_mem_replicate hp]
    exact⟨hs0,hs0,by show zW (bot l) r≤20*bot l;omega⟩
  · have:=w2 k (by rw [hrp];exact hk)
    rw [List.getD_eq_getElem?_getD,List.getElem?_replicate,if_pos hk] at this;exact this
theorem zfn (T:Txt c K mg) (zkb:dd_quotas c P w K mg base) (zke:dd_room_less P w K mg base) (zkl:dd_windows_within P w K mg base) (zka:dd_less P w K mg base):dd_windows_less c P w K mg base:=by
  obtain⟨f,fd,F,hm⟩:=T.d_windows_less;have hb:=F.binds (ps:=["spells", "least"]) fun _ _ _ _ _ _ us hl=>by obtain⟨_,_,rfl⟩:=zR hl;rfl
  refine⟨fun ds Q Q' E E' hQ hE h=>?_,⟨f,fd,zh3 T zkb zke zkl zka F,hb,F.kp,hm⟩⟩
  obtain⟨a,b,e,x1,h1,h2,h3⟩:=h;exact⟨a,b,e,x1,fun x y z w u v t=>hQ _ _ (h1 x y z w u v t),fun z=>hE _ (h2 z),fun y z=>hE _ (h3 y z)⟩
theorem zgg:FnScope ["_law_way", "_law_spells_here", "_law_bounds_here", "_law_row_here", "_law_far", "e", "_law_told"] ["_law_way", "_law_spells_here", "_law_bounds_here", "_law_row_here", "_law_far"] (ze Jm):=⟨rfl,rfl,rfl,by decide +kernel,rfl,by decide +kernel,by decide +kernel⟩
theorem zgh (T:Txt c K mg) (zjR:dd_distance c P w K mg base) (zjV:dd_keeps c P w K mg base) (zki:dd_windows c P w K mg base) (zkj:dd_windows_less c P w K mg base) {f:Addr} {fd:FuncData} (F:Fun K "_law_answer" "_law_answer" Jm f fd):FnOk P w K mg base (CXR P w) 6 f fd ["_law_way", "_law_spells_here", "_law_bounds_here", "_law_row_here", "_law_far"] (spL K J7):=by
  have S:=zgg;refine fn3 F S (fun ds Q E h=>?_) (fun cdv A outer s H E E3 hE hr=>?_)
  · obtain⟨_,_,_,_,_,rfl,_⟩:=h;rfl
  refine⟨_,(zc (zdt (i:=5) rfl rfl S.nd rfl rfl rfl T.m_ClanError (x_if (zl (zJ hr.units) (n3 0) i3 (nomark _)) (zaB zjR (hr.mono (by decide)) rfl (za (n3 1) (za (n3 3) zb))) (x_if (zl (zJ hr.units) (n3 0) i3 (nomark _)) (zaB zjV (hr.mono (by decide)) rfl (za (n3 1) (za (n3 2) (za (n3 3) zb)))) (x_if (zl (zJ hr.units) (n3 0) i3 (nomark _)) (zaB zki (hr.mono (by decide)) rfl (za (n3 1) (za (n3 2) zb))) (zaB zkj (hr.mono (by decide)) rfl (za (n3 1) (za (n3 4) zb)))))) (fun ea=>by exact(zc (s_if (val3 (zjG (K':=K) rfl rfl T.n_isinstance rfl (jr rfl T.m_Known (jr rfl T.m_NoClan (jr rfl T.m_NoLine (jr rfl T.m_NoName (jr rfl T.m_NoNumber (jr rfl T.m_NoRatio (jr rfl T.m_NoRule (jr rfl T.m_NoText (jr rfl T.m_TooLong (jr rfl T.m_TooMany zgJ)))))))))) (sz (by simp)) (n3 5))) (zd (zj s3)) zn)
      (zc (zf (i:=6) S.nd rfl (by walk_at "o") (new3 (zp (za (zar (K':=K) rfl rfl T.n_isinstance rfl rfl T.m_NoSpell (n3 5)) (za (zar (K':=K) rfl rfl T.n_isinstance rfl rfl T.m_NoBounds (n3 5)) (za (zar (K':=K) rfl rfl T.n_isinstance rfl rfl T.m_NoRow (n3 5)) (za (zar (K':=K) rfl rfl T.n_isinstance rfl rfl T.m_NoDistance (n3 5)) zb)))))))
      (zc (s_if (pw3 (JV (zl (jl hr.units) (zie (n3 6) b3) i3 (nomark _)) (Zg (Jp (val3 (zdX (K':=K) rfl rfl T.n_isinstance rfl rfl T.n_ValueError zht (n3 5))))))) (zd (zj s3)) zn)
      (zd (zj (at3 (new3 (zp (za s3 (za s3 (za s3 (za s3 zb)))))) (zgV (n3 6) b3) (fun _ _=>rfl)))))))))
    (zd (zj s3))),fun ds Q h=>?_⟩
  obtain⟨way,l,bs,row,r,rfl,hbl,ho,hr,q⟩:=h;have an:∀ t,ansL l bs row r way=t→Q true (.str t):=fun t e=>e ▸ q
  refine zk fun N hN=>?_
  refine zf6 fun E' hE'=>?_
  have hand:∀ (C:Addr) (a b d e:Bool) (t:Str),XAttr K C∧PySem.W.exmOne K (.ref C) (.ref c.ClanError)=some true∧PySem.W.kitAny K (.ref C) ([c.Known,c.NoClan,c.NoLine,c.NoName,c.NoNumber,c.NoRatio,c.NoRule,c.NoText,c.TooLong,c.TooMany].map Value.ref)=some false∧PySem.W.kitOne K (.ref C) (.ref c.NoSpell)=some a∧PySem.W.kitOne K (.ref C) (.ref c.NoBounds)=some b∧PySem.W.kitOne K (.ref C) (.ref c.NoRow)=some d∧PySem.W.kitOne K (.ref C) (.ref c.NoDistance)=some e∧PySem.W.kitOne K (.ref C) (.type "ValueError")=some true→[a,b,d,e].countP id=1→true∈[a,b,d,e]→atI [PyData.str "spell", PyData.str "bounds", PyData.str "row", PyData.str "distance"] ([a,b,d,e].idxOf true:Nat)=some (.str t)→Q true (.str t)→E' C:=fun C a b d e t ⟨x,hx,o,i1,i2,i3,i4,v⟩ hc hm hi qt=>hE' C ⟨hx,by
    walk_at "rd"
    refine⟨x,_,o,?_⟩
    rw [if_neg (by decide)]
    refine⟨x,_,i1,x,_,i2,x,_,i3,x,_,i4,_,rfl,?_⟩
    rw [if_neg (fun z=>z (by rw [hc];rfl))]
    refine⟨x,_,v,?_⟩
    rw [if_neg (by decide)]
    exact⟨_,rfl,hm,_,hi,qt⟩⟩
  have hn:∀ ρ,Q true (.str "ok")→N ρ:=fun ρ h=>hN ρ (by walk_at "rd";exact h)
  have hS:Q true (.str "spell")→E' c.NoSpell:=hand _ _ _ _ _ _ T.k_NoSpell rfl (by decide) rfl
  have hB:Q true (.str "bounds")→E' c.NoBounds:=hand _ _ _ _ _ _ T.k_NoBounds rfl (by decide) rfl
  have hR:Q true (.str "row")→E' c.NoRow:=hand _ _ _ _ _ _ T.k_NoRow rfl (by decide) rfl
  have hD:Q true (.str "distance")→E' c.NoDistance:=hand _ _ _ _ _ _ T.k_NoDistance rfl (by decide) rfl
  clear hand hE' hN
  walk_at "rd"
  by_cases e0:way=0
  · rw [if_pos e0]
    exact⟨l,rfl,row,rfl,fun h1 h2 _ _=>hn _ (an _ (by simp [ansL,h1,h2,e0])),fun h1=>hS (an _ (by simp [ansL,h1])),fun h1 h2=>hR (an _ (by simp [ansL,h1,h2,e0]))⟩
  rw [if_neg e0]
  by_cases e1:way=1
  · rw [if_pos e1]
    exact⟨l,rfl,bs,rfl,row,rfl,hbl,ho,fun h1 h2 h3 _ _=>hn _ (an _ (by simp [ansL,h1,h2,h3,e1])),fun h1=>hS (an _ (by simp [ansL,h1])),fun h1 h2=>hB (an _ (by simp [ansL,h1,h2,e1])),fun h1 h2 h3=>hR (an _ (by simp [ansL,h1,h2,h3,e1]))⟩
  rw [if_neg e1]
  by_cases e2:way=2
  · rw [if_pos e2]
    exact⟨l,rfl,bs,rfl,hbl,ho,fun h1 h2 _ _ _ _=>hn _ (an _ (by simp [ansL,h1,h2,e2])),fun h1=>hS (an _ (by simp [ansL,h1])),fun h1 h2=>hB (an _ (by simp [ansL,h1,h2,e2]))⟩
  rw [if_neg e2];exact⟨l,rfl,r,rfl,rfl,hr,fun h1 h2 h3 _ _ _ _=>hn _ (an _ (by simp [ansL,h1,h2,h3,e0,e1,e2])),fun h1=>hS (an _ (by simp [ansL,h1])),fun h1 h2=>hD (an _ (by rw [ansL,if_neg (fun z=>z h1),if_neg e0,if_neg e1,if_neg e2,if_pos h2]))⟩
theorem zf4 (T:Txt c K mg) (zjR:dd_distance c P w K mg base) (zjV:dd_keeps c P w K mg base) (zki:dd_windows c P w K mg base) (zkj:dd_windows_less c P w K mg base):dd_law_answer P w K mg base:=by
  obtain⟨f,fd,F,hm⟩:=T.d_law_answer;have hb:=F.binds (ps:=["_law_way", "_law_spells_here", "_law_bounds_here", "_law_row_here", "_law_far"]) fun _ _ _ _ _ _ us hl=>by obtain⟨_,_,_,_,_,rfl⟩:=zdF hl;rfl
  refine⟨fun ds Q Q' E E' hQ hE h=>?_,⟨f,fd,zgh T zjR zjV zki zkj F,hb,F.kp,hm⟩⟩
  obtain⟨a,b,d,n,r,e,x1,x2,x3,h⟩:=h;exact⟨a,b,d,n,r,e,x1,x2,x3,hQ _ _ h⟩
theorem zjI:FnScope ["_law_script", "_law_spells_here", "_law_bottom", "_law_rows", "_law_row_here", "_law_bounds_here", "_law_far", "_law_cell", "_law_due", "_law_k", "_law_way", "_law_handed", "_law_first"] ["_law_script"] (ze jE):=⟨rfl,rfl,rfl,by decide +kernel,rfl,by decide +kernel,by decide +kernel⟩
theorem zgT (T:Txt c K mg) (zj6:dd_law_spells P w K mg base) (zj3:dd_law_quotas P w K mg base) (zj5:dd_law_row P w K mg base) (zjX:dd_law_bounds P w K mg base) (zj4:dd_law_ratio P w K mg base) (zjY:dd_law_cell_at P w K mg base) (zj0:dd_law_no_bounds P w K mg base) (zj1:dd_law_no_row P w K mg base) (zj2:dd_law_no_spells P w K mg base) (zjW:dd_law_answer P w K mg base) {f:Addr} {fd:FuncData} (F:Fun K "law" "law" jE f fd):FnOk P w K mg base (CXR P w) 7 f fd ["_law_script"] (spL K JH):=by
  have S:=zjI;refine fn3 F S (fun ds Q E h=>?_) (fun cdv A outer s H E E3 hE hr=>?_)
  · obtain⟨_,rfl,_⟩:=h;rfl
  refine⟨_,(zc (zf (i:=1) S.nd rfl (by walk_at "o") (df3 hE zj6 (hr.mono (by decide)) rfl zi (za (n3 0) (za i3 zb))))
    (zc (zbm (df3 hE zj3 (hr.mono (by decide)) rfl zi (za (n3 1) zb)) (z3 (n:=2) rfl (zA (zg (i:=2) S.nd rfl (by walk_at "o")) (zA (zg (i:=3) S.nd rfl (by walk_at "o")) z0))))
    (zc (zf (i:=4) S.nd rfl (by walk_at "o") (df3 hE zj5 (hr.mono (by decide)) rfl zi (za (n3 2) (za (n3 3) (za (op3 zz (df3 hE zjY (hr.mono (by decide)) rfl zi (za (n3 0) (za i3 zb))) i3) zb)))))
    (zc (zf (i:=5) S.nd rfl (by walk_at "o") (df3 hE zjX (hr.mono (by decide)) rfl zi (za (zw zL rfl T.n_len zK (za (at3 (n3 3) i3 (fun _ _=>rfl)) zb)) (za (df3 hE zjY (hr.mono (by decide)) rfl zi (za (n3 0) (za i3 zb))) zb))))
    (zc (zf (i:=6) S.nd rfl (by walk_at "o") (zF (za (op3 zz i3 (op3 zo (df3 hE zjY (hr.mono (by decide)) rfl zi (za (n3 0) (za i3 zb))) i3)) (za i3 zb))))
    (zc (zf (i:=6) S.nd rfl (by walk_at "o") (df3 hE zj4 (hr.mono (by decide)) rfl zi (za (at3 (n3 6) i3 (fun _ _=>rfl)) (za (at3 (n3 6) i3 (fun _ _=>rfl)) zb))))
    (zc (zf (i:=7) S.nd rfl (by walk_at "o") (df3 hE zjY (hr.mono (by decide)) rfl zi (za (n3 0) (za i3 zb))))
    (zc (je (i:=8) S.nd rfl (by walk_at "o") (zp zb))
    (zc (zI PassesOwn.leaving rfl (jg rfl T.n_range (za i3 zb)) (zg (i:=9) S.nd rfl (by walk_at "o")) (zd (jj (i:=8) rfl (by walk_at "o") (new3 (rep3 (zp (za (at3 (new3 (zp (za s3 (za s3 (za s3 (za s3 zb)))))) (n3 9) (fun _ _=>rfl)) zb)) (op3 zfg (op3 zge (n3 7) (n3 9)) i3))))))
    (zc (zf (i:=7) S.nd rfl (by walk_at "o") (op3 zr (n3 7) i3))
    (zc (s_if (zl (jl hr.units) (at3 (n3 8) i3 (fun _ _=>rfl)) (new3 (zp zb)) (nomark _)) (zd (zf (i:=5) S.nd rfl (by walk_at "o") (df3 hE zj0 (hr.mono (by decide)) rfl zi (za (n3 5) (za (n3 7) zb))))) zn)
    (zc (s_if (zl (jl hr.units) (at3 (n3 8) i3 (fun _ _=>rfl)) (new3 (zp zb)) (nomark _)) (zd (zf (i:=4) S.nd rfl (by walk_at "o") (df3 hE zj1 (hr.mono (by decide)) rfl zi (za (n3 4) (za (zw zL rfl T.n_len zK (za (at3 (n3 3) i3 (fun _ _=>rfl)) zb)) (za (op3 zr (n3 7) i3) zb)))))) zn)
    (zc (s_if (zl (jl hr.units) (at3 (n3 8) i3 (fun _ _=>rfl)) (new3 (zp zb)) (nomark _)) (zc (zf (i:=6) S.nd rfl (by walk_at "o") (df3 hE zj4 (hr.mono (by decide)) rfl zi (za (un3 jm (op3 zo (n3 7) i3)) (za (op3 zz i3 (op3 zo (op3 zr (n3 7) i3) i3)) zb))))
      (zd (s_if (zl (zJ hr.units) (op3 zo (op3 zr (n3 7) i3) i3) i3 (nomark _)) (zd (zf (i:=6) S.nd rfl (by walk_at "o") (df3 hE zj4 (hr.mono (by decide)) rfl zi (za (op3 zz (op3 zU i3 (op3 zz i3 (op3 zo (op3 zr (n3 7) i3) (op3 z8 i3 i3)))) i3) (za (op3 zz i3 (op3 zo (op3 zr (n3 7) i3) (op3 z8 i3 i3))) zb))))) zn))) zn)
    (zc (s_if (zl (jl hr.units) (at3 (n3 8) i3 (fun _ _=>rfl)) (new3 (zp zb)) (nomark _)) (zd (zf (i:=1) S.nd rfl (by walk_at "o") (df3 hE zj2 (hr.mono (by decide)) rfl zi (za (n3 1) (za (op3 zr (n3 7) i3) zb))))) zn)
    (zc (zI PassesOwn.leaving rfl (jg rfl T.n_range (za i3 zb)) (zg (i:=10) S.nd rfl (by walk_at "o")) (zc (zf (i:=11) S.nd rfl (by walk_at "o") (new3 (zp (za (new3 (jd ["_law_length", "_law_weights"] [] [] rfl (z4 (osc:=ze jE) (by decide +kernel)) rfl (zM (n3 1)) (fun H0 s H fp cl=>⟨(z3 (n:=2) rfl (zA (zg (i:=0) (show((["_law_length", "_law_weights"]:List PySem.Str)++([]:List PySem.Str)).Nodup by decide) rfl (by walk_at "o")) (zA (zg (i:=1) (show((["_law_length", "_law_weights"]:List PySem.Str)++([]:List PySem.Str)).Nodup by decide) rfl (by walk_at "o")) z0))),zY,(zF (za (n3 0) (za (new3 (zbk rfl T.n_list zbl (za (n3 1) zb))) zb)))⟩))) (za (new3 (zbk rfl T.n_list zbl (za (n3 5) zb))) (za (new3 (zbk rfl T.n_list zbl (za (n3 4) zb))) zb))))))
      (zc (zf (i:=12) S.nd rfl (by walk_at "o") (new3 (cat3 (at3 (new3 (zp (za (new3 (cat3 (at3 (n3 8) i3 (fun _ _=>rfl)) (at3 (n3 8) i3 (fun _ _=>rfl)))) (za (new3 (cat3 (new3 (cat3 (at3 (n3 8) i3 (fun _ _=>rfl)) (at3 (n3 8) i3 (fun _ _=>rfl)))) (at3 (n3 8) i3 (fun _ _=>rfl)))) (za (new3 (cat3 (at3 (n3 8) i3 (fun _ _=>rfl)) (at3 (n3 8) i3 (fun _ _=>rfl)))) (za (new3 (cat3 (at3 (n3 8) i3 (fun _ _=>rfl)) (at3 (n3 8) i3 (fun _ _=>rfl)))) zb)))))) (n3 10) (fun _ _=>rfl)) (new3 (zp (za s3 zb))))))
      (zc (s_if (zl (jl hr.units) (df3 hE zjW (hr.mono (by decide)) rfl zi (za (n3 10) (za (at3 (n3 11) i3 (fun _ _=>rfl)) (za (at3 (n3 11) i3 (fun _ _=>rfl)) (za (at3 (n3 11) i3 (fun _ _=>rfl)) (za (n3 6) zb)))))) (at3 (n3 12) i3 (fun _ _=>rfl)) (nomark _)) (zd (zj b3)) zn)
      (zd (s_if (zl (jl hr.units) (n3 11) (new3 (zp (za (n3 1) (za (n3 5) (za (n3 4) zb))))) (nomark _)) (zd (zj b3)) zn))))))
    (zd (zj b3))))))))))))))))),fun ds Q h=>?_⟩
  obtain⟨ns,rfl,h63,q⟩:=h;refine zk fun N hN=>?_
  walk_at "rd"
  refine⟨ns,rfl,by decide,by decide,fun l hok _=>hN _ ?_⟩
  clear hN N;have hm:=JI hok;have htn:=jC fun s hs=>(hok.2.1 s hs).1
  have h60:=hok.2.2;have hql:=zbJ hok (zm l);have hqr:∀ r∈quoB (zm l) l,r.length=many l:=fun r hr=>Za hok hr
  have hpp:=zcW hok;have hpb:=zbT hok;have ht1:1≤tot l:=by
    obtain⟨x,hx⟩:=List.exists_mem_of_length_pos (l:=l) (by have:=hok.1;omega)
    have h1:=zbp (fun t ht=>(hok.2.1 t ht).1) hx
    have h2:=(hok.2.1 x hx).1
    omega
  refine zk fun N hN=>?_
  walk_at "rd"
  refine⟨l,rfl,hok,hN _ ?_⟩
  clear hN N;refine zk fun N hN=>?_
  walk_at "rd"
  refine⟨ns,rfl,by decide,fun v=>⟨quoB (zm l) l,rfl,many l,hm.1,hm.2,by omega,by omega,hqr,fun row hrow hall=>hN _ ?_⟩⟩
  clear hN N;have hokr:zT (many l) (tot l).toNat row:=⟨by omega,hall⟩
  have hd0:atI ((quoB (zm l) l).map dI) 0=some (PyData.list (((quoB (zm l) l)[0]'(by omega)).map PyData.int)):=Zv (i:=0) (by omega)
  have h0n:(List.map PyData.int ((quoB (zm l) l)[0]'(by omega))).length=many l:=by rw [List.length_map];exact hqr _ (List.getElem_mem _)
  refine zk fun N hN=>?_
  walk_at "rd hd0 h0n"
  refine⟨ns,rfl,by decide,fun v2=>⟨many l,rfl,hm.2,fun bs hB ho=>hN _ ?_⟩⟩
  clear hN N;refine zk fun N hN=>?_
  walk_at "rd"
  refine⟨ns,rfl,by decide,fun vf=>⟨by decide,hN _ ?_⟩⟩
  clear hN N;have hf6:1≤1+vf%5∧1+vf%5≤5:=by omega
  generalize 1+vf%5=ft at hf6 ⊢;refine zk fun N hN=>?_
  walk_at "rd atI0 atI1"
  refine⟨by decide,Bits.lit (x:=6) 9000,hN _ ?_⟩
  clear hN N;have sm:∀ x:Int,-(10 ^ 15)≤x→x≤10 ^ 15→Bits 1100 x:=fun x h h'=>Bits.lit (x:=x) 1100 (by omega)
  obtain⟨r0,hr0,hro,hrd⟩:∃ r:Rat2,dR ft 6=dQ r∧okQ r∧(0<r.1∧r.1≤10*r.2):=by
    refine⟨lowQ ft 6,rfl,zaH (by decide) (sm _ (by omega) (by omega)) (sm _ (by omega) (by omega)),(zcP (by decide)).mpr ⟨by omega,by omega⟩⟩
  rw [hr0];clear hr0;refine zk fun N hN=>?_
  walk_at "rd"
  refine⟨ns,rfl,by decide,fun cc=>hN _ ?_⟩
  clear hN N;refine zk fun N hN=>?_
  walk_at "rd"
  refine hN _ ?_
  clear hN N;refine jf (fun ρ'=>∃ t8:Option L3.Cl,ρ'=[some (.sh false (.list (ns.map .int))),some (.sh true (.list (l.map dS))),some (.sh true (.int (zm l))),some (.sh true (.list ((quoB (zm l) l).map dI))),some (.sh true (.list (row.map .int))),some (.sh true (.list (bs.map dP))),some (.sh true (dQ r0)),some (.sh true (.int cc)),some (.ow true ((List.range 4).map (dueD cc))),t8,none,none,none]) (fun N hN=>?_) ?_
  · walk_at "rd"
    refine⟨by decide,by decide,?_⟩
    refine ji (n:=4) (fun k ρ=>∃ t8:Option L3.Cl,ρ = [some (.sh false (.list (ns.map .int))),some (.sh true (.list (l.map dS))),some (.sh true (.int (zm l))),some (.sh true (.list ((quoB (zm l) l).map dI))),some (.sh true (.list (row.map .int))),some (.sh true (.list (bs.map dP))),some (.sh true (dQ r0)),some (.sh true (.int cc)),some (.ow true ((List.range k).map (dueD cc))),t8,none,none,none]) ?_ ?_ ⟨none,rfl⟩
    · rintro k ρ hk ⟨t8,rfl⟩ W hW
      walk_at "rd bitAnd_m1"
      have ek:((0:Int)+(k:Int)).toNat=k:=by omega
      have h2:0≤cc/2 ^ k%2∧cc/2 ^ k%2<2:=by omega
      rw [ek];have hat:atI [PyData.str "spell", PyData.str "bounds", PyData.str "row", PyData.str "distance"] ((0:Int)+(k:Int))=some (PyData.str (tx4 k)):=by
        rcases(show k=0∨k=1∨k=2∨k=3 by omega) with rfl|rfl|rfl|rfl<;>rfl
      refine⟨_,hat,by omega,by omega,by omega,Nat.le_trans (show _≤1 by omega) (by decide),Nat.lt_of_lt_of_le (show _<100 by simp;omega) (by decide),hW _ ⟨some (.sh true (.int (0+(k:Int)))),?_⟩⟩
      rw [List.range_succ,List.map_append];rfl
    · rintro ρ ⟨t8,rfl⟩
      exact hN _ ⟨_,rfl⟩
  rintro ρ ⟨t8,rfl⟩
  rw [zeX];generalize decide (cc/2 ^ 0%2=1)=b0;generalize decide (cc/2 ^ 1%2=1)=b1;generalize decide (cc/2 ^ 2%2=1)=b2;generalize decide (cc/2 ^ 3%2=1)=b3;refine zk fun N hN=>?_
  walk_at "rd"
  refine⟨divP,hN _ ?_⟩
  clear hN N;generalize cc/16=cc;have a2:∀ {α : Type} {x y z u:α},atI [x,y,z,u] 2=some z:=rfl;have a3:∀ {α : Type} {x y z u:α},atI [x,y,z,u] 3=some u:=rfl;have nn:∀ b t,PyData.eqv (.list (dl b t)) (.list []) = !b:=fun b t=>by cases b<;>rfl
  have s0:SeqAt.shaped (.list (dl b0 "spell"))=true:=by cases b0<;>decide +kernel
  have s1:SeqAt.shaped (.list (dl b1 "bounds"))=true:=by cases b1<;>decide +kernel
  have s2:SeqAt.shaped (.list (dl b2 "row"))=true:=by cases b2<;>decide +kernel
  have s3':SeqAt.shaped (.list (dl b3 "distance"))=true:=by cases b3<;>decide +kernel
  have se:SeqAt.shaped (.list [])=true:=by decide +kernel
  refine jf (fun ρ'=>∃ (f:Bool) (bs':List (Rat2×Rat2)),ρ'=[some (.sh false (.list (ns.map .int))),some (.sh true (.list (l.map dS))),some (.sh true (.int (zm l))),some (.sh true (.list ((quoB (zm l) l).map dI))),some (.sh true (.list (row.map .int))),some (.sh f (.list (bs'.map dP))),some (.sh true (dQ r0)),some (.sh true (.int cc)),some (.ow true [.list (dl b0 "spell"),.list (dl b1 "bounds"),.list (dl b2 "row"),.list (dl b3 "distance")]),t8,none,none,none]∧(okB (many l) bs'↔b1=false)∧(∀ p∈bs',okQ p.1∧okQ p.2)∧bs'.length≤100) (fun N hN=>?_) ?_
  · walk_at "rd atI1 nn s1 se"
    refine ite2 (fun e=>⟨bs,rfl,many l,hB,hm.1,hm.2,ho,fun f l' h1 h2 h3=>hN _ ⟨_,l',rfl,⟨fun z=>absurd z h1,fun z=>by rw [z] at e;cases e⟩,h2,h3⟩⟩) fun e=>hN _ ⟨_,bs,rfl,⟨fun _=>by cases b1<;>simp at e ⊢,fun _=>hB⟩,ho,by have:=hB.1;omega⟩
  rintro ρ ⟨f1,bs',rfl,hB',ho',hb'⟩
  refine jf (fun ρ'=>∃ (f2:Bool) (row':List Int),ρ'=[some (.sh false (.list (ns.map .int))),some (.sh true (.list (l.map dS))),some (.sh true (.int (zm l))),some (.sh true (.list ((quoB (zm l) l).map dI))),some (.sh f2 (.list (row'.map .int))),some (.sh f1 (.list (bs'.map dP))),some (.sh true (dQ r0)),some (.sh true (.int cc)),some (.ow true [.list (dl b0 "spell"),.list (dl b1 "bounds"),.list (dl b2 "row"),.list (dl b3 "distance")]),t8,none,none,none]∧(zT (many l) (tot l).toNat row'↔b2=false)∧row'.length≤100) (fun N hN=>?_) ?_
  · walk_at "rd a2 nn s2 se hd0 h0n"
    refine ite2 (fun e=>⟨divP,row,rfl,many l,rfl,(tot l).toNat,hokr,by omega,by omega,fun f l' h1 h2=>hN _ ⟨_,l',rfl,⟨fun z=>absurd z h1,fun z=>by rw [z] at e;cases e⟩,h2⟩⟩) fun e=>hN _ ⟨_,row,rfl,⟨fun _=>by cases b2<;>simp at e ⊢,fun _=>hokr⟩,by have:=hokr.1;omega⟩
  rintro ρ ⟨f2,row',rfl,hR',hr'⟩
  refine jf (fun ρ'=>∃ r:Rat2,ρ'=[some (.sh false (.list (ns.map .int))),some (.sh true (.list (l.map dS))),some (.sh true (.int (zm l))),some (.sh true (.list ((quoB (zm l) l).map dI))),some (.sh f2 (.list (row'.map .int))),some (.sh f1 (.list (bs'.map dP))),some (.sh true (dQ r)),some (.sh true (.int cc)),some (.ow true [.list (dl b0 "spell"),.list (dl b1 "bounds"),.list (dl b2 "row"),.list (dl b3 "distance")]),t8,none,none,none]∧((0<r.1∧r.1≤10*r.2)↔b3=false)∧okQ r) (fun N hN=>?_) ?_
  · refine zhZ fun Y M hY hM=>?_
    walk_at "rd a3 nn s3' se"
    refine ite2 (fun e=>hY ?_) fun e=>hM ?_
    · have far:∀ a b:Int,0<b→(a≤0∨10*b<a)→-(10 ^ 15)≤a→a≤10 ^ 15→b≤10 ^ 15→∃ r:Rat2,dR a b=dQ r∧((0<r.1∧r.1≤10*r.2)↔b3=false)∧okQ r:=fun a b h h1 h2 h3 h4=>⟨lowQ a b,rfl,⟨fun z=>absurd ((zcP h).mp z) (by omega),fun z=>by rw [z] at e;cases e⟩,zaH h (sm _ h2 h3) (sm _ (by omega) h4)⟩
      refine zk fun N2 hN2=>?_
      walk_at "rd"
      refine⟨by decide,divP,by decide,by omega,Bits.lit (x:=1+cc/3%9) 9000 (by omega),hN2 _ ?_⟩
      clear hN2 N2;obtain⟨r,er,hr1,hr2⟩:=far (-(cc%3)) (1+cc/3%9) (by omega) (by omega) (by omega) (by omega) (by omega)
      rw [er];have h9:=Int.emod_nonneg (cc/54) (show(10 ^ Int.toNat 9:Int)≠0 by decide)
      have h9':=Int.emod_lt_of_pos (cc/54) (show(0:Int)<10 ^ Int.toNat 9 by decide)
      have e9:(10 ^ Int.toNat 9:Int)=10 ^ 9:=rfl;obtain⟨r2,er2,hq1,hq2⟩:=far (10*(1+cc/54%10 ^ Int.toNat 9)+1) (1+cc/54%10 ^ Int.toNat 9) (by omega) (by omega) (by omega) (by omega) (by omega)
      have c9:jP 10 9:=powB (k:=4) (by unfold Bits;decide) (by decide) (by decide)
      walk_at "rd"
      rw [er2];have hy:1≤1+cc/54%10 ^ Int.toNat 9∧1+cc/54%10 ^ Int.toNat 9≤10 ^ 9:=by omega
      clear er2 h9 h9' e9;generalize 1+cc/54%10 ^ Int.toNat 9=y at hy ⊢;exact⟨divP,by decide,ite2 (fun _=>⟨divP,c9,by decide,(Bits.lit (x:=10) 64).mulOk (Bits.lit (x:=y) 64 (by omega)) (by decide),divP,c9,by decide,by omega,Bits.lit (x:=y) 9000 (by omega),hN _ ⟨r2,rfl,hq1,hq2⟩⟩) fun _=>hN _ ⟨r,rfl,hr1,hr2⟩⟩
    · walk_at "rd"
      exact hN _ ⟨r0,rfl,⟨fun _=>by cases b3<;>simp at e ⊢,fun _=>hrd⟩,hro⟩
  rintro ρ ⟨r,rfl,hD',hr⟩
  refine jf (fun ρ'=>∃ (f4:Bool) (l':List Spell),ρ'=[some (.sh false (.list (ns.map .int))),some (.sh f4 (.list (l'.map dS))),some (.sh true (.int (zm l))),some (.sh true (.list ((quoB (zm l) l).map dI))),some (.sh f2 (.list (row'.map .int))),some (.sh f1 (.list (bs'.map dP))),some (.sh true (dQ r)),some (.sh true (.int cc)),some (.ow true [.list (dl b0 "spell"),.list (dl b1 "bounds"),.list (dl b2 "row"),.list (dl b3 "distance")]),t8,none,none,none]∧(b0=true→¬okS l')∧(b0=false→l'=l)∧l'.length≤100) (fun N hN=>?_) ?_
  · walk_at "rd atI0 nn s0 se"
    refine ite2 (fun e=>⟨divP,l,rfl,hok,fun f l' h1 h2=>hN _ ⟨_,l',rfl,fun _=>h1,(fun z=>by rw [z] at e;cases e),h2⟩⟩) fun e=>hN _ ⟨_,l,rfl,(fun z=>by rw [z] at e;simp at e),fun _=>rfl,by have:=hok.1;omega⟩
  rintro ρ ⟨f4,l',rfl,hS1,hS2,hl'⟩
  obtain⟨an0,an1,an2,an3⟩:=zhA (l:=l) (l':=l') (bs:=bs') (row:=row') (r:=r) hok hS1 hS2 hB' hR' hD';clear hB' hR' hD' hS1 hS2 hd0 h0n hqr hB hokr;refine zk fun N hN=>?_
  walk_at "rd"
  refine⟨by decide,by decide,?_⟩
  refine ji (n:=4) (fun k ρ=>∃ t10 t11 t12:Option L3.Cl,ρ = [some (.sh false (.list (ns.map .int))),some (.sh f4 (.list (l'.map dS))),some (.sh true (.int (zm l))),some (.sh true (.list ((quoB (zm l) l).map dI))),some (.sh f2 (.list (row'.map .int))),some (.sh f1 (.list (bs'.map dP))),some (.sh true (dQ r)),some (.sh true (.int cc)),some (.ow true [.list (dl b0 "spell"),.list (dl b1 "bounds"),.list (dl b2 "row"),.list (dl b3 "distance")]),t8,t10,t11,t12]) ?_ ?_ ⟨none,none,none,rfl⟩
  · rintro k ρ hk ⟨t10,t11,t12,rfl⟩ W hW
    simp only [gn3,List.set_cons_zero,List.set_cons_succ,zy,Bool.or_true];refine zk fun N hN=>?_
    walk_at "rd"
    refine⟨sz (by rw [List.length_map];omega),?_⟩
    refine zZ dS dS (fun ρ=>∃ t u,ρ = [t,u]) l' ?_ _ _ _ _ ⟨none,none,rfl⟩ ?_
    · rintro s hs ρ fa acc K ⟨t,u,rfl⟩ kk
      walk_at "rd"
      exact kk _ ⟨_,_,rfl⟩
    refine hN _ ?_
    clear hN N;rw [List.nil_append];refine jf (fun ρ'=>∃ (f5 f6:Bool) (rest:List D),ρ'=[some (.sh false (.list (ns.map .int))),some (.sh f4 (.list (l'.map dS))),some (.sh true (.int (zm l))),some (.sh true (.list ((quoB (zm l) l).map dI))),some (.sh f2 (.list (row'.map .int))),some (.sh f1 (.list (bs'.map dP))),some (.sh true (dQ r)),some (.sh true (.int cc)),some (.ow true [.list (dl b0 "spell"),.list (dl b1 "bounds"),.list (dl b2 "row"),.list (dl b3 "distance")]),t8,some (.sh true (.int (0+k))),some (.sh f5 (.list [.list (l'.map dS),.list (bs'.map dP),.list (row'.map .int)])),some (.sh f6 (.list (.str (ansL l' bs' row' r (0+k))::rest)))]) (fun N hN=>?_) ?_
    · walk_at "rd atI0 atI1 a2 a3"
      have dll:∀ b t,(dl b t).length≤1:=fun b t=>by cases b<;>simp [dl]
      have y0:=dll b0 "spell";have y1:=dll b1 "bounds";have y2:=dll b2 "row";have y3:=dll b3 "distance";have sl:∀ n:Nat,n≤9→n≤sizeLine:=fun n h=>Nat.le_trans h (by decide)
      refine⟨sl _ (by omega),sl _ (by omega),sl _ (by rw [List.length_append];omega),sl _ (by omega),sl _ (by omega),?_⟩
      rcases(show k=0∨k=1∨k=2∨k=3 by omega) with rfl|rfl|rfl|rfl
      · obtain⟨rest,e⟩:=zbs "spell" "row" b0 b2
        exact⟨_,rfl,_,rfl,sl _ (by rw [List.length_append];omega),hN _ ⟨_,_,rest,by rw [e,←an0];rfl⟩⟩
      · obtain⟨rest,e⟩:=zi7 "spell" "bounds" "row" b0 b1 b2
        exact⟨_,rfl,_,rfl,sl _ (by rw [List.length_append,List.length_append];omega),hN _ ⟨_,_,rest,by rw [e,←an1];rfl⟩⟩
      · obtain⟨rest,e⟩:=zbs "spell" "bounds" b0 b1
        exact⟨_,rfl,_,rfl,sl _ (by rw [List.length_append];omega),hN _ ⟨_,_,rest,by rw [e,←an2];rfl⟩⟩
      · obtain⟨rest,e⟩:=zbs "spell" "distance" b0 b3
        exact⟨_,rfl,_,rfl,sl _ (by rw [List.length_append];omega),hN _ ⟨_,_,rest,by rw [e,←an3];rfl⟩⟩
    rintro ρ ⟨f5,f6,rest,rfl⟩
    have a2':∀ {α : Type} {x y z:α},atI [x,y,z] 2=some z:=rfl;refine zk fun N hN=>?_
    walk_at "rd atI0 atI1 a2'"
    refine⟨l',rfl,bs',rfl,row',rfl,r,rfl,rfl,by omega,ho',hr,?_⟩
    rw [if_neg (fun z=>z rfl)]
    refine hN _ ?_
    clear hN N;have hph:Plain 4 (.list [.list (l'.map dS),.list (bs'.map dP),.list (row'.map PyData.int)]):=Plain.list fun d hd=>by
      rcases List.mem_cons.mp hd with rfl|hd
      · exact zdb l'
      · rcases List.mem_cons.mp hd with rfl|hd
        · exact zfe bs'
        · rw [List.mem_singleton.mp hd];exact(zcf row').mono (by decide)
    have hev:PyData.eqv (.list [.list (l'.map dS),.list (bs'.map dP),.list (row'.map PyData.int)]) (.list [.list (l'.map dS),.list (bs'.map dP),.list (row'.map PyData.int)])=true:=zcX hph.1;have hsh:SeqAt.shaped (.list [.list (l'.map dS),.list (bs'.map dP),.list (row'.map PyData.int)])=true:=hph.shaped (by decide)
    walk_at "rd hev hsh"
    exact hW _ ⟨_,_,_,rfl⟩
  · rintro ρ ⟨t10,t11,t12,rfl⟩
    refine hN _ ?_
    walk_at "rd"
    exact q
end
theorem zjy {K:PySem.W.Frag} {h:Heap} {mg:Str→Option Value} (X:K.In h) (G:h.Ns mainGlobals mg)
    {f0 f1 f2 f3 f4 f5 f6 f7 f8 f9 f10 f11 f12 f13 f14 f15 f16 f17 f18 f19 f20 f21 f22 f23 f24 f25 f26 f27 f28 f29 f30 f31 f32 f33 f34 f35 f36 f37:Addr}
    {od0 an0 od1 an1 od2 an2 od3 an3 od4 an4 od5 an5 od6 an6 od7 an7 od8 an8 od9 an9 od10 an10 od11 an11 od12 an12 od13 an13 od14 an14 od15 an15 od16 an16 od17 an17 od18 an18 od19 an19 od20 an20 od21 an21 od22 an22 od23 an23 od24 an24 od25 an25 od26 an26 od27 an27 od28 an28 od29 an29 od30 an30 od31 an31 od32 an32 od33 an33 od34 an34 od35 an35 od36 an36 od37 an37:Option Addr}
    {sl0 sl1 sl2 sl3 sl4 sl5 sl6 sl7 sl8 sl9 sl10 sl11 sl12 sl13 sl14 sl15 sl16 sl17 sl18 sl19 sl20 sl21 sl22 sl23 sl24 sl25 sl26 sl27 sl28 sl29 sl30 sl31 sl32 sl33 sl34 sl35 sl36 sl37:Array (Option Value)}
    {oc0 kV0 dc0 pm0 ct0 cd0 oc1 kV1 dc1 pm1 ct1 cd1 oc2 kV2 dc2 pm2 ct2 cd2 oc3 kV3 dc3 pm3 ct3 cd3 oc4 kV4 dc4 pm4 ct4 cd4 oc5 kV5 dc5 pm5 ct5 cd5 oc6 kV6 dc6 pm6 ct6 cd6 oc7 kV7 dc7 pm7 ct7 cd7 oc8 kV8 dc8 pm8 ct8 cd8 oc9 kV9 dc9 pm9 ct9 cd9 oc10 kV10 dc10 pm10 ct10 cd10 oc11 kV11 dc11 pm11 ct11 cd11 oc12 kV12 dc12 pm12 ct12 cd12 oc13 kV13 dc13 pm13 ct13 cd13 oc14 kV14 dc14 pm14 ct14 cd14 oc15 kV15 dc15 pm15 ct15 cd15 oc16 kV16 dc16 pm16 ct16 cd16 oc17 kV17 dc17 pm17 ct17 cd17 oc18 kV18 dc18 pm18 ct18 cd18 oc19 kV19 dc19 pm19 ct19 cd19 oc20 kV20 dc20 pm20 ct20 cd20 oc21 kV21 dc21 pm21 ct21 cd21 oc22 kV22 dc22 pm22 ct22 cd22 oc23 kV23 dc23 pm23 ct23 cd23 oc24 kV24 dc24 pm24 ct24 cd24 oc25 kV25 dc25 pm25 ct25 cd25 oc26 kV26 dc26 pm26 ct26 cd26 oc27 kV27 dc27 pm27 ct27 cd27 oc28 kV28 dc28 pm28 ct28 cd28 oc29 kV29 dc29 pm29 ct29 cd29 oc30 kV30 dc30 pm30 ct30 cd30 oc31 kV31 dc31 pm31 ct31 cd31 oc32 kV32 dc32 pm32 ct32 cd32 oc33 kV33 dc33 pm33 ct33 cd33 oc34 kV34 dc34 pm34 ct34 cd34 oc35 kV35 dc35 pm35 ct35 cd35 oc36 kV36 dc36 pm36 ct36 cd36 oc37 kV37 dc37 pm37 ct37 cd37:Value}
    {c_ClanError:Addr}
    {c_NoRatio:Addr}
    {c_NoText:Addr}
    {c_NoSpell:Addr}
    {c_NoRow:Addr}
    {c_NoBounds:Addr}
    {c_NoDistance:Addr}
    {c_NoClan:Addr}
    {c_TooLong:Addr}
    {c_NoRule:Addr}
    {c_NoLine:Addr}
    {c_NoNumber:Addr}
    {c_NoName:Addr}
    {c_Known:Addr}
    {c_TooMany:Addr}
    {t_LEAST_BOUND:Addr} {od_LEAST_BOUND:Option Addr} {n_LEAST_BOUND:Nat} {sl_LEAST_BOUND:Array (Option Value)} {u0_LEAST_BOUND u1_LEAST_BOUND:Tok}
    {t_MOST_BOUND:Addr} {od_MOST_BOUND:Option Addr} {n_MOST_BOUND:Nat} {sl_MOST_BOUND:Array (Option Value)} {u0_MOST_BOUND u1_MOST_BOUND:Tok}
    {t_MOST_SPELLS:Tok}
    {t_MOST_CLANS:Tok}
    {t_MOST_TURNS:Tok}
    (a0:PySem.W.nsIn K mainGlobals "_law_cell_at" = some (some (.ref f0)))
    (l0:K.lookup f0=some ⟨oc0,od0,.func (PySem.W.fnOf "_law_cell_at" "_law_cell_at" (zu Jv) (zq Jv) (ze Jv) .none kV0 dc0 pm0 an0 cd0 ct0),sl0⟩)
    (c0:PySem.W.codeIn K cd0 "_law_cell_at" = true)
    (k0:PySem.W.keepIn K (.ref f0)=true)
    (a1:PySem.W.nsIn K mainGlobals "_law_mixed" = some (some (.ref f1)))
    (l1:K.lookup f1=some ⟨oc1,od1,.func (PySem.W.fnOf "_law_mixed" "_law_mixed" (zu Jr) (zq Jr) (ze Jr) .none kV1 dc1 pm1 an1 cd1 ct1),sl1⟩)
    (c1:PySem.W.codeIn K cd1 "_law_mixed" = true)
    (k1:PySem.W.keepIn K (.ref f1)=true)
    (a2:PySem.W.nsIn K mainGlobals "_law_wide" = some (some (.ref f2)))
    (l2:K.lookup f2=some ⟨oc2,od2,.func (PySem.W.fnOf "_law_wide" "_law_wide" (zu Jq) (zq Jq) (ze Jq) .none kV2 dc2 pm2 an2 cd2 ct2),sl2⟩)
    (c2:PySem.W.codeIn K cd2 "_law_wide" = true)
    (k2:PySem.W.keepIn K (.ref f2)=true)
    (a3:PySem.W.nsIn K mainGlobals "_law_spells" = some (some (.ref f3)))
    (l3:K.lookup f3=some ⟨oc3,od3,.func (PySem.W.fnOf "_law_spells" "_law_spells" (zu Jw) (zq Jw) (ze Jw) .none kV3 dc3 pm3 an3 cd3 ct3),sl3⟩)
    (c3:PySem.W.codeIn K cd3 "_law_spells" = true)
    (k3:PySem.W.keepIn K (.ref f3)=true)
    (a4:PySem.W.nsIn K mainGlobals "_law_quotas" = some (some (.ref f4)))
    (l4:K.lookup f4=some ⟨oc4,od4,.func (PySem.W.fnOf "_law_quotas" "_law_quotas" (zu jK) (zq jK) (ze jK) .none kV4 dc4 pm4 an4 cd4 ct4),sl4⟩)
    (c4:PySem.W.codeIn K cd4 "_law_quotas" = true)
    (k4:PySem.W.keepIn K (.ref f4)=true)
    (a5:PySem.W.nsIn K mainGlobals "_law_row" = some (some (.ref f5)))
    (l5:K.lookup f5=some ⟨oc5,od5,.func (PySem.W.fnOf "_law_row" "_law_row" (zu jv) (zq jv) (ze jv) .none kV5 dc5 pm5 an5 cd5 ct5),sl5⟩)
    (c5:PySem.W.codeIn K cd5 "_law_row" = true)
    (k5:PySem.W.keepIn K (.ref f5)=true)
    (a6:PySem.W.nsIn K mainGlobals "_law_ratio" = some (some (.ref f6)))
    (l6:K.lookup f6=some ⟨oc6,od6,.func (PySem.W.fnOf "_law_ratio" "_law_ratio" (zu JC) (zq JC) (ze JC) .none kV6 dc6 pm6 an6 cd6 ct6),sl6⟩)
    (c6:PySem.W.codeIn K cd6 "_law_ratio" = true)
    (k6:PySem.W.keepIn K (.ref f6)=true)
    (a7:PySem.W.nsIn K mainGlobals "_law_bounds" = some (some (.ref f7)))
    (l7:K.lookup f7=some ⟨oc7,od7,.func (PySem.W.fnOf "_law_bounds" "_law_bounds" (zu j6) (zq j6) (ze j6) .none kV7 dc7 pm7 an7 cd7 ct7),sl7⟩)
    (c7:PySem.W.codeIn K cd7 "_law_bounds" = true)
    (k7:PySem.W.keepIn K (.ref f7)=true)
    (a8:PySem.W.nsIn K mainGlobals "_law_no_bounds" = some (some (.ref f8)))
    (l8:K.lookup f8=some ⟨oc8,od8,.func (PySem.W.fnOf "_law_no_bounds" "_law_no_bounds" (zu JD) (zq JD) (ze JD) .none kV8 dc8 pm8 an8 cd8 ct8),sl8⟩)
    (c8:PySem.W.codeIn K cd8 "_law_no_bounds" = true)
    (k8:PySem.W.keepIn K (.ref f8)=true)
    (a9:PySem.W.nsIn K mainGlobals "_law_no_row" = some (some (.ref f9)))
    (l9:K.lookup f9=some ⟨oc9,od9,.func (PySem.W.fnOf "_law_no_row" "_law_no_row" (zu j5) (zq j5) (ze j5) .none kV9 dc9 pm9 an9 cd9 ct9),sl9⟩)
    (c9:PySem.W.codeIn K cd9 "_law_no_row" = true)
    (k9:PySem.W.keepIn K (.ref f9)=true)
    (a10:PySem.W.nsIn K mainGlobals "_law_no_spells" = some (some (.ref f10)))
    (l10:K.lookup f10=some ⟨oc10,od10,.func (PySem.W.fnOf "_law_no_spells" "_law_no_spells" (zu jo) (zq jo) (ze jo) .none kV10 dc10 pm10 an10 cd10 ct10),sl10⟩)
    (c10:PySem.W.codeIn K cd10 "_law_no_spells" = true)
    (k10:PySem.W.keepIn K (.ref f10)=true)
    (a11:PySem.W.nsIn K mainGlobals "check_weights" = some (some (.ref f11)))
    (l11:K.lookup f11=some ⟨oc11,od11,.func (PySem.W.fnOf "check_weights" "check_weights" (zu j9) (zq j9) (ze j9) .none kV11 dc11 pm11 an11 cd11 ct11),sl11⟩)
    (c11:PySem.W.codeIn K cd11 "check_weights" = true)
    (k11:PySem.W.keepIn K (.ref f11)=true)
    (a12:PySem.W.nsIn K mainGlobals "all_turns" = some (some (.ref f12)))
    (l12:K.lookup f12=some ⟨oc12,od12,.func (PySem.W.fnOf "all_turns" "all_turns" (zu jR) (zq jR) (ze jR) .none kV12 dc12 pm12 an12 cd12 ct12),sl12⟩)
    (c12:PySem.W.codeIn K cd12 "all_turns" = true)
    (k12:PySem.W.keepIn K (.ref f12)=true)
    (a13:PySem.W.nsIn K mainGlobals "check_spells" = some (some (.ref f13)))
    (l13:K.lookup f13=some ⟨oc13,od13,.func (PySem.W.fnOf "check_spells" "check_spells" (zu j1) (zq j1) (ze j1) .none kV13 dc13 pm13 an13 cd13 ct13),sl13⟩)
    (c13:PySem.W.codeIn K cd13 "check_spells" = true)
    (k13:PySem.W.keepIn K (.ref f13)=true)
    (a14:PySem.W.nsIn K mainGlobals "common_divisor" = some (some (.ref f14)))
    (l14:K.lookup f14=some ⟨oc14,od14,.func (PySem.W.fnOf "common_divisor" "common_divisor" (zu Jc) (zq Jc) (ze Jc) .none kV14 dc14 pm14 an14 cd14 ct14),sl14⟩)
    (c14:PySem.W.codeIn K cd14 "common_divisor" = true)
    (k14:PySem.W.keepIn K (.ref f14)=true)
    (a15:PySem.W.nsIn K mainGlobals "divisor_of_all" = some (some (.ref f15)))
    (l15:K.lookup f15=some ⟨oc15,od15,.func (PySem.W.fnOf "divisor_of_all" "divisor_of_all" (zu JA) (zq JA) (ze JA) .none kV15 dc15 pm15 an15 cd15 ct15),sl15⟩)
    (c15:PySem.W.codeIn K cd15 "divisor_of_all" = true)
    (k15:PySem.W.keepIn K (.ref f15)=true)
    (a16:PySem.W.nsIn K mainGlobals "least_bottom" = some (some (.ref f16)))
    (l16:K.lookup f16=some ⟨oc16,od16,.func (PySem.W.fnOf "least_bottom" "least_bottom" (zu Js) (zq Js) (ze Js) .none kV16 dc16 pm16 an16 cd16 ct16),sl16⟩)
    (c16:PySem.W.codeIn K cd16 "least_bottom" = true)
    (k16:PySem.W.keepIn K (.ref f16)=true)
    (a17:PySem.W.nsIn K mainGlobals "shares_over" = some (some (.ref f17)))
    (l17:K.lookup f17=some ⟨oc17,od17,.func (PySem.W.fnOf "shares_over" "shares_over" (zu jQ) (zq jQ) (ze jQ) .none kV17 dc17 pm17 an17 cd17 ct17),sl17⟩)
    (c17:PySem.W.codeIn K cd17 "shares_over" = true)
    (k17:PySem.W.keepIn K (.ref f17)=true)
    (a18:PySem.W.nsIn K mainGlobals "quotas" = some (some (.ref f18)))
    (l18:K.lookup f18=some ⟨oc18,od18,.func (PySem.W.fnOf "quotas" "quotas" (zu jB) (zq jB) (ze jB) .none kV18 dc18 pm18 an18 cd18 ct18),sl18⟩)
    (c18:PySem.W.codeIn K cd18 "quotas" = true)
    (k18:PySem.W.keepIn K (.ref f18)=true)
    (a19:PySem.W.nsIn K mainGlobals "check_row" = some (some (.ref f19)))
    (l19:K.lookup f19=some ⟨oc19,od19,.func (PySem.W.fnOf "check_row" "check_row" (zu j7) (zq j7) (ze j7) .none kV19 dc19 pm19 an19 cd19 ct19),sl19⟩)
    (c19:PySem.W.codeIn K cd19 "check_row" = true)
    (k19:PySem.W.keepIn K (.ref f19)=true)
    (a20:PySem.W.nsIn K mainGlobals "leads" = some (some (.ref f20)))
    (l20:K.lookup f20=some ⟨oc20,od20,.func (PySem.W.fnOf "leads" "leads" (zu jA) (zq jA) (ze jA) .none kV20 dc20 pm20 an20 cd20 ct20),sl20⟩)
    (c20:PySem.W.codeIn K cd20 "leads" = true)
    (k20:PySem.W.keepIn K (.ref f20)=true)
    (a21:PySem.W.nsIn K mainGlobals "is_whole" = some (some (.ref f21)))
    (l21:K.lookup f21=some ⟨oc21,od21,.func (PySem.W.fnOf "is_whole" "is_whole" (zu JB) (zq JB) (ze JB) .none kV21 dc21 pm21 an21 cd21 ct21),sl21⟩)
    (c21:PySem.W.codeIn K cd21 "is_whole" = true)
    (k21:PySem.W.keepIn K (.ref f21)=true)
    (a22:PySem.W.nsIn K mainGlobals "ratio" = some (some (.ref f22)))
    (l22:K.lookup f22=some ⟨oc22,od22,.func (PySem.W.fnOf "ratio" "ratio" (zu j4) (zq j4) (ze j4) .none kV22 dc22 pm22 an22 cd22 ct22),sl22⟩)
    (c22:PySem.W.codeIn K cd22 "ratio" = true)
    (k22:PySem.W.keepIn K (.ref f22)=true)
    (a23:PySem.W.nsIn K mainGlobals "distance" = some (some (.ref f23)))
    (l23:K.lookup f23=some ⟨oc23,od23,.func (PySem.W.fnOf "distance" "distance" (zu JF) (zq JF) (ze JF) .none kV23 dc23 pm23 an23 cd23 ct23),sl23⟩)
    (c23:PySem.W.codeIn K cd23 "distance" = true)
    (k23:PySem.W.keepIn K (.ref f23)=true)
    (a24:PySem.W.nsIn K mainGlobals "less" = some (some (.ref f24)))
    (l24:K.lookup f24=some ⟨oc24,od24,.func (PySem.W.fnOf "less" "less" (zu Jt) (zq Jt) (ze Jt) .none kV24 dc24 pm24 an24 cd24 ct24),sl24⟩)
    (c24:PySem.W.codeIn K cd24 "less" = true)
    (k24:PySem.W.keepIn K (.ref f24)=true)
    (a25:PySem.W.nsIn K mainGlobals "check_bounds" = some (some (.ref f25)))
    (l25:K.lookup f25=some ⟨oc25,od25,.func (PySem.W.fnOf "check_bounds" "check_bounds" (zu Jl) (zq Jl) (ze Jl) .none kV25 dc25 pm25 an25 cd25 ct25),sl25⟩)
    (c25:PySem.W.codeIn K cd25 "check_bounds" = true)
    (k25:PySem.W.keepIn K (.ref f25)=true)
    (a26:PySem.W.nsIn K mainGlobals "room_at_most" = some (some (.ref f26)))
    (l26:K.lookup f26=some ⟨oc26,od26,.func (PySem.W.fnOf "room_at_most" "room_at_most" (zu Ja) (zq Ja) (ze Ja) .none kV26 dc26 pm26 an26 cd26 ct26),sl26⟩)
    (c26:PySem.W.codeIn K cd26 "room_at_most" = true)
    (k26:PySem.W.keepIn K (.ref f26)=true)
    (a27:PySem.W.nsIn K mainGlobals "rooms_of" = some (some (.ref f27)))
    (l27:K.lookup f27=some ⟨oc27,od27,.func (PySem.W.fnOf "rooms_of" "rooms_of" (zu jW) (zq jW) (ze jW) .none kV27 dc27 pm27 an27 cd27 ct27),sl27⟩)
    (c27:PySem.W.codeIn K cd27 "rooms_of" = true)
    (k27:PySem.W.keepIn K (.ref f27)=true)
    (a28:PySem.W.nsIn K mainGlobals "keeps" = some (some (.ref f28)))
    (l28:K.lookup f28=some ⟨oc28,od28,.func (PySem.W.fnOf "keeps" "keeps" (zu Jx) (zq Jx) (ze Jx) .none kV28 dc28 pm28 an28 cd28 ct28),sl28⟩)
    (c28:PySem.W.codeIn K cd28 "keeps" = true)
    (k28:PySem.W.keepIn K (.ref f28)=true)
    (a29:PySem.W.nsIn K mainGlobals "first_turn" = some (some (.ref f29)))
    (l29:K.lookup f29=some ⟨oc29,od29,.func (PySem.W.fnOf "first_turn" "first_turn" (zu Jk) (zq Jk) (ze Jk) .none kV29 dc29 pm29 an29 cd29 ct29),sl29⟩)
    (c29:PySem.W.codeIn K cd29 "first_turn" = true)
    (k29:PySem.W.keepIn K (.ref f29)=true)
    (a30:PySem.W.nsIn K mainGlobals "window_of" = some (some (.ref f30)))
    (l30:K.lookup f30=some ⟨oc30,od30,.func (PySem.W.fnOf "window_of" "window_of" (zu j8) (zq j8) (ze j8) .none kV30 dc30 pm30 an30 cd30 ct30),sl30⟩)
    (c30:PySem.W.codeIn K cd30 "window_of" = true)
    (k30:PySem.W.keepIn K (.ref f30)=true)
    (a31:PySem.W.nsIn K mainGlobals "windows_of_clan" = some (some (.ref f31)))
    (l31:K.lookup f31=some ⟨oc31,od31,.func (PySem.W.fnOf "windows_of_clan" "windows_of_clan" (zu jZ) (zq jZ) (ze jZ) .none kV31 dc31 pm31 an31 cd31 ct31),sl31⟩)
    (c31:PySem.W.codeIn K cd31 "windows_of_clan" = true)
    (k31:PySem.W.keepIn K (.ref f31)=true)
    (a32:PySem.W.nsIn K mainGlobals "windows_within" = some (some (.ref f32)))
    (l32:K.lookup f32=some ⟨oc32,od32,.func (PySem.W.fnOf "windows_within" "windows_within" (zu j0) (zq j0) (ze j0) .none kV32 dc32 pm32 an32 cd32 ct32),sl32⟩)
    (c32:PySem.W.codeIn K cd32 "windows_within" = true)
    (k32:PySem.W.keepIn K (.ref f32)=true)
    (a33:PySem.W.nsIn K mainGlobals "windows" = some (some (.ref f33)))
    (l33:K.lookup f33=some ⟨oc33,od33,.func (PySem.W.fnOf "windows" "windows" (zu Ji) (zq Ji) (ze Ji) .none kV33 dc33 pm33 an33 cd33 ct33),sl33⟩)
    (c33:PySem.W.codeIn K cd33 "windows" = true)
    (k33:PySem.W.keepIn K (.ref f33)=true)
    (a34:PySem.W.nsIn K mainGlobals "room_less" = some (some (.ref f34)))
    (l34:K.lookup f34=some ⟨oc34,od34,.func (PySem.W.fnOf "room_less" "room_less" (zu JG) (zq JG) (ze JG) .none kV34 dc34 pm34 an34 cd34 ct34),sl34⟩)
    (c34:PySem.W.codeIn K cd34 "room_less" = true)
    (k34:PySem.W.keepIn K (.ref f34)=true)
    (a35:PySem.W.nsIn K mainGlobals "windows_less" = some (some (.ref f35)))
    (l35:K.lookup f35=some ⟨oc35,od35,.func (PySem.W.fnOf "windows_less" "windows_less" (zu jM) (zq jM) (ze jM) .none kV35 dc35 pm35 an35 cd35 ct35),sl35⟩)
    (c35:PySem.W.codeIn K cd35 "windows_less" = true)
    (k35:PySem.W.keepIn K (.ref f35)=true)
    (a36:PySem.W.nsIn K mainGlobals "_law_answer" = some (some (.ref f36)))
    (l36:K.lookup f36=some ⟨oc36,od36,.func (PySem.W.fnOf "_law_answer" "_law_answer" (zu Jm) (zq Jm) (ze Jm) .none kV36 dc36 pm36 an36 cd36 ct36),sl36⟩)
    (c36:PySem.W.codeIn K cd36 "_law_answer" = true)
    (k36:PySem.W.keepIn K (.ref f36)=true)
    (a37:PySem.W.nsIn K mainGlobals "law" = some (some (.ref f37)))
    (l37:K.lookup f37=some ⟨oc37,od37,.func (PySem.W.fnOf "law" "law" (zu jE) (zq jE) (ze jE) .none kV37 dc37 pm37 an37 cd37 ct37),sl37⟩)
    (c37:PySem.W.codeIn K cd37 "law" = true)
    (k37:PySem.W.keepIn K (.ref f37)=true)
    (m_ClanError:PySem.W.nsIn K mainGlobals "ClanError" = some (some (.ref c_ClanError)))
    (m_NoRatio:PySem.W.nsIn K mainGlobals "NoRatio" = some (some (.ref c_NoRatio)))
    (m_NoText:PySem.W.nsIn K mainGlobals "NoText" = some (some (.ref c_NoText)))
    (m_NoSpell:PySem.W.nsIn K mainGlobals "NoSpell" = some (some (.ref c_NoSpell)))
    (m_NoRow:PySem.W.nsIn K mainGlobals "NoRow" = some (some (.ref c_NoRow)))
    (m_NoBounds:PySem.W.nsIn K mainGlobals "NoBounds" = some (some (.ref c_NoBounds)))
    (m_NoDistance:PySem.W.nsIn K mainGlobals "NoDistance" = some (some (.ref c_NoDistance)))
    (m_NoClan:PySem.W.nsIn K mainGlobals "NoClan" = some (some (.ref c_NoClan)))
    (m_TooLong:PySem.W.nsIn K mainGlobals "TooLong" = some (some (.ref c_TooLong)))
    (m_NoRule:PySem.W.nsIn K mainGlobals "NoRule" = some (some (.ref c_NoRule)))
    (m_NoLine:PySem.W.nsIn K mainGlobals "NoLine" = some (some (.ref c_NoLine)))
    (m_NoNumber:PySem.W.nsIn K mainGlobals "NoNumber" = some (some (.ref c_NoNumber)))
    (m_NoName:PySem.W.nsIn K mainGlobals "NoName" = some (some (.ref c_NoName)))
    (m_Known:PySem.W.nsIn K mainGlobals "Known" = some (some (.ref c_Known)))
    (m_TooMany:PySem.W.nsIn K mainGlobals "TooMany" = some (some (.ref c_TooMany)))
    (e_NoSpell:PySem.W.excIn K c_NoSpell [.type "ValueError", .type "Exception", .type "BaseException", .type "object"] "ValueError.__new__" = true)
    (e_NoBounds:PySem.W.excIn K c_NoBounds [.type "ValueError", .type "Exception", .type "BaseException", .type "object"] "ValueError.__new__" = true)
    (e_NoRow:PySem.W.excIn K c_NoRow [.type "ValueError", .type "Exception", .type "BaseException", .type "object"] "ValueError.__new__" = true)
    (e_NoDistance:PySem.W.excIn K c_NoDistance [.type "ValueError", .type "Exception", .type "BaseException", .type "object"] "ValueError.__new__" = true)
    (e_NoRatio:PySem.W.excIn K c_NoRatio [.type "ValueError", .type "Exception", .type "BaseException", .type "object"] "ValueError.__new__" = true)
    (k_NoSpell:XAttr K c_NoSpell∧PySem.W.exmOne K (.ref c_NoSpell) (.ref c_ClanError)=some true∧PySem.W.kitAny K (.ref c_NoSpell) [.ref c_Known,.ref c_NoClan,.ref c_NoLine,.ref c_NoName,.ref c_NoNumber,.ref c_NoRatio,.ref c_NoRule,.ref c_NoText,.ref c_TooLong,.ref c_TooMany]=some false∧PySem.W.kitOne K (.ref c_NoSpell) (.ref c_NoSpell)=some true∧PySem.W.kitOne K (.ref c_NoSpell) (.ref c_NoBounds)=some false∧PySem.W.kitOne K (.ref c_NoSpell) (.ref c_NoRow)=some false∧PySem.W.kitOne K (.ref c_NoSpell) (.ref c_NoDistance)=some false∧PySem.W.kitOne K (.ref c_NoSpell) (.type "ValueError")=some true)
    (k_NoBounds:XAttr K c_NoBounds∧PySem.W.exmOne K (.ref c_NoBounds) (.ref c_ClanError)=some true∧PySem.W.kitAny K (.ref c_NoBounds) [.ref c_Known,.ref c_NoClan,.ref c_NoLine,.ref c_NoName,.ref c_NoNumber,.ref c_NoRatio,.ref c_NoRule,.ref c_NoText,.ref c_TooLong,.ref c_TooMany]=some false∧PySem.W.kitOne K (.ref c_NoBounds) (.ref c_NoSpell)=some false∧PySem.W.kitOne K (.ref c_NoBounds) (.ref c_NoBounds)=some true∧PySem.W.kitOne K (.ref c_NoBounds) (.ref c_NoRow)=some false∧PySem.W.kitOne K (.ref c_NoBounds) (.ref c_NoDistance)=some false∧PySem.W.kitOne K (.ref c_NoBounds) (.type "ValueError")=some true)
    (k_NoRow:XAttr K c_NoRow∧PySem.W.exmOne K (.ref c_NoRow) (.ref c_ClanError)=some true∧PySem.W.kitAny K (.ref c_NoRow) [.ref c_Known,.ref c_NoClan,.ref c_NoLine,.ref c_NoName,.ref c_NoNumber,.ref c_NoRatio,.ref c_NoRule,.ref c_NoText,.ref c_TooLong,.ref c_TooMany]=some false∧PySem.W.kitOne K (.ref c_NoRow) (.ref c_NoSpell)=some false∧PySem.W.kitOne K (.ref c_NoRow) (.ref c_NoBounds)=some false∧PySem.W.kitOne K (.ref c_NoRow) (.ref c_NoRow)=some true∧PySem.W.kitOne K (.ref c_NoRow) (.ref c_NoDistance)=some false∧PySem.W.kitOne K (.ref c_NoRow) (.type "ValueError")=some true)
    (k_NoDistance:XAttr K c_NoDistance∧PySem.W.exmOne K (.ref c_NoDistance) (.ref c_ClanError)=some true∧PySem.W.kitAny K (.ref c_NoDistance) [.ref c_Known,.ref c_NoClan,.ref c_NoLine,.ref c_NoName,.ref c_NoNumber,.ref c_NoRatio,.ref c_NoRule,.ref c_NoText,.ref c_TooLong,.ref c_TooMany]=some false∧PySem.W.kitOne K (.ref c_NoDistance) (.ref c_NoSpell)=some false∧PySem.W.kitOne K (.ref c_NoDistance) (.ref c_NoBounds)=some false∧PySem.W.kitOne K (.ref c_NoDistance) (.ref c_NoRow)=some false∧PySem.W.kitOne K (.ref c_NoDistance) (.ref c_NoDistance)=some true∧PySem.W.kitOne K (.ref c_NoDistance) (.type "ValueError")=some true)
    (n_ValueError:PySem.W.nsIn K mainGlobals "ValueError" = some none)
    (n_abs:PySem.W.nsIn K mainGlobals "abs" = some none)
    (n_bool:PySem.W.nsIn K mainGlobals "bool" = some none)
    (n_enumerate:PySem.W.nsIn K mainGlobals "enumerate" = some none)
    (n_int:PySem.W.nsIn K mainGlobals "int" = some none)
    (n_isinstance:PySem.W.nsIn K mainGlobals "isinstance" = some none)
    (n_len:PySem.W.nsIn K mainGlobals "len" = some none)
    (n_list:PySem.W.nsIn K mainGlobals "list" = some none)
    (n_max:PySem.W.nsIn K mainGlobals "max" = some none)
    (n_min:PySem.W.nsIn K mainGlobals "min" = some none)
    (n_range:PySem.W.nsIn K mainGlobals "range" = some none)
    (n_sum:PySem.W.nsIn K mainGlobals "sum" = some none)
    (n_zip:PySem.W.nsIn K mainGlobals "zip" = some none)
    (m_LEAST_BOUND:PySem.W.nsIn K mainGlobals "LEAST_BOUND" = some (some (.ref t_LEAST_BOUND)))
    (q_LEAST_BOUND:K.lookup t_LEAST_BOUND=some ⟨.type "tuple", od_LEAST_BOUND,.seq #[.int 0 u0_LEAST_BOUND,.int 1 u1_LEAST_BOUND] n_LEAST_BOUND,sl_LEAST_BOUND⟩)
    (m_MOST_BOUND:PySem.W.nsIn K mainGlobals "MOST_BOUND" = some (some (.ref t_MOST_BOUND)))
    (q_MOST_BOUND:K.lookup t_MOST_BOUND=some ⟨.type "tuple", od_MOST_BOUND,.seq #[.int 10 u0_MOST_BOUND,.int 1 u1_MOST_BOUND] n_MOST_BOUND,sl_MOST_BOUND⟩)
    (m_MOST_SPELLS:PySem.W.nsIn K mainGlobals "MOST_SPELLS" = some (some (.int 8 t_MOST_SPELLS)))
    (m_MOST_CLANS:PySem.W.nsIn K mainGlobals "MOST_CLANS" = some (some (.int 8 t_MOST_CLANS)))
    (m_MOST_TURNS:PySem.W.nsIn K mainGlobals "MOST_TURNS" = some (some (.int 60 t_MOST_TURNS))):∃ c:Law.Cl,Txt c K mg:=
  ⟨⟨c_ClanError,c_NoRatio,c_NoText,c_NoSpell,c_NoRow,c_NoBounds,c_NoDistance,c_NoClan,c_TooLong,c_NoRule,c_NoLine,c_NoNumber,c_NoName,c_Known,c_TooMany⟩,{
    d_law_cell_at:=⟨f0,_,zx (st:=Jv) l0 c0 k0,PySem.W.mg_of X G a0⟩,
    d_law_mixed:=⟨f1,_,zx (st:=Jr) l1 c1 k1,PySem.W.mg_of X G a1⟩,
    d_law_wide:=⟨f2,_,zx (st:=Jq) l2 c2 k2,PySem.W.mg_of X G a2⟩,
    d_law_spells:=⟨f3,_,zx (st:=Jw) l3 c3 k3,PySem.W.mg_of X G a3⟩,
    d_law_quotas:=⟨f4,_,zx (st:=jK) l4 c4 k4,PySem.W.mg_of X G a4⟩,
    d_law_row:=⟨f5,_,zx (st:=jv) l5 c5 k5,PySem.W.mg_of X G a5⟩,
    d_law_ratio:=⟨f6,_,zx (st:=JC) l6 c6 k6,PySem.W.mg_of X G a6⟩,
    d_law_bounds:=⟨f7,_,zx (st:=j6) l7 c7 k7,PySem.W.mg_of X G a7⟩,
    d_law_no_bounds:=⟨f8,_,zx (st:=JD) l8 c8 k8,PySem.W.mg_of X G a8⟩,
    d_law_no_row:=⟨f9,_,zx (st:=j5) l9 c9 k9,PySem.W.mg_of X G a9⟩,
    d_law_no_spells:=⟨f10,_,zx (st:=jo) l10 c10 k10,PySem.W.mg_of X G a10⟩,
    d_check_weights:=⟨f11,_,zx (st:=j9) l11 c11 k11,PySem.W.mg_of X G a11⟩,
    d_all_turns:=⟨f12,_,zx (st:=jR) l12 c12 k12,PySem.W.mg_of X G a12⟩,
    d_check_spells:=⟨f13,_,zx (st:=j1) l13 c13 k13,PySem.W.mg_of X G a13⟩,
    d_common_divisor:=⟨f14,_,zx (st:=Jc) l14 c14 k14,PySem.W.mg_of X G a14⟩,
    d_divisor_of_all:=⟨f15,_,zx (st:=JA) l15 c15 k15,PySem.W.mg_of X G a15⟩,
    d_least_bottom:=⟨f16,_,zx (st:=Js) l16 c16 k16,PySem.W.mg_of X G a16⟩,
    d_shares_over:=⟨f17,_,zx (st:=jQ) l17 c17 k17,PySem.W.mg_of X G a17⟩,
    d_quotas:=⟨f18,_,zx (st:=jB) l18 c18 k18,PySem.W.mg_of X G a18⟩,
    d_check_row:=⟨f19,_,zx (st:=j7) l19 c19 k19,PySem.W.mg_of X G a19⟩,
    d_leads:=⟨f20,_,zx (st:=jA) l20 c20 k20,PySem.W.mg_of X G a20⟩,
    d_is_whole:=⟨f21,_,zx (st:=JB) l21 c21 k21,PySem.W.mg_of X G a21⟩,
    d_ratio:=⟨f22,_,zx (st:=j4) l22 c22 k22,PySem.W.mg_of X G a22⟩,
    d_distance:=⟨f23,_,zx (st:=JF) l23 c23 k23,PySem.W.mg_of X G a23⟩,
    d_less:=⟨f24,_,zx (st:=Jt) l24 c24 k24,PySem.W.mg_of X G a24⟩,
    d_check_bounds:=⟨f25,_,zx (st:=Jl) l25 c25 k25,PySem.W.mg_of X G a25⟩,
    d_room_at_most:=⟨f26,_,zx (st:=Ja) l26 c26 k26,PySem.W.mg_of X G a26⟩,
    d_rooms_of:=⟨f27,_,zx (st:=jW) l27 c27 k27,PySem.W.mg_of X G a27⟩,
    d_keeps:=⟨f28,_,zx (st:=Jx) l28 c28 k28,PySem.W.mg_of X G a28⟩,
    d_first_turn:=⟨f29,_,zx (st:=Jk) l29 c29 k29,PySem.W.mg_of X G a29⟩,
    d_window_of:=⟨f30,_,zx (st:=j8) l30 c30 k30,PySem.W.mg_of X G a30⟩,
    d_windows_of_clan:=⟨f31,_,zx (st:=jZ) l31 c31 k31,PySem.W.mg_of X G a31⟩,
    d_windows_within:=⟨f32,_,zx (st:=j0) l32 c32 k32,PySem.W.mg_of X G a32⟩,
    d_windows:=⟨f33,_,zx (st:=Ji) l33 c33 k33,PySem.W.mg_of X G a33⟩,
    d_room_less:=⟨f34,_,zx (st:=JG) l34 c34 k34,PySem.W.mg_of X G a34⟩,
    d_windows_less:=⟨f35,_,zx (st:=jM) l35 c35 k35,PySem.W.mg_of X G a35⟩,
    d_law_answer:=⟨f36,_,zx (st:=Jm) l36 c36 k36,PySem.W.mg_of X G a36⟩,
    d_law:=⟨f37,_,zx (st:=jE) l37 c37 k37,PySem.W.mg_of X G a37⟩,
    m_ClanError:=PySem.W.mg_of X G m_ClanError,
    m_NoRatio:=PySem.W.mg_of X G m_NoRatio,
    m_NoText:=PySem.W.mg_of X G m_NoText,
    m_NoSpell:=PySem.W.mg_of X G m_NoSpell,
    m_NoRow:=PySem.W.mg_of X G m_NoRow,
    m_NoBounds:=PySem.W.mg_of X G m_NoBounds,
    m_NoDistance:=PySem.W.mg_of X G m_NoDistance,
    m_NoClan:=PySem.W.mg_of X G m_NoClan,
    m_TooLong:=PySem.W.mg_of X G m_TooLong,
    m_NoRule:=PySem.W.mg_of X G m_NoRule,
    m_NoLine:=PySem.W.mg_of X G m_NoLine,
    m_NoNumber:=PySem.W.mg_of X G m_NoNumber,
    m_NoName:=PySem.W.mg_of X G m_NoName,
    m_Known:=PySem.W.mg_of X G m_Known,
    m_TooMany:=PySem.W.mg_of X G m_TooMany,
    e_NoSpell:=e_NoSpell,
    e_NoBounds:=e_NoBounds,
    e_NoRow:=e_NoRow,
    e_NoDistance:=e_NoDistance,
    e_NoRatio:=e_NoRatio,
    k_NoSpell:=k_NoSpell,
    k_NoBounds:=k_NoBounds,
    k_NoRow:=k_NoRow,
    k_NoDistance:=k_NoDistance,
    n_ValueError:=PySem.W.mg_none_of X G n_ValueError,
    n_abs:=PySem.W.mg_none_of X G n_abs,
    n_bool:=PySem.W.mg_none_of X G n_bool,
    n_enumerate:=PySem.W.mg_none_of X G n_enumerate,
    n_int:=PySem.W.mg_none_of X G n_int,
    n_isinstance:=PySem.W.mg_none_of X G n_isinstance,
    n_len:=PySem.W.mg_none_of X G n_len,
    n_list:=PySem.W.mg_none_of X G n_list,
    n_max:=PySem.W.mg_none_of X G n_max,
    n_min:=PySem.W.mg_none_of X G n_min,
    n_range:=PySem.W.mg_none_of X G n_range,
    n_sum:=PySem.W.mg_none_of X G n_sum,
    n_zip:=PySem.W.mg_none_of X G n_zip,
    m_LEAST_BOUND:=⟨_,PySem.W.mg_of X G m_LEAST_BOUND,_,_,_,q_LEAST_BOUND,rfl,rfl,by show(2:Nat)≤sizeLine;decide,(.cons ⟨_,rfl⟩ (.cons ⟨_,rfl⟩ .nil))⟩,
    m_MOST_BOUND:=⟨_,PySem.W.mg_of X G m_MOST_BOUND,_,_,_,q_MOST_BOUND,rfl,rfl,by show(2:Nat)≤sizeLine;decide,(.cons ⟨_,rfl⟩ (.cons ⟨_,rfl⟩ .nil))⟩,
    m_MOST_SPELLS:=⟨_,PySem.W.mg_of X G m_MOST_SPELLS⟩,
    m_MOST_CLANS:=⟨_,PySem.W.mg_of X G m_MOST_CLANS⟩,
    m_MOST_TURNS:=⟨_,PySem.W.mg_of X G m_MOST_TURNS⟩ }⟩
section
variable {P:Program} {w:World} {c:Law.Cl} {K:PySem.W.Frag} {mg:Str→Option Value} {base:Heap}
theorem zbY (T:Txt c K mg):dd_law_cell_at P w K mg base:=zgj T
theorem zh5 (T:Txt c K mg):dd_law_mixed P w K mg base:=zeh T
theorem zbb (T:Txt c K mg):dd_law_wide P w K mg base:=zhQ T (zh5 T)
theorem zh0 (T:Txt c K mg):dd_law_spells P w K mg base:=zg4 T (zbY T) (zbb T)
theorem ze1 (T:Txt c K mg):dd_law_quotas P w K mg base:=zeF T
theorem zdY (T:Txt c K mg):dd_law_row P w K mg base:=zgf T (zbb T)
theorem zbc (T:Txt c K mg):dd_law_ratio P w K mg base:=zeZ T
theorem zgP (T:Txt c K mg):dd_law_bounds P w K mg base:=ze0 T (zbb T) (zbc T)
theorem zdk (T:Txt c K mg):dd_law_no_bounds P w K mg base:=zhn T (zbc T)
theorem zhx (T:Txt c K mg):dd_law_no_row P w K mg base:=zdZ T
theorem zji (T:Txt c K mg):dd_law_no_spells P w K mg base:=ziq T
theorem zdy (T:Txt c K mg):dd_check_weights c P w K mg base:=zgB T
theorem zeg (T:Txt c K mg):dd_all_turns P w K mg base:=zdg T
theorem zfV (T:Txt c K mg):dd_check_spells c P w K mg base:=zes T (zdy T) (zeg T)
theorem zaK (T:Txt c K mg):dd_common_divisor P w K mg base:=zeO T
theorem zfT (T:Txt c K mg):dd_divisor_of_all P w K mg base:=zjF T (zaK T)
theorem zjh (T:Txt c K mg):dd_least_bottom P w K mg base:=zdj T (zfT T) (zaK T)
theorem zjC (T:Txt c K mg):dd_shares_over P w K mg base:=zh2 T
theorem zam (T:Txt c K mg):dd_quotas c P w K mg base:=zeB T (zfV T) (zjh T) (zjC T)
theorem zfx (T:Txt c K mg):dd_check_row c P w K mg base:=zjH T
theorem zb0 (T:Txt c K mg):dd_leads c P w K mg base:=zgu T (zfx T)
theorem zh1 (T:Txt c K mg):dd_is_whole P w K mg base:=zjm T
theorem zhD (T:Txt c K mg):dd_ratio P w K mg base:=zeU T (zaK T) (zh1 T)
theorem zfa (T:Txt c K mg):dd_distance c P w K mg base:=ziP T (zam T) (zb0 T) (zhD T)
theorem zcw (T:Txt c K mg):dd_less P w K mg base:=zga T
theorem zi9 (T:Txt c K mg):dd_check_bounds c P w K mg base:=zhp T (zcw T)
theorem zi3 (T:Txt c K mg):dd_room_at_most P w K mg base:=zeb T
theorem zbS (T:Txt c K mg):dd_rooms_of c P w K mg base:=zd3 T (zi9 T) (zi3 T)
theorem zdq (T:Txt c K mg):dd_keeps c P w K mg base:=zgA T (zam T) (zbS T) (zb0 T)
theorem zeY (T:Txt c K mg):dd_first_turn P w K mg base:=zea T
theorem zfi (T:Txt c K mg):dd_window_of P w K mg base:=zgq T (zeY T)
theorem zdS (T:Txt c K mg):dd_windows_of_clan P w K mg base:=zgC T (zfi T)
theorem zbA (T:Txt c K mg):dd_windows_within P w K mg base:=ziR T (zdS T)
theorem zdx (T:Txt c K mg):dd_windows c P w K mg base:=ziu T (zam T) (zbA T) (zbS T)
theorem zed (T:Txt c K mg):dd_room_less P w K mg base:=zgI T
theorem zev (T:Txt c K mg):dd_windows_less c P w K mg base:=zfn T (zam T) (zed T) (zbA T) (zcw T)
theorem zfc (T:Txt c K mg):dd_law_answer P w K mg base:=zf4 T (zfa T) (zdq T) (zdx T) (zev T)
theorem zd9 (T:Txt c K mg) {f:Addr} {fd:FuncData} (F:Fun K "law" "law" jE f fd):FnOk P w K mg base (CXR P w) 7 f fd ["_law_script"] (spL K JH):=zgT T (zh0 T) (ze1 T) (zdY T) (zgP T) (zbc T) (zbY T) (zdk T) (zhx T) (zji T) (zfc T) F
end
theorem walk {l:PySem.W.OpenLaw} {q:Program} {loose:List Str} {XP:(Str→Option Value)→Heap→Prop} {YP:World→Heap→Prop} {d:DefRec} {K:Params→PySem.W.Frag} (hn:l.most=some 63) (hdf:d.params.defaults=[]) (hdn:d.name = "law")
    (hY:∀ (w:World) (h:Heap),YP w h→(K w.params).In h)
    (F:∀ (w:World) (mg:Str→Option Value) (h:Heap),(K w.params).In h→h.Ns mainGlobals mg→∃ c,Txt c (K w.params) mg) :
    PySem.W.WalkO q loose XP YP l.row.toRowW d [] (fun f vs=>PySem.call f vs):=by
  refine L2.zgL (n:=63) (k:=7) (x:="_law_script") (CX:=fun w=>CXR l.prog w) (sp:=fun w=>spL (K w.params) JH) hn (by decide) hdf ⟨rfl,by decide,by decide⟩ hY (fun w mg fa h KX G hmg=>?_) (fun w H a ns hl _ hS=>⟨H,[.list (ns.map .int)],Same.refl _,.cons (.lst hS (zbh ns)) .nil,ns,rfl,hl,fun v G' H' _ r=>zaU r.rd⟩) (fun w H s e s' z=>?_)
  · obtain⟨c,T⟩:=F w mg h KX G
    obtain⟨f,fd,Fn,hm⟩:=T.d_law;rw [hdn,hm] at hmg;cases hmg;have Fn':=Fn;obtain⟨oc,od,kV,doc,pm,an,cdv,ct,osl,rfl,lk,hcd⟩:=Fn.ex;exact⟨_,fun s u=>.of_eq rfl,fun base _ _=>zd9 T Fn'⟩
  · obtain⟨_,_,_,_,_,hf⟩:=z
    exact hf
end Law
namespace PySem.W.Fast
theorem tw10017686831819767662:True:=trivial
theorem tw10205207944972275775:True:=trivial
theorem tw10209501225903838997:True:=trivial
theorem tw11153007632246592691:True:=trivial
theorem tw11370569534835291155:True:=trivial
theorem tw11624538673559394729:True:=trivial
theorem tw11821138051564516849:True:=trivial
theorem tw12029192907538847113:True:=trivial
theorem tw12114332859920870949:True:=trivial
theorem tw12261867486966887275:True:=trivial
theorem tw12295269716194528506:True:=trivial
theorem tw12353882182995581845:True:=trivial
theorem tw12578440727168753919:True:=trivial
theorem tw12813105951284240277:True:=trivial
theorem tw13922154540888026604:True:=trivial
theorem tw14524510948014552061:True:=trivial
theorem tw1474844690048206234:True:=trivial
theorem tw14936912285178838800:True:=trivial
theorem tw15463808993409728509:True:=trivial
theorem tw15892696808867780061:True:=trivial
theorem tw15914490554903864786:True:=trivial
theorem tw16013305690512470073:True:=trivial
theorem tw16088812016491343749:True:=trivial
theorem tw16225036210015117740:True:=trivial
theorem tw17507323062468812373:True:=trivial
theorem tw17549943199177445262:True:=trivial
theorem tw18212072043543964145:True:=trivial
theorem tw1888342482488155512:True:=trivial
theorem tw1943480177933717097:True:=trivial
theorem tw2061986410629309796:True:=trivial
theorem tw2325892571385684801:True:=trivial
theorem tw2428132359489103769:True:=trivial
theorem tw2488050830742354185:True:=trivial
theorem tw2560968308007139289:True:=trivial
theorem tw2657162866966373591:True:=trivial
theorem tw3182926964958623456:True:=trivial
theorem tw3355505565567328023:True:=trivial
theorem tw3520643535081185539:True:=trivial
theorem tw364999976917505062:True:=trivial
theorem tw4010472607950838327:True:=trivial
theorem tw4166701298813258029:True:=trivial
theorem tw4205638495525670003:True:=trivial
theorem tw4330853204485971788:True:=trivial
theorem tw4785396610841391512:True:=trivial
theorem tw5533235332899976350:True:=trivial
theorem tw6301533138085298389:True:=trivial
theorem tw637038085504411864:True:=trivial
theorem tw6422653185528066974:True:=trivial
theorem tw6841404694277618545:True:=trivial
theorem tw7698067909170452750:True:=trivial
theorem tw7907466251045473618:True:=trivial
theorem tw8307276216598142500:True:=trivial
theorem tw8492358632329913310:True:=trivial
theorem tw8679230082510093989:True:=trivial
theorem tw882652039397443833:True:=trivial
theorem tw9035650312361675164:True:=trivial
theorem tw9100275926663443316:True:=trivial
theorem tw9153027445679247567:True:=trivial
theorem tw9429069235522913830:True:=trivial
theorem tw9554604024833120982:True:=trivial
end PySem.W.Fast
theorem PySem.W.Fast.te1766960185699056677:True:=trivial
abbrev PySem.W.Fast.tw8464918194831503186:PySem.Program:=PySem.Challenge.pw_chairclans_k13_rows_and_windows_refused
theorem PySem.W.Fast.te8464918194831503186:PySem.Challenge.pw_chairclans_k13_rows_and_windows_refused=PySem.W.Fast.tw8464918194831503186:=rfl
open PySem PySem.W PyProof.Rows
set_option maxRecDepth 100000 in
set_option maxHeartbeats 0 in
theorem PySem.Challenge.cw_chairclans_k13_rows_and_windows_refused_holds : PySem.Challenge.rw_chairclans_k13_rows_and_windows_refused.Holds := by
  w_on;o_law;k_head;(case hw=>w_witness2)
  k_fill
  refine Law.walk (l:=PySem.Challenge.rw_chairclans_k13_rows_and_windows_refused) rfl rfl rfl (fun w h Y=>PySem.W.kIn_of Y) ?F
  case F=>
    intro w mg h KX G;refine' Law.zjy KX G ?a0 ?l0 ?c0 ?k0 ?a1 ?l1 ?c1 ?k1 ?a2 ?l2 ?c2 ?k2 ?a3 ?l3 ?c3 ?k3 ?a4 ?l4 ?c4 ?k4 ?a5 ?l5 ?c5 ?k5 ?a6 ?l6 ?c6 ?k6 ?a7 ?l7 ?c7 ?k7 ?a8 ?l8 ?c8 ?k8 ?a9 ?l9 ?c9 ?k9 ?a10 ?l10 ?c10 ?k10 ?a11 ?l11 ?c11 ?k11 ?a12 ?l12 ?c12 ?k12 ?a13 ?l13 ?c13 ?k13 ?a14 ?l14 ?c14 ?k14 ?a15 ?l15 ?c15 ?k15 ?a16 ?l16 ?c16 ?k16 ?a17 ?l17 ?c17 ?k17 ?a18 ?l18 ?c18 ?k18 ?a19 ?l19 ?c19 ?k19 ?a20 ?l20 ?c20 ?k20 ?a21 ?l21 ?c21 ?k21 ?a22 ?l22 ?c22 ?k22 ?a23 ?l23 ?c23 ?k23 ?a24 ?l24 ?c24 ?k24 ?a25 ?l25 ?c25 ?k25 ?a26 ?l26 ?c26 ?k26 ?a27 ?l27 ?c27 ?k27 ?a28 ?l28 ?c28 ?k28 ?a29 ?l29 ?c29 ?k29 ?a30 ?l30 ?c30 ?k30 ?a31 ?l31 ?c31 ?k31 ?a32 ?l32 ?c32 ?k32 ?a33 ?l33 ?c33 ?k33 ?a34 ?l34 ?c34 ?k34 ?a35 ?l35 ?c35 ?k35 ?a36 ?l36 ?c36 ?k36 ?a37 ?l37 ?c37 ?k37 ?m_ClanError ?m_NoRatio ?m_NoText ?m_NoSpell ?m_NoRow ?m_NoBounds ?m_NoDistance ?m_NoClan ?m_TooLong ?m_NoRule ?m_NoLine ?m_NoNumber ?m_NoName ?m_Known ?m_TooMany ?e_NoSpell ?e_NoBounds ?e_NoRow ?e_NoDistance ?e_NoRatio ?k_NoSpell ?k_NoBounds ?k_NoRow ?k_NoDistance ?n_ValueError ?n_abs ?n_bool ?n_enumerate ?n_int ?n_isinstance ?n_len ?n_list ?n_max ?n_min ?n_range ?n_sum ?n_zip ?m_LEAST_BOUND ?q_LEAST_BOUND ?m_MOST_BOUND ?q_MOST_BOUND ?m_MOST_SPELLS ?m_MOST_CLANS ?m_MOST_TURNS
    (case a0|l0|c0|k0|a1|l1|c1|k1|a2|l2|c2|k2|a3|l3|c3|k3|a4|l4|c4|k4|a5|l5|c5|k5|a6|l6|c6|k6|a7|l7|c7|k7|a8|l8|c8|k8|a9|l9|c9|k9|a10|l10|c10|k10|a11|l11|c11|k11|a12|l12|c12|k12|a13|l13|c13|k13|a14|l14|c14|k14|a15|l15|c15|k15|a16|l16|c16|k16|a17|l17|c17|k17|a18|l18|c18|k18|a19|l19|c19|k19|a20|l20|c20|k20|a21|l21|c21|k21|a22|l22|c22|k22|a23|l23|c23|k23|a24|l24|c24|k24|a25|l25|c25|k25|a26|l26|c26|k26|a27|l27|c27|k27|a28|l28|c28|k28|a29|l29|c29|k29|a30|l30|c30|k30|a31|l31|c31|k31|a32|l32|c32|k32|a33|l33|c33|k33|a34|l34|c34|k34|a35|l35|c35|k35|a36|l36|c36|k36|a37|l37|c37|k37|m_ClanError|m_NoRatio|m_NoText|m_NoSpell|m_NoRow|m_NoBounds|m_NoDistance|m_NoClan|m_TooLong|m_NoRule|m_NoLine|m_NoNumber|m_NoName|m_Known|m_TooMany=>k_is)
    (case e_NoSpell|e_NoBounds|e_NoRow|e_NoDistance|e_NoRatio=>k_exc)
    (case k_NoSpell|k_NoBounds|k_NoRow|k_NoDistance=>exact⟨⟨by k_is,by k_is,by k_is,by k_is,by k_is,by k_is⟩,by kts_exm,by kit_is,by kit_is,by kit_is,by kit_is,by kit_is,by kit_is⟩)
    (case n_ValueError|n_abs|n_bool|n_enumerate|n_int|n_isinstance|n_len|n_list|n_max|n_min|n_range|n_sum|n_zip|m_LEAST_BOUND|q_LEAST_BOUND|m_MOST_BOUND|q_MOST_BOUND|m_MOST_SPELLS|m_MOST_CLANS|m_MOST_TURNS=>k_is)
